/-
  Deeds of a disk, by numbers. No statement is proved here.
-/
import Derived.Test.YtdcccjkondjhbaaL4Awake
namespace Go.Proofs.Ytdcccjkondjhbaa
open Go.RowKit Go.Maps

/-- A deed that came in. -/
structure ActV where
  op : UInt8
  name : UInt8
  to_ : UInt8
  A : Option Addr
  c : Nat
  row : List UInt8
  num : Int
def ActV.cells (x : ActV) : List Value := [.int .u8 (x.op.toNat : Int), .int .u8 (x.name.toNat : Int), .int .u8 (x.to_.toNat : Int), .slice x.A x.row.length x.c, .int .i16 x.num]
def ActV.val (x : ActV) : Value := .agg #[.int .u8 (x.op.toNat : Int), .int .u8 (x.name.toNat : Int), .int .u8 (x.to_.toNat : Int), .slice x.A x.row.length x.c, .int .i16 x.num]
/-- One of a few names. -/
def nm (n : UInt8) : List UInt8 := [102, UInt8.ofNat (97 + n.toNat % 6)]
theorem nm_len (n : UInt8) : (nm n).length ≤ maxLen := small_name _ (by simp [nm])
def St.do_ (S : St) (x : ActV) (f : Nat) (b : List UInt8) : Nat × St :=
  match x.op.toNat % 12 with
  | 0 => S.create (nm x.name) f
  | 1 => S.create (nm x.name) f
  | 3 => S.cut (nm x.name) x.num
  | 4 => S.sync (nm x.name)
  | 5 => S.syncDir
  | 6 => S.rename (nm x.name) (nm x.to_)
  | 9 => S.sync (nm x.name)
  | 10 => S.remove (nm x.name)
  | 11 => S.remove (nm x.name)
  | _ => S.append (nm x.name) b

set_option maxRecDepth 100000 in
set_option maxHeartbeats 2000000 in
theorem name_any (n : UInt8) (w : World) : Calls Try.prog 24 #[.int .u8 (n.toNat : Int)] w fun e w' => e = .returned (.string (str (nm n))) ∧ w = w' := by
  have hn := n.toNat_lt
  have h6 : n.toNat % 6 = 0 ∨ n.toNat % 6 = 1 ∨ n.toNat % 6 = 2 ∨ n.toNat % 6 = 3 ∨ n.toNat % 6 = 4 ∨ n.toNat % 6 = 5 := by omega
  unfold nm
  rcases h6 with h6 | h6 | h6 | h6 | h6 | h6
  · have hi : (n.toNat : Int) % 6 = 0 := by omega
    rw [h6]
    go_enter Try.func24, Try.ntmps24
    go_wp2
    go_ret
    exact ⟨rfl, rfl⟩
  · have hi : (n.toNat : Int) % 6 = 1 := by omega
    rw [h6]
    go_enter Try.func24, Try.ntmps24
    go_wp2
    go_ret
    exact ⟨rfl, rfl⟩
  · have hi : (n.toNat : Int) % 6 = 2 := by omega
    rw [h6]
    go_enter Try.func24, Try.ntmps24
    go_wp2
    go_ret
    exact ⟨rfl, rfl⟩
  · have hi : (n.toNat : Int) % 6 = 3 := by omega
    rw [h6]
    go_enter Try.func24, Try.ntmps24
    go_wp2
    go_ret
    exact ⟨rfl, rfl⟩
  · have hi : (n.toNat : Int) % 6 = 4 := by omega
    rw [h6]
    go_enter Try.func24, Try.ntmps24
    go_wp2
    go_ret
    exact ⟨rfl, rfl⟩
  · have hi : (n.toNat : Int) % 6 = 5 := by omega
    rw [h6]
    go_enter Try.func24, Try.ntmps24
    go_wp2
    go_ret
    exact ⟨rfl, rfl⟩

set_option maxRecDepth 100000 in
set_option maxHeartbeats 4000000 in
theorem do_any (F G : Nat → Prop) (d : Nat) (S : St) (x : ActV) (a : Option Addr) (n cp : Nat) (b : List UInt8) (w : World) (h : Dk w F d S) (hc : S.calls < 1000000) (hb : Lies w G a (b.map bv)) (hbn : b.length = n) (hvol : S.vol + n ≤ 1000000000) (hx1 : -32768 ≤ x.num) (hx2 : x.num ≤ 32767) :
    Calls Try.prog 9 #[.pointer (some ⟨d, 0, none⟩), x.val, .slice a n cp] w fun e w' => ∃ f, e = .returned (.int .i64 ((S.do_ x f b).1 : Int)) ∧ Did F w w' d (S.do_ x f b).2 ∧ S.fl f = none := by
  obtain ⟨f0, hf0⟩ : ∃ f, S.fl f = none := by
    obtain ⟨mc, ms, A, c, R, h⟩ := h
    exact ⟨w.heap.size, by
      cases hf : S.fl w.heap.size with
      | none => rfl
      | some l => have := h.lt _ (h.ffil _ l hf).1; omega⟩
  have HF0 := Lib.hid hf0; clear hf0
  obtain ⟨op, na, to_, xA, xc, row, num⟩ := x
  unfold ActV.val St.do_
  simp only at hx1 hx2 ⊢
  have hwn : IntKind.i64.wrap num = num := wrap_small (by omega) (by omega)
  obtain ⟨L, hL⟩ : ∃ L, L = row.length := ⟨_, rfl⟩
  rw [← hL]
  clear hL
  have k0 := Kept.alloc noBlock w (.cells #[.int .u8 (op.toNat : Int), .int .u8 (na.toNat : Int), .int .u8 (to_.toNat : Int), .slice xA L xc, .int .i16 num] 35)
  have hB := heap_alloc_new w (.cells #[.int .u8 (op.toNat : Int), .int .u8 (na.toNat : Int), .int .u8 (to_.toNat : Int), .slice xA L xc, .int .i16 num] 35)
  have h0 := h.keep k0 (fun _ _ h => h)
  have hb0 := hb.keep k0 (fun _ _ h => h)
  have hlt := h.lt
  generalize hw0 : w.alloc (.cells #[.int .u8 (op.toNat : Int), .int .u8 (na.toNat : Int), .int .u8 (to_.toNat : Int), .slice xA L xc, .int .i16 num] 35) = w0 at k0 hB h0 hb0
  have c0 : w0.cell? ⟨w.heap.size, 0, none⟩ = some (.int .u8 (op.toNat : Int)) := cell_of_row _ _ _ _ _ _ hB
  have c1 : w0.cell? ⟨w.heap.size, 1, none⟩ = some (.int .u8 (na.toNat : Int)) := cell_of_row _ _ _ _ _ _ hB
  have c2 : w0.cell? ⟨w.heap.size, 2, none⟩ = some (.int .u8 (to_.toNat : Int)) := cell_of_row _ _ _ _ _ _ hB
  have c4 : w0.cell? ⟨w.heap.size, 4, none⟩ = some (.int .i16 num) := cell_of_row _ _ _ _ _ _ hB
  have H0 := Lib.hid h0
  have HB0 := Lib.hid hb0
  have K0 := Lib.hid k0
  have HLT := Lib.hid hlt
  have HBN := Lib.hid hbn
  clear h0 hb0 k0 hlt h hb hB hbn
  have fin : ∀ (f : Nat) (r : Nat × St) (w' : World), Did F w0 w' d r.2 → S.fl f = none → Did F w w' d r.2 ∧ S.fl f = none := fun f r w' D hf => ⟨Did.after K0.out HLT.out D, hf⟩
  have FIN := Lib.hid fin; clear fin
  obtain ⟨r, hr⟩ : ∃ r, r = op.toNat % 12 := ⟨_, rfl⟩
  have hri : (op.toNat : Int) % 12 = (r : Int) := by omega
  have hr12 : r < 12 := by omega
  rw [← hr]
  have HR := Lib.hid hr; clear hr
  have h12 : r = 0 ∨ r = 1 ∨ r = 2 ∨ r = 3 ∨ r = 4 ∨ r = 5 ∨ r = 6 ∨ r = 7 ∨ r = 8 ∨ r = 9 ∨ r = 10 ∨ r = 11 := by omega
  rcases h12 with rfl | rfl | rfl | rfl | rfl | rfl | rfl | rfl | rfl | rfl | rfl | rfl
  · go_enter Try.func9, Try.ntmps9
    go_wp2_with fail
    clear hw0
    refine (name_any na w0).mono ?_
    rintro e w1 ⟨rfl, rfl⟩
    go_wp2_with fail
    refine (create_any F d S (nm na) w0 H0.out (nm_len na) hc).mono ?_
    rintro e w1 ⟨f, rfl, hd1, hf⟩
    have HD := Lib.hid (FIN.out f (S.create (nm na) f) w1 hd1 hf); clear hd1
    go_wp2
    go_ret
    exact ⟨f, rfl, HD.out⟩
  · go_enter Try.func9, Try.ntmps9
    go_wp2_with fail
    clear hw0
    refine (name_any na w0).mono ?_
    rintro e w1 ⟨rfl, rfl⟩
    go_wp2_with fail
    refine (create_any F d S (nm na) w0 H0.out (nm_len na) hc).mono ?_
    rintro e w1 ⟨f, rfl, hd1, hf⟩
    have HD := Lib.hid (FIN.out f (S.create (nm na) f) w1 hd1 hf); clear hd1
    go_wp2
    go_ret
    exact ⟨f, rfl, HD.out⟩
  · go_enter Try.func9, Try.ntmps9
    go_wp2_with fail
    clear hw0
    refine (name_any na w0).mono ?_
    rintro e w1 ⟨rfl, rfl⟩
    go_wp2_with fail
    refine (append_any F G d S (nm na) a n cp b w0 H0.out (nm_len na) hc HB0.out HBN.out hvol).mono ?_
    rintro e w1 ⟨rfl, hd1⟩
    have HD := Lib.hid (FIN.out f0 (S.append (nm na) b) w1 hd1 HF0.out); clear hd1
    go_wp2
    go_ret
    exact ⟨f0, rfl, HD.out⟩
  · go_enter Try.func9, Try.ntmps9
    go_wp2_with fail
    clear hw0
    refine (name_any na w0).mono ?_
    rintro e w1 ⟨rfl, rfl⟩
    go_wp2_with fail
    refine (cut_any F d S (nm na) num w0 H0.out (nm_len na) hc).mono ?_
    rintro e w1 ⟨rfl, hd1⟩
    have HD := Lib.hid (FIN.out f0 (S.cut (nm na) num) w1 hd1 HF0.out); clear hd1
    go_wp2
    go_ret
    exact ⟨f0, rfl, HD.out⟩
  · go_enter Try.func9, Try.ntmps9
    go_wp2_with fail
    clear hw0
    refine (name_any na w0).mono ?_
    rintro e w1 ⟨rfl, rfl⟩
    go_wp2_with fail
    refine (sync_any F d S (nm na) w0 H0.out (nm_len na) hc).mono ?_
    rintro e w1 ⟨rfl, hd1⟩
    have HD := Lib.hid (FIN.out f0 (S.sync (nm na)) w1 hd1 HF0.out); clear hd1
    go_wp2
    go_ret
    exact ⟨f0, rfl, HD.out⟩
  · go_enter Try.func9, Try.ntmps9
    go_wp2_with fail
    clear hw0
    refine (name_any na w0).mono ?_
    rintro e w1 ⟨rfl, rfl⟩
    go_wp2_with fail
    refine (syncdir_any F d S w0 H0.out hc).mono ?_
    rintro e w1 ⟨rfl, hd1⟩
    have HD := Lib.hid (FIN.out f0 (S.syncDir) w1 hd1 HF0.out); clear hd1
    go_wp2
    go_ret
    exact ⟨f0, rfl, HD.out⟩
  · go_enter Try.func9, Try.ntmps9
    go_wp2_with fail
    clear hw0
    refine (name_any na w0).mono ?_
    rintro e w1 ⟨rfl, rfl⟩
    go_wp2_with fail
    refine (name_any to_ w0).mono ?_
    rintro e w1 ⟨rfl, rfl⟩
    go_wp2_with fail
    refine (rename_any F d S (nm na) (nm to_) w0 H0.out (nm_len na) (nm_len to_) hc).mono ?_
    rintro e w1 ⟨rfl, hd1⟩
    have HD := Lib.hid (FIN.out f0 (S.rename (nm na) (nm to_)) w1 hd1 HF0.out); clear hd1
    go_wp2
    go_ret
    exact ⟨f0, rfl, HD.out⟩
  · go_enter Try.func9, Try.ntmps9
    go_wp2_with fail
    clear hw0
    refine (name_any na w0).mono ?_
    rintro e w1 ⟨rfl, rfl⟩
    go_wp2_with fail
    refine (append_any F G d S (nm na) a n cp b w0 H0.out (nm_len na) hc HB0.out HBN.out hvol).mono ?_
    rintro e w1 ⟨rfl, hd1⟩
    have HD := Lib.hid (FIN.out f0 (S.append (nm na) b) w1 hd1 HF0.out); clear hd1
    go_wp2
    go_ret
    exact ⟨f0, rfl, HD.out⟩
  · go_enter Try.func9, Try.ntmps9
    go_wp2_with fail
    clear hw0
    refine (name_any na w0).mono ?_
    rintro e w1 ⟨rfl, rfl⟩
    go_wp2_with fail
    refine (append_any F G d S (nm na) a n cp b w0 H0.out (nm_len na) hc HB0.out HBN.out hvol).mono ?_
    rintro e w1 ⟨rfl, hd1⟩
    have HD := Lib.hid (FIN.out f0 (S.append (nm na) b) w1 hd1 HF0.out); clear hd1
    go_wp2
    go_ret
    exact ⟨f0, rfl, HD.out⟩
  · go_enter Try.func9, Try.ntmps9
    go_wp2_with fail
    clear hw0
    refine (name_any na w0).mono ?_
    rintro e w1 ⟨rfl, rfl⟩
    go_wp2_with fail
    refine (sync_any F d S (nm na) w0 H0.out (nm_len na) hc).mono ?_
    rintro e w1 ⟨rfl, hd1⟩
    have HD := Lib.hid (FIN.out f0 (S.sync (nm na)) w1 hd1 HF0.out); clear hd1
    go_wp2
    go_ret
    exact ⟨f0, rfl, HD.out⟩
  · go_enter Try.func9, Try.ntmps9
    go_wp2_with fail
    clear hw0
    refine (name_any na w0).mono ?_
    rintro e w1 ⟨rfl, rfl⟩
    go_wp2_with fail
    refine (remove_any F d S (nm na) w0 H0.out (nm_len na) hc).mono ?_
    rintro e w1 ⟨rfl, hd1⟩
    have HD := Lib.hid (FIN.out f0 (S.remove (nm na)) w1 hd1 HF0.out); clear hd1
    go_wp2
    go_ret
    exact ⟨f0, rfl, HD.out⟩
  · go_enter Try.func9, Try.ntmps9
    go_wp2_with fail
    clear hw0
    refine (name_any na w0).mono ?_
    rintro e w1 ⟨rfl, rfl⟩
    go_wp2_with fail
    refine (remove_any F d S (nm na) w0 H0.out (nm_len na) hc).mono ?_
    rintro e w1 ⟨rfl, hd1⟩
    have HD := Lib.hid (FIN.out f0 (S.remove (nm na)) w1 hd1 HF0.out); clear hd1
    go_wp2
    go_ret
    exact ⟨f0, rfl, HD.out⟩
end Go.Proofs.Ytdcccjkondjhbaa
