/-
  What the statements of layer 9 say in their own words: heads, frames, files of entries. No statement is proved here.
-/
import Derived.Test.YthmjjhjblokjeaaI9Head
import Derived.Test.YthmjjhjblokjeaaEntK
namespace Go.Proofs.Ythmjjhjblokjeaa
open Go.RowKit Tot

theorem run_str9 {w : World} {F : Nat → Prop} {a : Option Addr} {n : Nat} {l : List UInt8} (h : Lies w F a (l.map bv)) (hl : l.length = n) (c : Nat) : (convert 30 9 (.slice a n c)).run Try.prog w = .ok (.string (str l)) w :=
  run_str_lies 30 9 5 Try.underlying30 Try.underlying5 Try.underlying9 h hl c

set_option maxRecDepth 100000 in
set_option maxHeartbeats 1000000 in
theorem lhead_any (k : UInt8) (f t : Int) (w : World) :
    Calls Try.prog 13 #[.int .i64 (k.toNat : Int), .int .i64 f, .int .i64 t] w fun e w' => e = .returned (.string (str (headB k f t))) ∧ Kept noBlock w w' := by
  obtain ⟨z, hz⟩ : ∃ z : Int, z = (k.toNat : Int) := ⟨_, rfl⟩
  have HK : Hid (z % 256 = (k.toNat : Int)) := by rw [hz]; exact Lib.hid (kind_byte k)
  rw [← hz]
  have HZ := Lib.hid hz
  clear hz
  have p0 := Pen.new w
  have kn := Kept.alloc noBlock w (.cells #[.slice none 0 0] 82)
  obtain ⟨b, hb⟩ : ∃ b, b = w.heap.size := ⟨_, rfl⟩
  go_enter Try.func13, Try.ntmps13
  go_wp2_with fail
  rw [← hb] at p0 ⊢
  have HB := Lib.hid hb
  have KN := Lib.hid kn
  clear kn hb
  rw [HK.out]
  obtain ⟨w1, hw1⟩ : ∃ w1, w1 = w.alloc (.cells #[.slice none 0 0] 82) := ⟨_, rfl⟩
  rw [← hw1] at p0 KN ⊢
  clear hw1
  refine (pen_byte p0 k (by simp)).mono ?_
  rintro e w2 ⟨rfl, p2⟩
  clear p0
  go_wp2_with fail
  refine (pen_num p2 f (by simp)).mono ?_
  rintro e w3 ⟨rfl, p3⟩
  clear p2
  go_wp2_with fail
  refine (pen_num p3 t (by simp [be8_length])).mono ?_
  rintro e w4 ⟨rfl, p4⟩
  clear p3
  have h17 : ([] ++ [k] ++ be8 f ++ be8 t).length = 17 := by simp [be8_length]
  go_wp2_with fail
  refine (pen_bytes p4 17 h17 (by omega)).mono ?_
  rintro e w5 ⟨A5, c5, rfl, o5, k5⟩
  have e17 : [] ++ [k] ++ be8 f ++ be8 t = headIn k f t := by simp [headIn]
  rw [e17] at o5
  have L5 := Lib.hid (Lies.of_own (F := fun _ => True) o5 (fun _ _ => trivial))
  have K5 : Hid (Kept noBlock w w5) := KN.out.trans k5 (fun i hi h => by have := HB.out; omega)
  clear o5 k5 p4 h17 e17
  go_wp2_with fail
  refine (make_any _ A5 17 c5 (headIn k f t) w5 L5.out (headIn_length k f t) (by omega)).mono ?_
  rintro e w6 ⟨A6, c6, rfl, o6, k6⟩
  have hs := run_str9 (n := 26) (Lies.of_own (F := fun _ => True) o6 (fun _ _ => trivial)) (headB_length k f t) c6
  obtain ⟨X, hX⟩ : ∃ X, X = str (headB k f t) := ⟨_, rfl⟩
  have HX := Lib.hid hX
  change (convert 30 9 (.slice A6 26 c6)).run Try.prog w6 = .ok (.string (str (headB k f t))) w6 at hs
  rw [← hX] at hs
  have K6 := Lib.hid (K5.out.step k6)
  clear o6 k6 L5 hX
  go_wp2
  go_ret
  exact ⟨by rw [HX.out]; rfl, K6.out⟩

set_option maxRecDepth 100000 in
set_option maxHeartbeats 1000000 in
theorem form_any (F : Nat → Prop) (a : Option Addr) (n c : Nat) (l : List UInt8) (w : World) (h : Lies w F a (l.map bv)) (hl : l.length = n) (hn : n ≤ 16384) :
    Calls Try.prog 14 #[.slice a n c] w fun e w' => e = .returned (.string (str (frm l))) ∧ Kept noBlock w w' := by
  have MK := Lib.hid (make_any F a n c l w h hl hn)
  have hfl : (frm l).length = n + 9 := by rw [frm_length, hl]
  obtain ⟨L, hL⟩ : ∃ L, L = frm l := ⟨_, rfl⟩
  rw [← hL] at MK hfl
  have HL := Lib.hid hL
  have HF := Lib.hid hfl
  clear hl h hL hfl
  go_enter Try.func14, Try.ntmps14
  go_wp2_with fail
  refine MK.out.mono ?_
  rintro e w6 ⟨A6, c6, rfl, o6, k6⟩
  have hs := run_str9 (Lies.of_own (F := fun _ => True) o6 (fun _ _ => trivial)) HF.out c6
  obtain ⟨X, hX⟩ : ∃ X, X = str L := ⟨_, rfl⟩
  have HX := Lib.hid hX
  rw [← hX] at hs
  have K6 := Lib.hid k6
  clear o6 k6 MK hX
  go_wp2
  go_ret
  exact ⟨by rw [HX.out, HL.out]; rfl, K6.out⟩

theorem entsB_snoc (es : List EntryV) (e : EntryV) : entsB (es ++ [e]) = entsB es ++ entB e := by rw [entsB_append]; simp [entsB]
theorem fileB_snoc (f : Int) (es : List EntryV) (e : EntryV) : fileB f (es ++ [e]) = fileB f es ++ entB e := by unfold fileB; rw [entsB_snoc, List.append_assoc]
theorem fileB_length (f : Int) (es : List EntryV) : (fileB f es).length = 26 + (entsB es).length := by unfold fileB; rw [List.length_append, partB_length]
theorem fileB_take_le (f : Int) (es : List EntryV) (k : Nat) : (fileB f (es.take k)).length ≤ (fileB f es).length := by
  conv => rhs; rw [← List.take_append_drop k es]
  rw [fileB_length, fileB_length, entsB_append, List.length_append]
  omega

set_option maxRecDepth 100000 in
set_option maxHeartbeats 2000000 in
theorem lpart_any (F : Nat → Prop) (a : Option Addr) (n c : Nat) (f : Int) (es : List EntryV) (m : Nat) (w : World) (h : Lies w F a (entCells es)) (hl : es.length = n) (hb : ∀ e ∈ es, e.bytes.length ≤ 16384) (hm : (fileB f es).length = m) (hx : m ≤ 200000000000000) (hn9 : n ≤ 9223372036854775806) :
    Calls Try.prog 17 #[.slice a n c, .int .i64 f] w fun e w' => ∃ A ac, e = .returned (.slice A m ac) ∧ w'.ownsRow w.heap.size 5 1 (.slice A m ac) m ((fileB f es).map bv) ∧ Kept noBlock w w' := by
  have PA := Lib.hid (part_any f w)
  have HL := Lib.hid hl
  have HW := Lib.hid h
  have HB := Lib.hid hb
  have HM := Lib.hid hm
  clear hl h hb hm
  go_enter Try.func17, Try.ntmps17
  go_wp2_with fail
  refine PA.out.mono ?_
  rintro e w1 ⟨A1, c1, rfl, o1, k1⟩
  have K1 := Lib.hid k1
  have O1 := Lib.hid o1
  clear o1 k1 PA
  go_wp2_with fail
  go_loopw [5, 12] (fun b i wr => ∃ (k : Nat) (A : Option Addr) (ac q : Nat), k ≤ n ∧ i = .int .i64 (k : Int) ∧ b = .slice A q ac ∧ Hid (q = (fileB f (es.take k)).length) ∧ Hid (wr.ownsRow 0 5 1 (.slice A q ac) q ((fileB f (es.take k)).map bv)) ∧ Hid (∀ i, (Value.slice A q ac).ownBlock = some i → w.heap.size ≤ i) ∧ Hid (Kept noBlock w wr)) (fun _ i _ => n - (intOf i).toNat)
  case atStart =>
    refine ⟨0, A1, c1, 26, by omega, rfl, rfl, ?_, ?_, ?_, K1⟩
    · unfold Hid; rw [List.take_zero, fileB_length]; rfl
    · unfold Hid
      have e : fileB f (es.take 0) = partB f := by unfold fileB; simp [entsB]
      rw [e]
      exact own_base O1.out (fun _ _ => Nat.zero_le _)
    · exact fun i hi => (O1.out.lt i hi).1
  case round =>
    obtain ⟨k, A, ac, q, hk, rfl, rfl, HQ, HO, HBA, HK⟩ := hrel
    by_cases hlt : k < n
    · obtain ⟨x, hx⟩ : ∃ x, es[k]? = some x := ⟨_, List.getElem?_eq_getElem (by have := HL.out; omega)⟩
      obtain ⟨b, o, rfl, _, e⟩ := ents_cell (HW.out.keep HK.out (fun _ _ h => h)) hx
      obtain ⟨c0, c1, c2, c3, c4, c5, c6, c7⟩ := e
      have hbx : x.bytes.length ≤ 16384 := HB.out x (by obtain ⟨h1, h2⟩ := List.getElem?_eq_some_iff.1 hx; rw [← h2]; exact List.getElem_mem _)
      obtain ⟨z, hz⟩ : ∃ z, x.bytes.length = z := ⟨_, rfl⟩
      rw [hz] at hbx
      have hsn : fileB f (es.take (k + 1)) = fileB f (es.take k) ++ entB x := by rw [take_snoc es k x hx, fileB_snoc]
      have hq2 : q + (z + 9) ≤ m := by
        have h1 := fileB_take_le f es (k + 1)
        rw [hsn, List.length_append, entB_length, hz, HM.out, ← HQ.out] at h1
        exact h1
      have ENT := Lib.hid (fun u => entry_any x z u hz hbx)
      unfold EntryV.val at ENT
      have HSN := Lib.hid hsn
      have HZ := Lib.hid hz
      clear hsn hz hx
      go_wp2_with fail
      refine (ENT.out _).mono ?_
      rintro e w2 ⟨A2, d2, rfl, o2, k2⟩
      have K2 := Lib.hid (HK.out.step ((Kept.alloc noBlock wr _).step k2))
      have HO2 := Lib.hid (own_keep HO.out ((Kept.alloc noBlock wr _).step k2) (fun _ _ h => h))
      have hsrc : Src Try.prog 1 30 (.slice A2 (z + 9) d2) (z + 9) ((entB x).map bv) w2 := src_lies Try.underlying30 (Lies.of_own (F := fun _ => True) o2 (fun _ _ => trivial)) (by rw [List.length_map, entB_length, HZ.out]) (bv_one _)
      clear o2 k2 ENT c0 c1 c2 c3 c4 c5 c6 c7
      go_wp2_with (at_builtin; refine wpList_append_src rfl _ _ 30 30 rfl 5 (.int .u8 0) 1 1 Try.underlying30 Try.infoU8f rfl (.slice A q ac) q _ rfl HO2.out _ (z + 9) ((entB x).map bv) rfl hsrc ?c3 ?c4 ?_)
      case c3 => unfold maxLen; omega
      case c4 => omega
      intro A3 c3 w3 o3 k3 at3
      have HO3 := Lib.hid o3
      have K3 : Hid (Kept noBlock w w3) := K2.out.trans k3 (fun i hi h => absurd (HBA.out i h) (by omega))
      have HB3 : Hid (∀ i, (Value.slice A3 (q + (z + 9)) c3).ownBlock = some i → w.heap.size ≤ i) := fun i hi => by
        rcases at3 i hi with h | h
        · exact HBA.out i h
        · exact Nat.le_trans K2.out.size h.1
      clear o3 k3 at3 hsrc
      go_wp2
      go_roundw
      case rel =>
        refine ⟨k + 1, A3, c3, q + (z + 9), by omega, by go_num, rfl, ?_, ?_, HB3, K3⟩
        · unfold Hid
          rw [HSN.out, List.length_append, entB_length, HZ.out, ← HQ.out]
        · unfold Hid
          rw [HSN.out, List.map_append]
          exact HO3.out
      case measure => simp [intOf]; omega
    · obtain rfl : k = n := by omega
      have he : es.take k = es := List.take_of_length_le (by rw [HL.out]; exact Nat.le_refl _)
      rw [he] at HQ HO
      obtain rfl : q = m := by rw [HQ.out, HM.out]
      clear he
      go_wp2
      go_ret
      exact ⟨A, ac, rfl, own_base HO.out HBA.out, HK.out⟩
end Go.Proofs.Ythmjjhjblokjeaa
