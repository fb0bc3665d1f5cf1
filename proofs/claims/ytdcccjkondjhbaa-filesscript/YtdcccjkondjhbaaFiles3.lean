/-
  A disk's methods, third part: Used, Read, and a change of the names. No statement is proved here.
-/
import Derived.Test.YtdcccjkondjhbaaFiles2
import Derived.LoopN
import Derived.Great.BuildSlice
namespace Go.Proofs.Ytdcccjkondjhbaa
open Go.RowKit Go.Maps

def St.len (S : St) (f : Nat) : Nat := match S.fl f with | some l => l.data.length | none => 0
def St.used (S : St) : Nat := (S.cur.map fun p => S.len p.2).sum
theorem sum_le {α : Type} (g : α → Nat) (m : Nat) : ∀ l : List α, (∀ x ∈ l, g x ≤ m) → (l.map g).sum ≤ l.length * m
  | [], _ => by simp
  | x :: r, h => by
    have h1 := h x (by simp)
    have h2 := sum_le g m r (fun y hy => h y (by simp [hy]))
    simp only [List.map_cons, List.sum_cons, List.length_cons, Nat.add_mul]
    omega
theorem Ok.len_le {S : St} (o : Ok S) (f : Nat) : S.len f ≤ 1000000000 := by
  unfold St.len
  cases h : S.fl f with
  | none => simp
  | some l => have := (o.fl_len f l h).1; have := o.vol_le; simp only; omega
theorem Ok.part_le {S : St} (o : Ok S) (N : Dir) (h : N.length ≤ 1000000) : (N.map fun p => S.len p.2).sum ≤ 1000000000000000 := by
  have h1 := sum_le (fun p : List UInt8 × Nat => S.len p.2) 1000000000 N (fun p _ => o.len_le p.2)
  have h2 : N.length * 1000000000 ≤ 1000000 * 1000000000 := Nat.mul_le_mul_right _ h
  omega
theorem Ok.used_le {S : St} (o : Ok S) : S.used ≤ 1000000000000000 := o.part_le S.cur (by have := o.cur_len; have := o.calls_le; omega)

set_option maxRecDepth 100000 in
set_option maxHeartbeats 2000000 in
theorem used_any (F : Nat → Prop) (d : Nat) (S : St) (mc ms : Option Nat) (A : Option Addr) (c : Nat) (R : Nat → Option Addr × Nat) (w : World) (h : DkR w F d S mc ms A c R) :
    Calls Try.prog 13 #[.pointer (some ⟨d, 0, none⟩)] w fun e w' => e = .returned (.int .i64 (S.used : Int)) ∧ Kept noBlock w w' := by
  have hb := h.blk
  unfold dcells at hb
  have c1 : w.cell? ⟨d, 1, none⟩ = some (.map mc) := cell_of_row _ _ _ _ _ _ hb
  have H := Lib.hid h
  clear hb
  cases mc with
  | none =>
    have hcur : S.cur = [] := h.cur
    have hu : S.used = 0 := by unfold St.used; rw [hcur]; rfl
    rw [hu]
    clear h hu hcur
    have hrg := run_range_nilMap (P := Try.prog) w 54 9 59 Try.underlying54
    have hnx : ∀ ty, (Instr.next (.pointer (some ⟨w.heap.size, 0, none⟩)) false ty).run Try.prog (w.alloc (.mapIter none 0 #[] 0)) = _ := fun ty => run_next_nilMap _ ty 0 0 #[]
    go_enter Try.func13, Try.ntmps13
    go_wp2
    refine wp_loop_rounds 1 ?_
    rw [rounds_succ]
    go_wp2
    go_ret
    exact ⟨rfl, Kept.alloc _ _ _⟩
  | some b =>
    have hnd := Lib.hid h.cur.nodup
    have hlen := h.ok.cur_len
    have hcl := h.ok.calls_le
    have hN := Lib.hid h.cur
    have hbF := h.lt b (h.fcur b rfl)
    clear h
    go_enter Try.func13, Try.ntmps13
    go_wp2_with (at_range; refine wpList_mrange rfl _ 54 59 rfl Try.underlying54 b S.cur rfl hN.out ?_)
    intro w0 left0 hrg0 hst0 k0 hs0
    have HR0 := Lib.hid hrg0
    have HS0 := Lib.hid hst0
    clear hrg0 hst0
    go_wp2
    go_loopw [3] (fun x wr => ∃ (left : Lit → Bool) (cnt m : Nat), x = .int .i64 (m : Int) ∧ m ≤ 1000000000000000 ∧ Hid (Rng wr b w.heap.size S.cur left cnt) ∧ Hid (m + ((Dir.still S.cur left).map fun p => S.len p.2).sum = S.used) ∧ Kept noBlock w wr) (fun _ wr => wr.rangeLeft b w.heap.size)
    case atStart => exact ⟨left0, S.cur.length, 0, rfl, by omega, HR0, by rw [HS0.out]; exact Lib.hid (by unfold St.used; omega), k0⟩
    case round =>
      obtain ⟨left, cnt, m, rfl, hm, HR, HU, kk⟩ := hrel
      go_wp2_with (at_next; refine wpList_mnext rfl _ rfl b w.heap.size S.cur left cnt rfl HR.out ?_ ?_)
      · intro hdone
        have hmu : m = S.used := by have := HU.out; rw [hdone] at this; simpa using this
        go_wp2
        go_ret
        exact ⟨by rw [hmu]; rfl, kk⟩
      · intro s f w1 cnt1 hmem hl hsl hrg1 hlt k1 hsz hen
        obtain ⟨l, hfl⟩ := Option.isSome_iff_exists.1 (H.out.ok.cur_fl _ hmem)
        have hfil := H.out.fil f l hfl
        have kw1 : Kept noBlock w w1 := kk.trans k1 (fun i hi e => by omega)
        have hfil1 := hfil.keep kw1 (fun h => h) (fun _ _ h => h)
        have q0 : w1.cell? ⟨f, 0, none⟩ = some (.slice (R f).1 l.data.length (R f).2) := cell_of_row _ _ _ _ _ _ hfil1.blk
        have hstep := still_step hnd.out hmem hl (fun p => S.len p.2)
        have hlf : S.len f = l.data.length := by unfold St.len; rw [hfl]
        obtain ⟨n, hn⟩ : ∃ n, n = l.data.length := ⟨_, rfl⟩
        rw [← hn] at q0 hlf
        simp only at hstep
        rw [hlf] at hstep
        have hU := HU.out
        have hU2 : (m + n) + ((Dir.still S.cur fun z => left z && !z.sameKey (.string s)).map fun p => S.len p.2).sum = S.used := by omega
        have hle : m + n ≤ 1000000000000000 := by have := H.out.ok.used_le; omega
        have HU2 := Lib.hid hU2
        have HR1 := Lib.hid hrg1
        have hm2 := (show w1.rangeLeft b w.heap.size = cnt1 from World.ranges.left_eq hrg1)
        have hm3 := (show wr.rangeLeft b w.heap.size = cnt from World.ranges.left_eq HR.out)
        have HM := Lib.hid (And.intro hm2 hm3)
        clear hU hU2 hstep hlf hfil hfil1 hfl hmem hl hrg1 hm2 hm3 hn k1 kk
        go_wp2
        go_roundw
        case rel => exact ⟨_, cnt1, m + n, by go_num, hle, HR1, HU2, kw1⟩
        case measure => rw [HM.out.1, HM.out.2]; exact hlt
set_option maxHeartbeats 400000 in
theorem clone_any (F : Nat → Prop) (a : Option Addr) (n c : Nat) (l : List UInt8) (w : World) (h : Lies w F a (l.map bv)) (hl : l.length = n) (hx : n ≤ 140737488355328) :
    Calls Try.prog 34 #[.slice a n c] w fun e w' => ∃ A c', e = .returned (.slice A n c') ∧ w'.ownsRow w.heap.size 5 1 (.slice A n c') n (l.map bv) ∧ Kept noBlock w w' := by
  have hq : ∀ (w : World) (a : Option Addr) (n c n' c' : Nat), (binOp .eql 32 (.slice a n c) (.slice none n' c')).run Try.prog w = .ok (.bool a.isNone) w := fun w a n c n' c' => Lib.run_eql_slice_nil w _ _ a n c n' c' Try.underlying32
  cases a with
  | none =>
    obtain rfl : l = [] := by
      cases l with
      | nil => rfl
      | cons x r => obtain ⟨ad, h, _⟩ := h (by simp); cases h
    obtain rfl : n = 0 := hl.symm
    go_enter Try.func34, Try.ntmps34
    go_wp2
    go_ret
    exact ⟨none, 0, rfl, World.ownsRow_nil _ _ _ _, Kept.refl _ _⟩
  | some ad =>
    have hsrc : Src Try.prog 1 32 (.slice (some ad) n c) n (l.map bv) (w.alloc (.cells #[] 5)) :=
      src_lies Try.underlying32 (h.keep (Kept.alloc noBlock w _) (fun _ _ h => h)) (by simpa using hl) (bv_one l)
    have hown : (w.alloc (.cells #[] 5)).ownsRow 0 5 1 (.slice (some ⟨w.heap.size, 0, none⟩) 0 0) 0 [] := World.ownsRow_made w #[] 0 (Nat.zero_le _) (Nat.zero_le _) rfl
    go_enter Try.func34, Try.ntmps34
    go_wp2_with (at_builtin; refine wpList_append_src rfl (.tmp 5) (.tmp 6) 32 32 rfl 5 (.int .u8 0) 1 1 Try.underlying32 Try.infoU8 rfl _ 0 [] rfl hown _ n (l.map bv) rfl hsrc ?c3 ?c4 ?_)
    case c3 => unfold maxLen; omega
    case c4 => omega
    intro A' c' w1 hown1 k1 hat
    have R := Lib.hid hown1
    have k2 : Kept noBlock w w1 := (Kept.alloc noBlock w _).trans k1 (fun i hi h => by simp [Value.ownBlock] at h; omega)
    have hb2 : ∀ k, (Value.slice A' n c').ownBlock = some k → w.heap.size ≤ k := fun k hk => by
      rcases hat k hk with h | h
      · simp [Value.ownBlock] at h; omega
      · have := h.1; simp at this; omega
    clear hown1 hat k1
    go_wp2
    go_ret
    refine ⟨A', c', by simp, ?_, k2⟩
    have := own_base R.out hb2
    simpa using this


/-- The bytes that Read tells (none with an error). -/
def St.bytes (S : St) (f : Nat) : List UInt8 := match S.fl f with | some l => l.data | none => []
def St.read (S : St) (s : List UInt8) : List UInt8 := match (S.find s).1 with | none => [] | some f => S.bytes f

set_option maxRecDepth 100000 in
set_option maxHeartbeats 1000000 in
theorem read_any (F : Nat → Prop) (d : Nat) (S : St) (s : List UInt8) (w : World) (h : Dk w F d S) (hs : s.length ≤ maxLen) :
    Calls Try.prog 16 #[.pointer (some ⟨d, 0, none⟩), .string (str s)] w fun e w' => ∃ A' c', e = .returned (.tuple #[.slice A' (S.read s).length c', .int .i64 ((S.find s).2 : Int)]) ∧
      w'.ownsRow w.heap.size 5 1 (.slice A' (S.read s).length c') (S.read s).length ((S.read s).map bv) ∧ Kept noBlock w w' := by
  obtain ⟨mc, ms, A, c, R, h⟩ := h
  have hf := find_any F d S s mc ms A c R w h hs
  have H := Lib.hid h
  clear h
  unfold St.find at hf ⊢
  unfold St.read St.find
  cases hd : S.down with
  | true =>
    rw [hd, if_pos rfl] at hf
    rw [if_pos rfl]
    go_enter Try.func16, Try.ntmps16
    go_wp2_with fail
    refine hf.mono ?_
    rintro e w1 ⟨rfl, rfl⟩
    clear hf
    go_wp2
    go_ret2
    exact ⟨none, 0, rfl, World.ownsRow_nil _ _ _ _, Kept.refl _ _⟩
  | false =>
    rw [hd, if_neg (by simp)] at hf
    rw [if_neg (by simp)]
    cases hl : Dir.look S.cur s with
    | none =>
      rw [hl] at hf
      go_enter Try.func16, Try.ntmps16
      go_wp2_with fail
      refine hf.mono ?_
      rintro e w1 ⟨rfl, rfl⟩
      clear hf
      go_wp2
      go_ret2
      exact ⟨none, 0, rfl, World.ownsRow_nil _ _ _ _, Kept.refl _ _⟩
    | some f =>
      rw [hl] at hf
      obtain ⟨l, hfl⟩ := Option.isSome_iff_exists.1 (H.out.ok.cur_fl _ (Dir.mem_of_look hl))
      have hfil := H.out.fil f l hfl
      have hbl := (H.out.ok.fl_len f l hfl).1
      have hvl := H.out.ok.vol_le
      have q0 : w.cell? ⟨f, 0, none⟩ = some (.slice (R f).1 l.data.length (R f).2) := cell_of_row _ _ _ _ _ _ hfil.blk
      have hL := Lies.of_own (F := fun _ => True) hfil.own (fun _ _ => trivial)
      have hby : S.bytes f = l.data := by unfold St.bytes; rw [hfl]
      simp only [hby]
      have hf' : Calls Try.prog 33 #[.pointer (some ⟨d, 0, none⟩), .string (str s)] w fun e w' => e = .returned (.tuple #[.pointer (some ⟨f, 0, none⟩), .int .i64 0]) ∧ w = w' := hf
      obtain ⟨n, hn⟩ : ∃ n, n = l.data.length := ⟨_, rfl⟩
      rw [← hn] at q0 hbl
      have hn' : l.data.length = n := hn.symm
      rw [hn']
      have HN := Lib.hid hn'
      clear hf hby hfil hl hd hn hn'
      go_enter Try.func16, Try.ntmps16
      go_wp2_with fail
      refine hf'.mono ?_
      rintro e w1 ⟨rfl, rfl⟩
      clear hf'
      go_wp2_with fail
      refine (clone_any (fun _ => True) _ n _ l.data w hL HN.out (by omega)).mono ?_
      rintro e w1 ⟨A', c', rfl, h1, h2⟩
      have R1 := Lib.hid h1; clear h1
      go_wp2
      go_ret2
      exact ⟨A', c', rfl, R1.out, h2⟩
end Go.Proofs.Ytdcccjkondjhbaa
