/-
  The contract of edits.Find. No statement is proved here.
-/
import Derived.Test.YtjijdkdpmbfdmaaE10Do
namespace Go.Proofs.Ytjijdkdpmbfdmaa
open Go.RowKit Tot

/-- A file's place, from a number on. -/
def fndV : List RefV → ByteArray → Nat → Int
  | [], _, _ => -1
  | r :: l, k, i => if r.name = k then (i : Int) else fndV l k (i + 1)
theorem fndV_none {k : ByteArray} : ∀ {L : List RefV} {i : Nat}, (∀ r ∈ L, r.name ≠ k) → fndV L k i = -1
  | [], _, _ => rfl
  | r :: l, i, h => by
    unfold fndV
    rw [if_neg (h r (by simp))]
    exact fndV_none (fun r hr => h r (by simp [hr]))
theorem fndV_some {k : ByteArray} : ∀ {L : List RefV} {i : Nat}, (∃ r ∈ L, r.name = k) → ∃ j r, L[j]? = some r ∧ r.name = k ∧ fndV L k i = ((i + j : Nat) : Int)
  | [], _, ⟨_, h, _⟩ => by cases h
  | a :: l, i, ⟨r, hr, hk⟩ => by
    unfold fndV
    by_cases ha : a.name = k
    · rw [if_pos ha]
      exact ⟨0, a, rfl, ha, by simp⟩
    · rw [if_neg ha]
      rcases List.mem_cons.1 hr with rfl | hr
      · exact absurd hk ha
      · obtain ⟨j, q, h1, h2, h3⟩ := fndV_some (L := l) (i := i + 1) ⟨r, hr, hk⟩
        exact ⟨j + 1, q, by simpa using h1, h2, by rw [h3]; congr 1; omega⟩
theorem fndV_step {L : List RefV} {k : ByteArray} {j : Nat} {r : RefV} (h : L[j]? = some r) : fndV (L.drop j) k j = if r.name = k then (j : Int) else fndV (L.drop (j + 1)) k (j + 1) := by
  obtain ⟨hk, e⟩ := List.getElem?_eq_some_iff.1 h
  rw [List.drop_eq_getElem_cons hk, e]
  rfl
theorem text_eq (a b : ByteArray) : (a.toList == b.toList) = decide (a = b) := by
  by_cases h : a = b
  · rw [decide_eq_true h, h]; simp
  · rw [decide_eq_false h]
    exact beq_false_of_ne (fun e => h ((toList_inj a b).1 e))

set_option maxRecDepth 100000 in
set_option maxHeartbeats 1000000 in
theorem fcl_any (r : RefV) (k : ByteArray) (X : Nat) (w : World) (hx : w.cell? ⟨X, 0, none⟩ = some (.string k)) :
    Calls Try.prog 37 #[r.val, .pointer (some ⟨X, 0, none⟩)] w fun e w' => e = .returned (.bool (decide (r.name = k))) ∧ Kept noBlock w w' := by
  have hX := World.block_lt_of_cell? w _ hx
  simp only at hX
  have ka := Kept.alloc noBlock w (.cells #[.string r.name, .int .i64 r.kind, .int .i64 r.from_, .int .i64 r.to_] 31)
  have hx1 := ka.cell hx (fun h => h)
  have KA := Lib.hid ka
  obtain ⟨g, hg⟩ : ∃ g : Bool, g = decide (r.name = k) := ⟨_, rfl⟩
  have HG : Hid ((r.name.toList == k.toList) = g) := by unfold Hid; rw [hg, text_eq]
  rw [← hg]
  clear ka hg
  unfold RefV.val
  go_enter Try.func37, Try.ntmps37
  go_wp2
  go_ret
  rw [HG.out]
  exact ⟨rfl, KA.out⟩

set_option maxRecDepth 100000 in
set_option maxHeartbeats 1000000 in
theorem idx_any (F : Nat → Prop) (a : Option Addr) (n c : Nat) (L : List RefV) (k : ByteArray) (X : Nat) (w : World) (h : Lies w F a (refCells L)) (hl : L.length = n) (hn : n ≤ 1099511627776) (hx : w.cell? ⟨X, 0, none⟩ = some (.string k)) :
    Calls Try.prog 36 #[.slice a n c, .func (.func 37) #[] #[.pointer (some ⟨X, 0, none⟩)]] w fun e w' => e = .returned (.int .i64 (fndV L k 0)) ∧ Kept noBlock w w' := by
  have H := Lib.hid h
  have HL := Lib.hid hl
  have HX := Lib.hid hx
  clear h hl hx
  go_enter Try.func36, Try.ntmps36
  go_wp2_with fail
  go_loopw [8] (fun i wr => ∃ j : Nat, j ≤ n ∧ i = .int .i64 (j : Int) ∧ Hid (fndV L k 0 = fndV (L.drop j) k j) ∧ Hid (Kept noBlock w wr)) (fun i _ => n - (intOf i).toNat)
  case atStart => exact ⟨0, by omega, rfl, rfl, Kept.refl _ _⟩
  case round =>
    obtain ⟨j, hjn, rfl, HF, HK⟩ := hrel
    by_cases hlt : j < n
    · obtain ⟨x, hx⟩ : ∃ x, L[j]? = some x := ⟨_, List.getElem?_eq_getElem (by have := HL.out; omega)⟩
      obtain ⟨g, o, rfl, _, cc⟩ := (H.out.keep HK.out (fun _ _ h => h)).elem (enc := RefV.cells) ref_len (by omega) hx
      have e0 := cc 0 _ rfl
      have e1 := cc 1 _ rfl
      have e2 := cc 2 _ rfl
      have e3 := cc 3 _ rfl
      rw [Nat.add_zero] at e0
      have hst := fndV_step (k := k) hx
      have HST := Lib.hid hst
      have CL := Lib.hid (fcl_any x k X wr (HK.out.cell HX.out (fun h => h)))
      unfold RefV.val at CL
      clear hx cc hst
      by_cases hg : x.name = k
      · rw [decide_eq_true hg] at CL
        have HG : Hid (fndV L k 0 = (j : Int)) := by unfold Hid; rw [HF.out, HST.out, if_pos hg]
        clear hg
        go_wp2_with fail
        refine CL.out.mono ?_
        rintro e w2 ⟨rfl, k2⟩
        have K2 := Lib.hid (HK.out.step k2)
        clear e0 e1 e2 e3 CL k2
        go_wp2
        go_ret
        rw [HG.out]
        exact ⟨rfl, K2.out⟩
      · rw [decide_eq_false hg] at CL
        have HG : Hid (fndV L k 0 = fndV (L.drop (j + 1)) k (j + 1)) := by unfold Hid; rw [HF.out, HST.out, if_neg hg]
        clear hg
        go_wp2_with fail
        refine CL.out.mono ?_
        rintro e w2 ⟨rfl, k2⟩
        have K2 := Lib.hid (HK.out.step k2)
        clear e0 e1 e2 e3 CL k2
        go_wp2
        go_roundw
        case rel => exact ⟨j + 1, by omega, by go_num, HG, K2⟩
        case measure => simp [intOf]; omega
    · obtain rfl : j = n := by omega
      have hf := HF.out
      rw [List.drop_eq_nil_of_le (by have := HL.out; omega)] at hf
      have HG : Hid (fndV L k 0 = -1) := hf
      clear hf
      go_wp2
      go_ret
      rw [HG.out]
      exact ⟨rfl, HK.out⟩

set_option maxRecDepth 100000 in
set_option maxHeartbeats 1000000 in
theorem find_any (F : Nat → Prop) (a : Option Addr) (n c : Nat) (f : Int) (L : List RefV) (k : ByteArray) (w : World) (h : Lies w F a (refCells L)) (hl : L.length = n) (hn : n ≤ 1099511627776) :
    Calls Try.prog 18 #[.agg #[.slice a n c, .int .i64 f], .string k] w fun e w' => e = .returned (.int .i64 (fndV L k 0)) ∧ Kept noBlock w w' := by
  obtain ⟨w1, hw1⟩ : ∃ w1, w1 = (w.alloc (.cells #[.slice a n c, .int .i64 f] 26)).alloc (.cells #[.string k] 9) := ⟨_, rfl⟩
  have k1 : Kept noBlock w w1 := by rw [hw1]; exact (Kept.alloc _ _ _).step (Kept.alloc _ _ _)
  have b0 : w1.heap[w.heap.size]? = some (.cells #[.slice a n c, .int .i64 f] 26 (0, 0)) := by rw [hw1]; exact (Kept.alloc noBlock _ _).blk (heap_alloc_new w _) (fun h => h)
  have b1 : w1.heap[w.heap.size + 1]? = some (.cells #[.string k] 9 (0, 0)) := by
    rw [hw1]
    have := heap_alloc_new (w.alloc (.cells #[.slice a n c, .int .i64 f] 26)) (.cells #[.string k] 9)
    simpa using this
  have ID := Lib.hid (idx_any F a n c L k (w.heap.size + 1) w1 (h.keep k1 (fun _ _ h => h)) hl hn (cell_of_row _ _ _ _ _ _ b1))
  obtain ⟨c0, c1⟩ := two_cells b0
  have K1 := Lib.hid k1
  obtain ⟨r, hr⟩ : ∃ r, r = fndV L k 0 := ⟨_, rfl⟩
  rw [← hr] at ID ⊢
  clear h hl k1 b0 b1 hr
  go_enter Try.func18, Try.ntmps18
  go_upto_region 1 with (fail)
  rw [← hw1]
  clear hw1
  go_wp2_with fail
  refine ID.out.mono ?_
  rintro e w2 ⟨rfl, k2⟩
  have K2 := Lib.hid (K1.out.step k2)
  clear c0 c1 ID k2
  go_wp2
  go_ret
  exact ⟨rfl, K2.out⟩
end Go.Proofs.Ytjijdkdpmbfdmaa
