/-
  The state behind says. No statement is proved here.
-/
import Derived.Test.YtgmjnjbmolalmaaBox8
import Derived.Test.YtgmjnjbmolalmaaL7Awake
import Derived.Test.YtgmjnjbmolalmaaL6Ents
namespace Go.Proofs.Ytgmjnjbmolalmaa
open Go.RowKit Tot

/-- The entries of says, and the state behind them. -/
def entsS (ss : List SayV) : List EntryV := entsOf (ss.take 80) 1 0
def someV (ss : List SayV) : StV := foldV noState (entsS ss)
theorem entsS_length (ss : List SayV) : (entsS ss).length ≤ 80 := by unfold entsS; rw [entsOf_length, List.length_take]; omega
theorem someV_right (ss : List SayV) : (someV ss).Right := foldV_right noState_right _

set_option maxRecDepth 100000 in
set_option maxHeartbeats 1000000 in
theorem some_any (F : Nat → Prop) (a : Option Addr) (n c : Nat) (ss : List SayV) (w : World) (h : Lies w F a (sayCells ss)) (hl : ss.length = n) (hnc : n ≤ c) :
    Calls Try.prog 18 #[.slice a n c] w fun en w' => ∃ A' c' B' d', en = .returned (stv (someV ss) A' c' B' d') ∧ Sv w' (fresh w w') (someV ss) A' c' B' d' ∧ Kept noBlock w w' := by
  obtain ⟨w1, hw1⟩ : ∃ w1, w1 = w.alloc (.cells #[.int .i64 0, .int .i64 0, .slice none 0 0, .slice none 0 0] 33) := ⟨_, rfl⟩
  have k1 : Kept noBlock w w1 := by rw [hw1]; exact Kept.alloc _ _ _
  have hR : w1.heap[w.heap.size]? = some (.cells #[.int .i64 0, .int .i64 0, .slice none 0 0, .slice none 0 0] 33 (0, 0)) := by rw [hw1]; exact heap_alloc_new w _
  have EN := Lib.hid (ents_any F a n c 1 0 ss (entsS ss) w1 (h.keep k1 (fun _ _ h => h)) hl hnc rfl (by decide) (by decide) (by decide) (by decide))
  have FO : Hid (∀ u A m cc, Lies u (fun _ => True) A (entCells (entsS ss)) → (entsS ss).length = m → m ≤ cc → m ≤ 1048576 → Calls Try.prog 22 #[.agg #[.int .i64 0, .int .i64 0, .slice none 0 0, .slice none 0 0], .slice A m cc] u fun en w' => ∃ A' c' B' d', en = .returned (stv (someV ss) A' c' B' d') ∧ Sv w' (fresh u w') (someV ss) A' c' B' d' ∧ Kept noBlock u w') := fun u A m cc h1 h2 h3 h4 =>
    fold_any (fun _ => True) noState none 0 none 0 A m cc (entsS ss) u (Sv.none _ _) noState_right h1 h2 h3 h4
  have hle := entsS_length ss
  obtain ⟨m, hm⟩ : ∃ m, m = (entsS ss).length := ⟨_, rfl⟩
  rw [← hm] at EN hle
  have HM := Lib.hid hm
  have K1 := Lib.hid k1
  have HR := Lib.hid hR
  clear hm k1 hR h
  go_enter Try.func18, Try.ntmps18
  go_upto_region 1 with (fail)
  rw [← hw1]
  clear hw1
  go_wp2_with fail
  refine EN.out.mono ?_
  rintro en w2 ⟨A2, c2, rfl, o2, k2⟩
  have hc2 : m ≤ c2 := by obtain ⟨_, _, e, hle⟩ := own_form o2; injection e with _ _ e; omega
  have L2 := Lib.hid (Lies.of_rows (F := fun _ => True) o2 (fun _ _ => trivial))
  have K2 := Lib.hid (K1.out.step k2)
  have HR2 := Lib.hid (k2.blk HR.out (fun h => h))
  clear o2 k2 EN
  go_wp2_with fail
  refine (FO.out w2 A2 m c2 L2.out HM.out.symm hc2 (by omega)).mono ?_
  rintro en w3 ⟨A3, c3, B3, d3, rfl, sv3, k3⟩
  have HR3 := Lib.hid (k3.blk HR2.out (fun h => h))
  have K3 := Lib.hid (K2.out.step k3)
  have SV3 := Lib.hid sv3
  have Z23 := Lib.hid k3.size
  obtain ⟨s', hs'⟩ : ∃ s', s' = someV ss := ⟨_, rfl⟩
  have HS := Lib.hid hs'
  rw [← hs'] at SV3 ⊢
  clear k3 sv3 FO hs'
  obtain ⟨r0, r1, r2, r3⟩ := st_cells HR3.out
  have hfz : ∀ j, w3.frozen? ⟨w.heap.size, j, none⟩ = false := fun j => frozen_of_row _ _ _ _ _ HR3.out
  have f0 := hfz 0
  have f1 := hfz 1
  have f2 := hfz 2
  have f3 := hfz 3
  have kz := setT_kept w3 w.heap.size s' A3 c3 B3 d3
  have hz := setT_block (s := s') (A := A3) (c := c3) (B := B3) (d := d3) HR3.out
  clear hfz
  unfold stv
  go_wp2
  change bodyPost _ _ _ _ _ (setT w3 w.heap.size s' A3 c3 B3 d3)
  generalize setT w3 w.heap.size s' A3 c3 B3 d3 = vz at kz hz ⊢
  have KZ : Hid (Kept noBlock w vz) := ((K3.out.mono (T := fun i => w.heap.size ≤ i) (fun _ _ h => h.elim)).trans kz (fun i _ h => by omega)).mono (fun i hi h => by omega)
  have hw2 := lt_of_blk HR2.out
  have SVZ : Hid (Sv vz (fresh w vz) s' A3 c3 B3 d3) := (SV3.out.keep kz (fun i hi e => by have := hi.1; omega)).mono (fun i hi => ⟨by have := hi.1; omega, Nat.lt_of_lt_of_le hi.2 kz.size⟩)
  obtain ⟨z0, z1, z2, z3⟩ := st_cells hz
  refine bodyPost_ret (v := stv s' A3 c3 B3 d3) (by simp [results, Try.results18, go_sem, stv, Try.isAgg33, Try.sizeOf33, z0, z1, z2, z3]) rfl ?_
  rw [← HS.out]
  exact ⟨A3, c3, B3, d3, rfl, SVZ.out, KZ.out⟩
end Go.Proofs.Ytgmjnjbmolalmaa
