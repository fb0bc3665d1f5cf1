/-
  The statements' own example. No statement is proved here.
-/
import Derived.Test.YtollmkkbeeeccaaP11Of
namespace Go.Proofs.Ytollmkkbeeeccaa
open Go.RowKit Tot

def exD : RefV := ⟨⟨#[100]⟩, 1, 3, 5⟩
def exF : RefV := ⟨⟨#[102]⟩, 0, 3, 3⟩
def exP : RefV := ⟨⟨#[112]⟩, 2, 0, 0⟩
theorem ex6 : planV [exD, exF, exP] 0 6 6 = (⟨some exF, [exD], [exP]⟩, 0) := by kernel_rfl
theorem ex7 : planV [exD, exF, exP] 0 6 7 = (noPln, 9) := by kernel_rfl

set_option maxRecDepth 100000 in
set_option maxHeartbeats 1000000 in
theorem awake_any (w : World) : Calls Try.prog 10 #[] w fun e w' => e = .returned (.bool true) ∧ Kept noBlock w w' := by
  obtain ⟨L, hL⟩ : ∃ L, L = [exD, exF, exP] := ⟨_, rfl⟩
  obtain ⟨w1, hw1⟩ : ∃ w1, w1 = (w.alloc (.cells #[.string ⟨#[100]⟩, .int .i64 1, .int .i64 3, .int .i64 5, .string ⟨#[102]⟩, .int .i64 0, .int .i64 3, .int .i64 3, .string ⟨#[112]⟩, .int .i64 2, .int .i64 0, .int .i64 0] 37)).alloc (.cells #[.slice (some ⟨w.heap.size, 0, none⟩) 3 3, .int .i64 0] 27) := ⟨_, rfl⟩
  have k1 : Kept noBlock w w1 := by rw [hw1]; exact (Kept.alloc _ _ _).step (Kept.alloc _ _ _)
  have b0 : w1.heap[w.heap.size]? = some (.cells #[.string ⟨#[100]⟩, .int .i64 1, .int .i64 3, .int .i64 5, .string ⟨#[102]⟩, .int .i64 0, .int .i64 3, .int .i64 3, .string ⟨#[112]⟩, .int .i64 2, .int .i64 0, .int .i64 0] 37 (0, 0)) := by rw [hw1]; exact (Kept.alloc noBlock _ _).blk (heap_alloc_new w _) (fun h => h)
  have b1 : w1.heap[w.heap.size + 1]? = some (.cells #[.slice (some ⟨w.heap.size, 0, none⟩) 3 3, .int .i64 0] 27 (0, 0)) := by
    rw [hw1]
    have := heap_alloc_new (w.alloc (.cells #[.string ⟨#[100]⟩, .int .i64 1, .int .i64 3, .int .i64 5, .string ⟨#[102]⟩, .int .i64 0, .int .i64 3, .int .i64 3, .string ⟨#[112]⟩, .int .i64 2, .int .i64 0, .int .i64 0] 37)) (.cells #[.slice (some ⟨w.heap.size, 0, none⟩) 3 3, .int .i64 0] 27)
    simpa using this
  have hlies : Lies w1 (fun _ => True) (some ⟨w.heap.size, 0, none⟩) (refCells L) := fun _ => ⟨_, rfl, trivial, fun j u hu => by
    rw [hL] at hu
    exact World.news_of_block b0 j u (by simpa [refCells, RefV.cells, exD, exF, exP] using hu)⟩
  have O6 := Lib.hid (fun u (k : Kept noBlock w1 u) => of_any (fun _ => True) (some ⟨w.heap.size, 0, none⟩) 3 3 0 6 6 L u (hlies.keep k (fun _ _ h => h)) (by rw [hL]; rfl) (by omega) (fun kd => Nat.lt_of_le_of_lt (List.length_filter_le _ _) (by rw [hL]; decide)))
  have O7 := Lib.hid (fun u (k : Kept noBlock w1 u) => of_any (fun _ => True) (some ⟨w.heap.size, 0, none⟩) 3 3 0 6 7 L u (hlies.keep k (fun _ _ h => h)) (by rw [hL]; rfl) (by omega) (fun kd => Nat.lt_of_le_of_lt (List.length_filter_le _ _) (by rw [hL]; decide)))
  rw [hL, ex6] at O6
  rw [hL, ex7] at O7
  have K1 := Lib.hid k1
  have B1 := Lib.hid b1
  obtain ⟨c0, c1⟩ := pair_cells b1
  unfold plnv at O6 O7
  simp only [List.length_cons, List.length_nil, noPln, Nat.zero_add] at O6 O7
  clear k1 b0 b1 hlies hL
  go_enter Try.func10, Try.ntmps10
  go_upto_region 2 with (fail)
  rw [← hw1]
  clear hw1
  go_wp2_with fail
  refine (O6.out _ (Kept.refl _ _)).mono ?_
  rintro e w2 ⟨p, A1, c1', A2, c2', rfl, hp, k2⟩
  obtain ⟨C, hpe, _, hpc⟩ := hp.full
  subst hpe
  have k3 := Kept.alloc noBlock w2 (.cells #[.pointer (some ⟨C, 0, none⟩), .slice A1 1 c1', .slice A2 1 c2'] 31)
  have b3 := heap_alloc_new w2 (.cells #[.pointer (some ⟨C, 0, none⟩), .slice A1 1 c1', .slice A2 1 c2'] 31)
  go_upto_region 3 with (fail)
  obtain ⟨X, hX⟩ : ∃ X, X = w2.heap.size := ⟨_, rfl⟩
  rw [← hX] at b3 ⊢
  generalize w2.alloc (.cells #[.pointer (some ⟨C, 0, none⟩), .slice A1 1 c1', .slice A2 1 c2'] 31) = w3 at k3 b3 ⊢
  have K3 := Lib.hid (k2.step k3)
  have B3 := Lib.hid b3
  have HC3 := Lib.hid (k3.blk hpc (fun h => h))
  obtain ⟨c0, c1⟩ := pair_cells (K3.out.blk B1.out (fun h => h))
  clear k2 k3 b3 hp hpc hX O6
  go_wp2_with fail
  refine (O7.out _ K3.out).mono ?_
  rintro e w4 ⟨p, A5, c5, A6, c6, rfl, hp, k4⟩
  obtain rfl : p = none := hp.full
  have k5 := Kept.alloc noBlock w4 (.cells #[.pointer none, .slice A5 0 c5, .slice A6 0 c6] 31)
  go_upto_region 4 with (fail)
  generalize w4.alloc (.cells #[.pointer none, .slice A5 0 c5, .slice A6 0 c6] 31) = w5 at k5 ⊢
  have K5 := Lib.hid (K1.out.step (K3.out.step (k4.step k5)))
  obtain ⟨x0, x1, x2⟩ := tri_cells ((k4.step k5).blk B3.out (fun h => h))
  obtain ⟨d0, d1, d2, d3⟩ := ref_cells ((k4.step k5).blk HC3.out (fun h => h))
  clear k4 k5 hp O7
  go_wp2
  go_ret
  exact ⟨by first | rfl | simp [exF], K5.out⟩
end Go.Proofs.Ytollmkkbeeeccaa
