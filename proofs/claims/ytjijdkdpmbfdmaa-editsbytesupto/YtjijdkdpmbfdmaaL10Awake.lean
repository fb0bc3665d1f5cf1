/-
  The document's examples, as the statements of layer 10 ask them. No statement is proved here.
-/
import Derived.Test.YtjijdkdpmbfdmaaE10Find
namespace Go.Proofs.Ytjijdkdpmbfdmaa
open Go.RowKit Tot

def rA : RefV := ⟨⟨#[97]⟩, 2, 1, 2⟩
def eA1 : EditV := ⟨[rA], [], 1⟩
def eA2 : EditV := ⟨[rA], [⟨#[97]⟩], 2⟩
def nA : Fls := [(⟨#[97]⟩, rA)]
theorem dA1 : doE [] 0 eA1 = (nA, 0) ∧ doF [] 0 eA1 = 1 := by decide +kernel
theorem dA2 : doE nA 1 eA1 = ([], 5) ∧ doF nA 1 eA1 = 0 := by decide +kernel
theorem dA3 : doE nA 1 eA2 = (nA, 0) ∧ doF nA 1 eA2 = 2 := by decide +kernel
theorem nA_good : Good nA := by
  have := doE_good (f := 0) (e := eA1) Good.nil
  rw [dA1.1] at this
  exact this
theorem fA : fndV (nA.map (·.2)) ⟨#[97]⟩ 0 = 0 := by decide +kernel
theorem ref_new {w : World} {x : RefV} {t : TypeId} {fr : Nat × Nat} {B : Nat} {F : Nat → Prop} (h : w.heap[B]? = some (.cells x.cells.toArray t fr)) (hF : F B) : Lies w F (some ⟨B, 0, none⟩) (refCells [x]) := fun _ =>
  ⟨_, rfl, hF, fun j u hu => by
    rw [add_plain, cell_of_row _ _ _ _ _ _ h]
    rw [refCells_one] at hu
    simpa using hu⟩

theorem two_blk (w : World) (y0 y1 : Value) (t : TypeId) (xs : List Value) (t' : TypeId) : ((w.alloc (.cells #[y0, y1] t)).alloc (.cells xs.toArray t')).heap[w.heap.size]? = some (.cells #[y0, y1] t (0, 0)) ∧ ((w.alloc (.cells #[y0, y1] t)).alloc (.cells xs.toArray t')).heap[w.heap.size + 1]? = some (.cells xs.toArray t' (0, 0)) ∧
    Kept noBlock w ((w.alloc (.cells #[y0, y1] t)).alloc (.cells xs.toArray t')) := by
  refine ⟨(Kept.alloc noBlock _ _).blk (heap_alloc_new w _) (fun h => h), ?_, (Kept.alloc _ _ _).step (Kept.alloc _ _ _)⟩
  have := heap_alloc_new (w.alloc (.cells #[y0, y1] t)) (.cells xs.toArray t')
  rw [show w.heap.size + 1 = (w.alloc (.cells #[y0, y1] t)).heap.size from by simp]
  exact this

set_option maxRecDepth 100000 in
set_option maxHeartbeats 1000000 in
theorem awake10_any (w : World) : Calls Try.prog 11 #[] w fun en w' => en = .returned (.bool true) ∧ Kept noBlock w w' := by
  obtain ⟨w1, hw1⟩ : ∃ w1, w1 = (w.alloc (.cells #[.string ⟨#[97]⟩, .int .i64 2, .int .i64 1, .int .i64 2] 31)).alloc (.cells #[.string ⟨#[97]⟩, .int .i64 2, .int .i64 1, .int .i64 2] 31) := ⟨_, rfl⟩
  have k1 : Kept noBlock w w1 := by rw [hw1]; exact (Kept.alloc _ _ _).step (Kept.alloc _ _ _)
  have b0 : w1.heap[w.heap.size]? = some (.cells #[.string ⟨#[97]⟩, .int .i64 2, .int .i64 1, .int .i64 2] 31 (0, 0)) := by rw [hw1]; exact (Kept.alloc noBlock _ _).blk (heap_alloc_new w _) (fun h => h)
  have b1 : w1.heap[w.heap.size + 1]? = some (.cells rA.cells.toArray 31 (0, 0)) := by
    rw [hw1, show w.heap.size + 1 = (w.alloc (.cells #[.string ⟨#[97]⟩, .int .i64 2, .int .i64 1, .int .i64 2] 31)).heap.size from by simp]
    exact heap_alloc_new _ _
  have D1 := Lib.hid (edo_any (fun _ => True) (fun _ => True) [] 0 none 0 eA1 (some ⟨w.heap.size + 1, 0, none⟩) 1 none 0 w1 (Sw.nil _ _) Good.nil (by simp) ⟨ref_new b1 trivial, Lies.nil _ _ _, Nat.le_refl _, Nat.le_refl _⟩ (by simp [eA1]) (by simp [eA1]) (fun k hk => by cases hk))
  rw [dA1.1, dA1.2] at D1
  have K1 := Lib.hid k1
  have B0 := Lib.hid b0
  unfold setv evl at D1
  clear k1 b1 b0
  go_enter Try.func11, Try.ntmps11
  go_upto_region 2 with (fail)
  go_wp2_with fail
  rw [← hw1]
  refine D1.out.mono ?_
  rintro en w2 ⟨A2, c2, rfl, o2, k2⟩
  obtain ⟨w3, hw3⟩ : ∃ w3, w3 = (w2.alloc (.cells #[.slice A2 (List.length nA) c2, .int .i64 1] 26)).alloc (.cells rA.cells.toArray 31) := ⟨_, rfl⟩
  obtain ⟨s0, s1, k3⟩ := two_blk w2 (.slice A2 (List.length nA) c2) (.int .i64 1) 26 rA.cells 31
  rw [← hw3] at s0 s1 k3
  have S2 : Hid (Sw w3 (fun _ => True) nA A2 c2) := Sw.of_own (own_keep o2 k3 (fun _ _ h => h)) rfl (fun _ _ => trivial)
  have D2 := Lib.hid (edo_any (fun _ => True) (fun _ => True) nA 1 A2 c2 eA1 (some ⟨w2.heap.size + 1, 0, none⟩) 1 none 0 w3 S2.out nA_good (by decide) ⟨ref_new s1 trivial, Lies.nil _ _ _, Nat.le_refl _, Nat.le_refl _⟩ (by simp [eA1]) (by simp [eA1]) (fun k hk => by cases hk))
  rw [dA2.1, dA2.2] at D2
  unfold setv evl at D2
  have K3 := Lib.hid ((K1.out.step k2).step k3)

  have B3 := Lib.hid (k2.blk B0.out (fun h => h))
  have S0 := Lib.hid s0
  clear o2 k2 s0 s1 D1
  go_upto_region 3 with (fail)
  have ka := Kept.alloc noBlock w2 (.cells #[.slice A2 (List.length nA) c2, .int .i64 1] 26)
  obtain ⟨c0, c1⟩ := two_cells (heap_alloc_new w2 (.cells #[.slice A2 (List.length nA) c2, .int .i64 1] 26))
  obtain ⟨d0, d1, d2, d3⟩ := ref_cells (ka.blk B3.out (fun h => h))
  clear ka
  go_wp2_with fail
  rw [show (w2.alloc (.cells #[.slice A2 (List.length nA) c2, .int .i64 1] 26)).alloc (.cells #[.string ⟨#[97]⟩, .int .i64 2, .int .i64 1, .int .i64 2] 31) = w3 from hw3.symm]
  refine D2.out.mono ?_
  rintro en w4 ⟨A4, c4, rfl, o4, k4⟩
  clear hw3 c0 c1 d0 d1 d2 d3 o4 D2
  obtain ⟨x4, hx4⟩ : ∃ x4, x4 = w4.alloc (.cells #[.slice A4 0 c4, .int .i64 0] 26) := ⟨_, rfl⟩
  have kx : Kept noBlock w4 x4 := by rw [hx4]; exact Kept.alloc _ _ _
  obtain ⟨w5, hw5⟩ : ∃ w5, w5 = (x4.alloc (.cells rA.cells.toArray 31)).alloc (.cells #[.string ⟨#[97]⟩] 9) := ⟨_, rfl⟩
  have ky : Kept noBlock x4 w5 := by rw [hw5]; exact (Kept.alloc _ _ _).step (Kept.alloc _ _ _)
  have r5 : w5.heap[w4.heap.size + 1]? = some (.cells rA.cells.toArray 31 (0, 0)) := by
    rw [hw5, show w4.heap.size + 1 = x4.heap.size from by rw [hx4]; simp]
    exact (Kept.alloc noBlock _ _).blk (heap_alloc_new _ _) (fun h => h)
  have n5 : w5.heap[w4.heap.size + 2]? = some (.cells #[.string ⟨#[97]⟩] 9 (0, 0)) := by
    rw [hw5, show w4.heap.size + 2 = (x4.alloc (.cells rA.cells.toArray 31)).heap.size from by rw [hx4]; simp]
    exact heap_alloc_new _ _
  have hS5 : Sw w5 (fun _ => True) nA A2 c2 := S2.out.kept (((k4.step kx).step ky))
  have D3 := Lib.hid (edo_any (fun _ => True) (fun _ => True) nA 1 A2 c2 eA2 (some ⟨w4.heap.size + 1, 0, none⟩) 1 (some ⟨w4.heap.size + 2, 0, none⟩) 1 w5 hS5 nA_good (by decide) ⟨ref_new r5 trivial, fun _ =>
    ⟨_, rfl, trivial, fun j u hu => by
      have hu1 : [Value.string ⟨#[97]⟩][j]? = some u := hu
      rw [add_plain, cell_of_row _ _ _ _ _ _ n5]
      simpa using hu1⟩, Nat.le_refl _, Nat.le_refl _⟩ (by simp [eA2]) (by simp [eA2]) (fun k hk => by simp [eA2] at hk; rw [hk]; decide))
  rw [dA3.1, dA3.2] at D3
  unfold setv evl at D3
  have K4 : Hid (Kept noBlock w x4) := (K3.out.step k4).step kx
  have K5 : Hid (Kept noBlock w w5) := K4.out.step ky
  obtain ⟨c0, c1⟩ := two_cells ((k4.step kx).blk S0.out (fun h => h))
  obtain ⟨d0, d1, d2, d3⟩ := ref_cells (((k3.step k4).step kx).blk B3.out (fun h => h))
  clear kx ky k4 r5 n5 hS5
  rw [hx4] at c0 c1 d0 d1 d2 d3
  go_upto_region 4 with (fail)
  go_wp2_with fail
  rw [show ((w4.alloc (.cells #[.slice A4 0 c4, .int .i64 0] 26)).alloc (.cells #[.string ⟨#[97]⟩, .int .i64 2, .int .i64 1, .int .i64 2] 31)).alloc (.cells #[.string ⟨#[97]⟩] 9) = w5 from by rw [hw5, hx4]; rfl]
  refine D3.out.mono ?_
  rintro en w6 ⟨A6, c6, rfl, o6, k6⟩
  clear hw5 hx4 c0 c1 d0 d1 d2 d3 D3
  obtain ⟨w7, hw7⟩ : ∃ w7, w7 = w6.alloc (.cells #[.slice A6 (List.length nA) c6, .int .i64 2] 26) := ⟨_, rfl⟩
  have k7 : Kept noBlock w6 w7 := by rw [hw7]; exact Kept.alloc _ _ _
  obtain ⟨c0, c1⟩ : w7.cell? ⟨w6.heap.size, 0, none⟩ = some (.slice A6 (List.length nA) c6) ∧ w7.cell? ⟨w6.heap.size, 1, none⟩ = some (.int .i64 2) := by
    rw [hw7]
    exact two_cells (heap_alloc_new _ _)
  have S7 : Sw w7 (fun _ => True) nA A6 c6 := Sw.of_own (own_keep o6 k7 (fun _ _ h => h)) rfl (fun _ _ => trivial)
  have FD := Lib.hid (find_any (fun _ => True) A6 (List.length nA) c6 2 (nA.map (·.2)) ⟨#[97]⟩ w7 S7.la (by simp) (by decide))
  rw [fA] at FD
  have K7 := Lib.hid ((K5.out.step k6).step k7)
  clear o6 k6 k7 S7
  go_upto_region 5 with (fail)
  rw [← hw7]
  clear hw7
  go_wp2_with fail
  refine FD.out.mono ?_
  rintro en w8 ⟨rfl, k8⟩
  have K8 := Lib.hid (K7.out.step k8)
  clear c0 c1 FD k8
  go_wp2
  go_ret
  exact ⟨rfl, K8.out⟩
end Go.Proofs.Ytjijdkdpmbfdmaa
