/-
  CheckTable: what it does with whatever row of bits, at whatever place. No statement is proved here.
-/
import Derived.Test.YtfegoeepjmjlcaaL2Awake
namespace Go.Proofs.Ytfegoeepjmjlcaa
open Go.RowKit

set_option maxHeartbeats 1000000 in
theorem table_walk (p at_ : Nat) (w : World) (hp : p < 4294967296) (ha : at_ < 256) :
    Calls Try.prog 3 #[.int .u32 (p : Int), .int .u8 (at_ : Int)] w fun e w' => e = .returned (.bool true) ∧ Kept noBlock w w' := by
  have HP := Lib.hid hp; clear hp
  go_enter Try.func3, Try.ntmps3
  go_wp2_with fail
  refine (awake_any w).mono ?_
  rintro e w1 ⟨rfl, k1⟩
  go_wp2_with fail
  refine (of_any p w1 HP.out).mono ?_
  rintro e w2 ⟨rfl, k2⟩
  go_wp2_with (first | refine wpList_alloc_row rfl 25 rfl (tabk 0 0) Try.zeroTable ?_ | refine wpList_store_new rfl 25 _ _ rfl (tab p) (tabk 0 0) rfl rfl (tab_fits _) (tab_old _) (tab_one _) ?_)
  obtain ⟨w3, hw3⟩ : ∃ w3, w3 = w2.alloc (.cells (tab p) 25) := ⟨_, rfl⟩
  have kw3 : Kept noBlock w2 w3 := by rw [hw3]; exact Kept.alloc _ _ _
  have ht : ∀ j, j < 256 → w3.cell? ⟨w2.heap.size, j, none⟩ = some (uv (stpN p 8 j)) := by rw [hw3]; exact tab_there w2 _
  rw [← hw3]
  clear hw3
  have hc1 := ht at_ ha
  have hc0 := ht 0 (by omega)
  rw [stpN_zero] at hc0
  unfold uv at hc1 hc0
  clear ht
  have h32 : IntKind.u32.wrap (at_ : Int) = (at_ : Int) := by rw [IntKind.wrap_u32']; omega
  have hI : (at_ : Int) < 256 := by omega
  have hh : at_ < 4294967296 := by omega
  go_quiet (first | (go_at_call 12; refine Calls.quiet_of_same (turned (halve_any at_ p _ hh HP.out))))
  go_wp2
  go_ret
  exact ⟨rfl, ((k1.step k2).step kw3).step (Kept.drewN _ _ _)⟩

end Go.Proofs.Ytfegoeepjmjlcaa
