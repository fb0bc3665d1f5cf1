/-
  CheckSum: what it does with whatever bytes and row of bits. No statement is proved here.
-/
import Derived.Test.YtfegoeepjmjlcaaL2Awake
namespace Go.Proofs.Ytfegoeepjmjlcaa
open Go.RowKit

set_option maxHeartbeats 1000000 in
theorem sum_walk (F : Nat → Prop) (a : Option Addr) (n c : Nat) (l : List UInt8) (p : Nat) (w : World) (hp : p < 4294967296) (h : Lies w F a (l.map bv)) (hl : l.length = n) (hn : n ≤ 9223372036854775807) :
    Calls Try.prog 4 #[.slice a n c, .int .u32 (p : Int)] w fun e w' => e = .returned (.bool true) ∧ Kept noBlock w w' := by
  have HP := Lib.hid hp; clear hp
  go_enter Try.func4, Try.ntmps4
  go_wp2_with fail
  refine (awake_any w).mono ?_
  rintro e w1 ⟨rfl, k1⟩
  go_wp2_with fail
  refine (of_any p w1 HP.out).mono ?_
  rintro e w2 ⟨rfl, k2⟩
  go_wp2_with (first | refine wpList_alloc_row rfl 25 rfl (tabk 0 0) Try.zeroTable ?_ | refine wpList_store_new rfl 25 _ _ rfl (tab p) (tabk 0 0) rfl rfl (tab_fits _) (tab_old _) (tab_one _) ?_)
  obtain ⟨w3, hw3⟩ : ∃ w3, w3 = w2.alloc (.cells (tab p) 25) := ⟨_, rfl⟩
  have kw3 : Kept noBlock w2 w3 := by rw [hw3]; exact Kept.alloc _ _ _
  have ht : ∀ j, j < 256 → w3.cell? ⟨w2.heap.size, j, none⟩ = some (uv (stpN p 8 j)) := by rw [hw3]; exact tab_there w2 _
  rw [← hw3]
  clear hw3
  have k3 := (k1.step k2).step kw3
  have h3 := h.keep k3 (fun _ _ h => h)
  refine (tsum_any _ p F a n c l w3 ht HP.out h3 hl hn).mono ?_
  rintro e w4 ⟨rfl, rfl⟩
  clear ht
  go_wp2_with fail
  refine (lsum_any p F a n c l w3 HP.out h3 hl hn).mono ?_
  rintro e w4 ⟨rfl, rfl⟩
  go_wp2_with fail
  refine (sum_any F a n c l w3 h3 hl hn).mono ?_
  rintro e w4 ⟨rfl, k4⟩
  go_wp2_with fail
  refine (lsum_any 3988292384 F a n c l w4 (by decide) (h3.keep k4 (fun _ _ h => h)) hl hn).mono ?_
  rintro e w5 ⟨rfl, rfl⟩
  go_wp2
  go_ret
  exact ⟨rfl, k3.step k4⟩

end Go.Proofs.Ytfegoeepjmjlcaa
