/-
  What the statements of layer 2 say in their own words, and the document's examples. No statement is proved here.
-/
import Derived.Test.YtfegoeepjmjlcaaCheck
import Derived.Deep.DeepCutAuto
import Derived.Lib.SlBytesConst
namespace Go.Proofs.Ytfegoeepjmjlcaa
open Go.RowKit

theorem halve_odd {m p : Nat} (hm : m < 4294967296) (hp : p < 4294967296) (h : ((m : Int) % 2 == 1) = true) : bits BinOp.xor IntKind.u32 ((m : Int) / 2 % 4294967296) (p : Int) = ((stp p m : Nat) : Int) := by
  have h2 : m % 2 = 1 := by have := of_decide_eq_true h; omega
  have e : (m : Int) / 2 % 4294967296 = ((m / 2 : Nat) : Int) := by omega
  rw [e, u32_xor_nat _ _ (by omega) hp, stp, if_pos h2]
theorem halve_even {m p : Nat} (hm : m < 4294967296) (h : ((m : Int) % 2 == 1) = false) : (m : Int) / 2 % 4294967296 = ((stp p m : Nat) : Int) := by
  have h2 : ¬ m % 2 = 1 := by have := of_decide_eq_false h; omega
  rw [stp, if_neg h2, Nat.xor_zero]
  omega

set_option maxRecDepth 100000 in
set_option maxHeartbeats 400000 in
theorem halve_any (n p : Nat) (w : World) (hn : n < 4294967296) (hp : p < 4294967296) :
    Calls Try.prog 12 #[.int .u32 (n : Int), .int .u32 (p : Int)] w fun e w' => e = .returned (.int .u32 ((stpN p 8 n : Nat) : Int)) ∧ w = w' := by
  have HP := Lib.hid hp; clear hp
  have HN := Lib.hid hn; clear hn
  go_enter Try.func12, Try.ntmps12
  go_wp2
  go_loop [0, 5] (fun m i => ∃ j : Nat, j ≤ 8 ∧ i = .int .i64 j ∧ m = .int .u32 ((stpN p j n : Nat) : Int)) (fun _ i => 8 - (intOf i).toNat)
  case atStart => exact ⟨0, by omega, rfl, rfl⟩
  case round =>
    obtain ⟨j, hj, rfl, rfl⟩ := hrel
    obtain ⟨m, hm⟩ : ∃ m, m = stpN p j n := ⟨_, rfl⟩
    rw [← hm]
    have HM := Lib.hid hm; clear hm
    by_cases hj8 : j < 8
    · have hm32 : m < 4294967296 := by rw [HM.out]; exact stpN_lt HP.out HN.out j
      have HM32 := Lib.hid hm32; clear hm32
      go_wp2
      · go_round
        case rel => exact ⟨j + 1, by omega, by go_num, by rw [halve_odd HM32.out HP.out (by assumption), HM.out]; rfl⟩
        case measure => simp [intOf]; omega
      · go_round
        case rel => exact ⟨j + 1, by omega, by go_num, by rw [halve_even (p := p) HM32.out (by assumption), HM.out]; rfl⟩
        case measure => simp [intOf]; omega
    · obtain rfl : j = 8 := by omega
      go_wp2
      go_ret
      exact ⟨by rw [HM.out]; rfl, rfl⟩

set_option maxRecDepth 100000 in
set_option maxHeartbeats 400000 in
theorem lsum_any (p : Nat) (F : Nat → Prop) (a : Option Addr) (n c : Nat) (l : List UInt8) (w : World) (hp : p < 4294967296)
    (h : Lies w F a (l.map bv)) (hl : l.length = n) (hn : n ≤ 9223372036854775807) :
    Calls Try.prog 14 #[.slice a n c, .int .u32 (p : Int)] w fun e w' => e = .returned (.int .u32 ((crc p l : Nat) : Int)) ∧ w = w' := by
  obtain rfl := hl
  have HP := Lib.hid hp; clear hp
  go_enter Try.func14, Try.ntmps14
  go_wp2
  go_loop [5, 10] (fun r i => ∃ k : Nat, k ≤ l.length ∧ i = .int .i64 k ∧ r = .int .u32 ((run p (l.take k) 4294967295 : Nat) : Int)) (fun _ i => l.length - (intOf i).toNat)
  case atStart => exact ⟨0, by omega, rfl, by simp [run]⟩
  case round =>
    obtain ⟨k, hk, rfl, rfl⟩ := hrel
    obtain ⟨r, hr⟩ : ∃ r, r = run p (l.take k) 4294967295 := ⟨_, rfl⟩
    rw [← hr]
    have hr32 : r < 4294967296 := by rw [hr]; exact run_lt HP.out _ (by omega)
    have HR := Lib.hid hr32; clear hr32
    have HE := Lib.hid hr; clear hr
    by_cases hlt : k < l.length
    · obtain ⟨x, hx⟩ : ∃ x, l[k]? = some x := ⟨_, List.getElem?_eq_getElem hlt⟩
      obtain ⟨ad, rfl, _, hcell⟩ := h.at_ (k := k) (u := bv x) (by simp [hx])
      unfold bv at hcell
      have HX := Lib.hid hx; clear hx
      obtain ⟨q, hq⟩ : ∃ q, q = r ^^^ x.toNat := ⟨_, rfl⟩
      have hxr : bits BinOp.xor IntKind.u32 (r : Int) (x.toNat : Int) = (q : Int) := by
        rw [hq]
        exact u32_xor_nat r x.toNat HR.out (by have := x.toNat_lt; omega)
      have hx32 : IntKind.u32.wrap (x.toNat : Int) = (x.toNat : Int) := by rw [IntKind.wrap_u32']; have := x.toNat_lt; omega
      have hqe : q % 256 = x.toNat ^^^ r % 256 := by
        have h1 := Nat.xor_mod_two_pow (a := r) (b := x.toNat) (n := 8)
        have h2 : x.toNat % 2 ^ 8 = x.toNat := Nat.mod_eq_of_lt x.toNat_lt
        rw [h2, Nat.xor_comm (r % 2 ^ 8)] at h1
        rw [hq]
        exact h1
      have HQ := Lib.hid hqe; clear hqe hq
      go_wp2_with fail
      refine (halve_any (q % 256) p w (by omega) HP.out).mono ?_
      rintro e w1 ⟨rfl, rfl⟩
      go_wp2
      go_round
      case rel =>
        refine ⟨k + 1, by omega, by go_num, ?_⟩
        have e1 := u32_xor_nat (stpN p 8 (q % 256)) (r / 256) (stpN_lt HP.out (by omega) 8) (by have := HR.out; omega)
        rw [HQ.out, upd_table p r x.toNat, HE.out, ← run_snoc, ← take_snoc l k x HX.out, ← HE.out, ← HQ.out] at e1
        rw [← e1]
        have e2 : (r : Int) / 256 % 4294967296 = ((r / 256 : Nat) : Int) := by have := HR.out; omega
        first | rfl | rw [e2]
      case measure => simp [intOf]; omega
    · obtain rfl : k = l.length := by omega
      go_wp2
      go_ret
      refine ⟨?_, rfl⟩
      have e1 := u32_xor_nat r 4294967295 HR.out (by omega)
      have e2 : r ^^^ 4294967295 = crc p l := by rw [HE.out, List.take_length]; rfl
      rw [e2] at e1
      rw [← e1]
      rfl

/-- The document's example. -/
def awakeText : List UInt8 := [49, 50, 51, 52, 53, 54, 55, 56, 57]

set_option maxHeartbeats 400000 in
theorem awake_any (w : World) : Calls Try.prog 10 #[] w fun e w' => e = .returned (.bool true) ∧ Kept noBlock w w' := by
  have kc : ∀ (w : World) (o : Obj) (C : Array Value) (n c : Nat), (convert 29 29 (.slice (some ⟨w.heap.size + 1, 0, none⟩) n c)).run Try.prog ((w.alloc o).alloc (.cells C 5)) =
      .ok (.slice (some ⟨w.heap.size + 1, 0, none⟩) n c) ((w.alloc o).alloc (.cells C 5 (C.size, C.size + 1))) := fun w o C n c => by
    have := Lib.run_convert_bytes_const (P := Try.prog) (w.alloc o) 29 5 C n c Try.underlying29 Try.underlying5
    simpa using this
  go_enter Try.func10, Try.ntmps10
  go_wp2_with fail
  refine (of_any 3988292384 w (by decide)).mono ?_
  rintro e w1 ⟨rfl, k1⟩
  go_wp2_with (first | refine wpList_alloc_row rfl 25 rfl (tabk 0 0) Try.zeroTable ?_ | refine wpList_store_new rfl 25 _ _ rfl (tab 3988292384) (tabk 0 0) rfl rfl (tab_fits _) (tab_old _) (tab_one _) ?_)
  obtain ⟨w2, hw2⟩ : ∃ w2, w2 = w1.alloc (.cells (tab 3988292384) 25) := ⟨_, rfl⟩
  have hs2 : w1.heap.size + 1 = w2.heap.size := by rw [hw2]; simp
  have kw2 : Kept noBlock w1 w2 := by rw [hw2]; exact Kept.alloc _ _ _
  have ht2 : ∀ j, j < 256 → w2.cell? ⟨w1.heap.size, j, none⟩ = some (uv (stpN 3988292384 8 j)) := by rw [hw2]; exact tab_there w1 _
  rw [← hw2, hs2]
  clear hw2 hs2 kc
  obtain ⟨w3, hw3⟩ : ∃ w3, w3 = w2.alloc (.cells (awakeText.map bv).toArray 5 (9, 10)) := ⟨_, rfl⟩
  have hL3 : Lies w3 (fun _ => True) (some ⟨w2.heap.size, 0, none⟩) (awakeText.map bv) := by rw [hw3]; exact Lies.new _ _ _ _ _ trivial
  have kw3 : Kept noBlock w2 w3 := by rw [hw3]; exact Kept.alloc _ _ _
  have hw3' : w2.alloc (.cells #[.int .u8 49, .int .u8 50, .int .u8 51, .int .u8 52, .int .u8 53, .int .u8 54, .int .u8 55, .int .u8 56, .int .u8 57] 5 (9, 10)) = w3 := by rw [hw3]; rfl
  rw [hw3']
  clear hw3 hw3'
  refine (sum_any _ _ 9 _ awakeText w3 hL3 rfl (by decide)).mono ?_
  have e1 : crc 3988292384 awakeText = 3421780262 := by decide +kernel
  rw [e1]
  rintro e w4 ⟨rfl, k4⟩
  have ht4 : ∀ j, j < 256 → w4.cell? ⟨w1.heap.size, j, none⟩ = some (uv (stpN 3988292384 8 j)) := fun j hj => (kw3.step k4).cell (ht2 j hj) (fun h => h)
  have hc1 := ht4 1 (by omega)
  have e2 : stpN 3988292384 8 1 = 1996959894 := by decide +kernel
  rw [e2] at hc1
  unfold uv at hc1
  have HT := Lib.hid ht4
  clear ht4 ht2 e1 e2
  go_wp2_with fail
  refine (tsum_any _ 3988292384 (fun _ => True) none 0 0 [] w4 HT.out (by decide) (Lies.nil _ _ _) rfl (by decide)).mono ?_
  have e3 : crc 3988292384 [] = 0 := by decide +kernel
  rw [e3]
  rintro e w5 ⟨rfl, rfl⟩
  clear e3
  go_wp2
  go_ret
  exact ⟨rfl, ((k1.step kw2).step kw3).step k4⟩

end Go.Proofs.Ytfegoeepjmjlcaa
