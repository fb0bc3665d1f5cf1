/-
  PackMany: what it does with whatever numbers. No statement is proved here.
-/
import Derived.Test.YtnenbohnbojjgaaL1Awake
import Derived.Deep.DeepCutAuto
namespace Go.Proofs.Ytnenbohnbojjgaa
open Go.RowKit

/-- The bytes of numbers. -/
def bes (zs : List Int) : List UInt8 := zs.flatMap be8
theorem bes_snoc (zs : List Int) (k : Nat) (x : Int) (h : zs[k]? = some x) : bes (zs.take (k + 1)) = bes (zs.take k) ++ be8 x := by
  rw [take_snoc zs k x h]
  simp [bes]
theorem bes_length (zs : List Int) : (bes zs).length = 8 * zs.length := by
  induction zs with
  | nil => rfl
  | cons x r ih =>
    have : bes (x :: r) = be8 x ++ bes r := by simp [bes]
    rw [this, List.length_append, be8_length, ih, List.length_cons]
    omega

theorem drop_cons {α : Type} (l : List α) (k : Nat) (x : α) (h : l[k]? = some x) : l.drop k = x :: l.drop (k + 1) := by
  obtain ⟨hk, e⟩ := List.getElem?_eq_some_iff.1 h
  rw [List.drop_eq_getElem_cons hk, e]
theorem rNum_bes (zs : List Int) (k : Nat) (x : Int) (h : zs[k]? = some x) (hx : -9223372036854775808 ≤ x ∧ x ≤ 9223372036854775807) : rNum (bes (zs.drop k)) false = (x, bes (zs.drop (k + 1)), false) := by
  rw [drop_cons zs k x h]
  exact rNum_be8 x _ hx.1 hx.2

set_option maxHeartbeats 1000000 in
theorem many_walk (F : Nat → Prop) (a : Option Addr) (n c : Nat) (zs : List Int) (w : World) (h : Lies w F a (zs.map (Value.int .i64))) (hl : zs.length = n) (hnc : n ≤ c) (hn63 : n ≤ 9223372036854775807)
    (hF : ∀ i, F i → i < w.heap.size) (hz : ∀ x ∈ zs, -9223372036854775808 ≤ x ∧ x ≤ 9223372036854775807) :
    Calls Try.prog 8 #[.slice a n c] w fun e w' => e = .returned (.bool true) ∧ Kept noBlock w w' := by
  go_enter Try.func8, Try.ntmps8
  go_wp2_with fail
  refine (awake_any w).mono ?_
  rintro e w1 ⟨rfl, k1⟩
  go_upto_region 3 with (fail)
  go_cut [0] (fun s wc => wc = w1 ∧ s = .slice a (min n 200) c)
  case first =>
    go_wp2
    all_goals
      go_meet
      case rel => exact ⟨rfl, by congr 1; omega⟩
  case rest =>
    obtain ⟨rfl, rfl⟩ := hcut
    obtain ⟨ys, hys⟩ : ∃ ys, ys = zs.take (min n 200) := ⟨_, rfl⟩
    have hyl : min n 200 = ys.length := by rw [hys, List.length_take]; omega
    have hy200 : ys.length ≤ 200 := by omega
    have hyz : ∀ x ∈ ys, -9223372036854775808 ≤ x ∧ x ≤ 9223372036854775807 := fun x hx => hz x (by rw [hys] at hx; exact List.mem_of_mem_take hx)
    have hy : Lies wc F a (ys.map (Value.int .i64)) := by
      rw [hys, List.map_take]
      exact (h.take _).keep k1 (fun _ _ h => h)
    rw [hyl]
    clear hys hyl h hz
    have hFc : ∀ i, F i → i < wc.heap.size := fun i hi => Nat.lt_of_lt_of_le (hF i hi) k1.size
    go_wp2
    go_loopw [21] (fun i wr => ∃ (k : Nat) (G : Nat → Prop), k ≤ ys.length ∧ i = .int .i64 k ∧ Kept noBlock wc wr ∧ Wr wr G wc.heap.size (bes (ys.take k)) ∧ ∀ i, G i → wc.heap.size ≤ i) (fun i _ => ys.length - (intOf i).toNat)
    case atStart => exact ⟨0, _, by omega, rfl, Kept.alloc _ _ _, Wr.new wc, fun i h => by omega⟩
    case round =>
      obtain ⟨k, G, hk, rfl, hkept, hw, hG⟩ := hrel
      have hbl : (bes (ys.take k)).length ≤ 1600 := by rw [bes_length, List.length_take]; omega
      by_cases hlt : k < ys.length
      · obtain ⟨x, hx⟩ : ∃ x, ys[k]? = some x := ⟨_, List.getElem?_eq_getElem hlt⟩
        obtain ⟨ad, rfl, _, hcell⟩ := (hy.keep hkept (fun _ _ h => h)).at_ (k := k) (u := .int .i64 x) (by simp [hx])
        have HX := Lib.hid hx
        clear hx
        go_wp2_with fail
        refine (wnum_any _ G _ x wr hw (by omega)).mono ?_
        rintro e w2 ⟨rfl, k2, h2⟩
        rw [← bes_snoc ys k x HX.out] at h2
        go_wp2
        go_roundw
        case rel => exact ⟨k + 1, _, by omega, by go_num, hkept.trans k2 (fun i hi h => absurd (hG i h) (by omega)), h2, fun i hi => by rcases hi with h | h; exact hG i h; exact Nat.le_trans hkept.size h.1⟩
        case measure => simp [intOf]; omega
      · obtain rfl : k = ys.length := by omega
        rw [List.take_length] at hw hbl
        go_wp2_with fail
        refine (wbytes_n _ G _ (8 * ys.length) wr hw (bes_length ys) (by omega)).mono ?_
        rintro e w2 ⟨A, cp, rfl, h2, k2⟩
        go_wp2_with fail
        refine (of_any (fun _ => True) A (8 * ys.length) cp (bes ys) w2 (Lies.of_own h2 (fun _ _ => trivial)) (bes_length ys) (by omega)).mono ?_
        rintro e w3 ⟨b, rfl, h3, k3⟩
        clear h2 hw
        have k13 : Kept noBlock wc w3 := (hkept.step k2).step k3
        have hb3 : wc.heap.size ≤ b := by have := h3.foot.1; have := (hkept.step k2).size; omega
        go_wp2
        go_loopw [35] (fun i wr => ∃ (k : Nat), k ≤ ys.length ∧ i = .int .i64 k ∧ Kept noBlock wc wr ∧ Rd wr (fresh w2 w3) b (bes (ys.drop k)) false) (fun i _ => ys.length - (intOf i).toNat)
        case atStart => exact ⟨0, by omega, rfl, k13, h3⟩
        case round =>
          obtain ⟨k, hk, rfl, hkept', hr⟩ := hrel
          by_cases hlt : k < ys.length
          · obtain ⟨x, hx⟩ : ∃ x, ys[k]? = some x := ⟨_, List.getElem?_eq_getElem hlt⟩
            obtain ⟨ad, rfl, _, hcell⟩ := (hy.keep hkept' (fun _ _ h => h)).at_ (k := k) (u := .int .i64 x) (by simp [hx])
            have hrn := rNum_bes ys k x hx (hyz x (List.mem_of_getElem? hx))
            clear hx
            go_wp2_with fail
            refine (rnum_any b _ _ _ _ hr).mono ?_
            rw [hrn]
            clear hrn
            rintro e w4 ⟨rfl, h4, k4⟩
            simp only at h4
            clear hr
            go_wp2
            go_roundw
            case rel => exact ⟨k + 1, by omega, by go_num, hkept'.trans k4 (fun i hi h => by omega), h4⟩
            case measure => simp [intOf]; omega
          · obtain rfl : k = ys.length := by omega
            rw [List.drop_length] at hr
            go_wp2_with fail
            refine (rdone_any b _ _ _ _ hr).mono ?_
            rintro e w4 ⟨rfl, rfl⟩
            go_wp2
            go_ret
            exact ⟨rfl, k1.step hkept'⟩

end Go.Proofs.Ytnenbohnbojjgaa
