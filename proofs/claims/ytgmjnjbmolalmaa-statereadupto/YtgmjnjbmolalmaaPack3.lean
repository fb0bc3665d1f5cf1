/-
  The contracts of package pack, third part: what a Reader reads. No statement is proved here.
-/
import Derived.Test.YtgmjnjbmolalmaaPack2
namespace Go.Proofs.Ytgmjnjbmolalmaa
open Go.RowKit

/-- What Num reads: the number, what is left, and whether the Reader is bad. -/
def rNum (l : List UInt8) (bad : Bool) : Int × List UInt8 × Bool := if bad = true ∨ l.length < 8 then (0, l, true) else (rdN (l.take 8), l.drop 8, false)

theorem rNum_be8 (n : Int) (r : List UInt8) (h1 : -9223372036854775808 ≤ n) (h2 : n ≤ 9223372036854775807) : rNum (be8 n ++ r) false = (n, r, false) := by
  unfold rNum
  have hl := be8_length n
  rw [if_neg (by simp [hl]), List.take_left' hl, List.drop_left' hl, rdN_be8 n h1 h2]

/-- A Reader's method came back: with this value, and this is left. -/
def Read (w : World) (F : Nat → Prop) (b : Nat) (v : Value) (r : List UInt8 × Bool) (e : Ending) (w' : World) : Prop :=
  e = .returned v ∧ Rd w' F b r.1 r.2 ∧ Kept (fun k => k = b) w w'

set_option maxHeartbeats 400000 in
theorem rnum_any (b : Nat) (F : Nat → Prop) (l : List UInt8) (bad : Bool) (w : World) (h : Rd w F b l bad) :
    Calls Try.prog 45 #[.pointer (some ⟨b, 0, none⟩)] w (Read w F b (.int .i64 (rNum l bad).1) (rNum l bad).2) := by
  by_cases hc : bad = true ∨ l.length < 8
  · go_enter Try.func45, Try.ntmps45
    go_wp2_with fail
    refine (take_no b F l bad 8 w h (by rcases hc with h | h; exact .inl h; exact .inr (.inr (by omega)))).mono ?_
    rintro e w1 ⟨rfl, h1, h2⟩
    have R := Lib.hid h1; clear h1
    go_wp2
    refine wp_loop_rounds 1 ?_
    rw [rounds_succ]
    go_wp2
    go_ret
    unfold rNum
    rw [if_pos hc]
    exact ⟨rfl, R.out, h2⟩
  · go_enter Try.func45, Try.ntmps45
    go_wp2_with fail
    obtain rfl : bad = false := by cases bad; rfl; exact absurd (.inl rfl) hc
    refine (take_yes b F l 8 w h (by omega)).mono ?_
    rintro e w1 ⟨A, c, rfl, h1, h2, h3⟩
    have R := Lib.hid h2; clear h2
    go_wp2
    go_loop [3, 9] (fun s i => ∃ k : Nat, k ≤ 8 ∧ i = .int .i64 k ∧ s = .int .u64 (rdU (l.take k))) (fun _ i => 8 - (intOf i).toNat)
    case atStart => exact ⟨0, by omega, rfl, rfl⟩
    case round =>
      obtain ⟨k, hk, rfl, rfl⟩ := hrel
      by_cases hlt : k < 8
      · have hkl : k < l.length := by omega
        obtain ⟨x, hx⟩ : ∃ x, l[k]? = some x := ⟨_, List.getElem?_eq_getElem hkl⟩
        obtain ⟨ad, rfl, _, hcell⟩ := h1.at_ (k := k) (u := bv x) (by simp [hlt, hx])
        unfold bv at hcell
        have HX := Lib.hid hx; clear hx
        have hlen : (l.take k).length < 8 := by rw [List.length_take]; omega
        have HO := Lib.hid (or_step (rdU (l.take k)) x (rdU_lt8 _ hlen))
        go_wp2
        go_round
        case rel => exact ⟨k + 1, by omega, by go_num, by rw [HO.out, take_snoc l k x HX.out, rdU_snoc]⟩
        case measure => simp [intOf]; omega
      · obtain rfl : k = 8 := by omega
        go_wp2
        go_ret
        unfold rNum
        rw [if_neg hc]
        exact ⟨rfl, R.out, h3⟩

/-- What Byte reads. -/
def rByte (l : List UInt8) (bad : Bool) : UInt8 × List UInt8 × Bool := if bad = true ∨ l.length < 1 then (0, l, true) else (l.headD 0, l.drop 1, false)

set_option maxHeartbeats 400000 in
theorem rbyte_any (b : Nat) (F : Nat → Prop) (l : List UInt8) (bad : Bool) (w : World) (h : Rd w F b l bad) :
    Calls Try.prog 66 #[.pointer (some ⟨b, 0, none⟩)] w (Read w F b (.int .u8 ((rByte l bad).1.toNat : Int)) (rByte l bad).2) := by
  by_cases hc : bad = true ∨ l.length < 1
  · go_enter Try.func66, Try.ntmps66
    go_wp2_with fail
    refine (take_no b F l bad 1 w h (by rcases hc with h | h; exact .inl h; exact .inr (.inr (by omega)))).mono ?_
    rintro e w1 ⟨rfl, h1, h2⟩
    have R := Lib.hid h1
    obtain ⟨A, c, hb, _⟩ := h1
    have hc1 : w1.cell? ⟨b, 1, none⟩ = some (.bool true) := cell_of_row _ _ _ _ _ _ hb
    clear hb
    go_wp2
    go_ret
    unfold rByte
    rw [if_pos hc]
    exact ⟨rfl, R.out, h2⟩
  · obtain rfl : bad = false := by cases bad; rfl; exact absurd (.inl rfl) hc
    obtain ⟨x, hx⟩ : ∃ x, l[0]? = some x := ⟨_, List.getElem?_eq_getElem (by omega)⟩
    have hv : rByte l false = (x, l.drop 1, false) := by
      unfold rByte
      rw [if_neg hc]
      cases l <;> simp at hx ⊢
      exact hx
    rw [hv]
    have HV := Lib.hid hx
    clear hv hx
    go_enter Try.func66, Try.ntmps66
    go_wp2_with fail
    refine (take_yes b F l 1 w h (by omega)).mono ?_
    rintro e w1 ⟨A, c, rfl, h1, h2, h3⟩
    have R := Lib.hid h2
    obtain ⟨A2, c2, hb, _⟩ := h2
    have hc1 : w1.cell? ⟨b, 1, none⟩ = some (.bool false) := cell_of_row _ _ _ _ _ _ hb
    clear hb
    obtain ⟨ad, rfl, _, hcell⟩ := h1.at_ (k := 0) (u := bv x) (by simp [HV.out])
    have hcell' : w1.cell? ad = some (.int .u8 (x.toNat : Int)) := hcell
    clear hcell
    go_wp2
    go_ret
    exact ⟨rfl, R.out, h3⟩

/-- What Text reads. -/
def rText (l : List UInt8) (bad : Bool) : List UInt8 × List UInt8 × Bool :=
  if (rNum l bad).2.2 = true ∨ (rNum l bad).1 < 0 ∨ ((rNum l bad).2.1.length : Int) < (rNum l bad).1 then ([], (rNum l bad).2.1, true)
  else ((rNum l bad).2.1.take (rNum l bad).1.toNat, (rNum l bad).2.1.drop (rNum l bad).1.toNat, false)

set_option maxHeartbeats 400000 in
theorem rtext_any (b : Nat) (F : Nat → Prop) (l : List UInt8) (bad : Bool) (w : World) (h : Rd w F b l bad) :
    Calls Try.prog 65 #[.pointer (some ⟨b, 0, none⟩)] w (Read w F b (.string ⟨(rText l bad).1.toArray⟩) (rText l bad).2) := by
  obtain ⟨q, hq⟩ : ∃ q, rNum l bad = q := ⟨_, rfl⟩
  have hr := rnum_any b F l bad w h
  have ht : rText l bad = rText l bad := rfl
  conv at ht => rhs; unfold rText
  rw [hq] at hr ht
  obtain ⟨n, l', bad'⟩ := q
  simp only at hr ht
  by_cases hc : bad' = true ∨ n < 0 ∨ (l'.length : Int) < n
  · rw [if_pos hc] at ht
    rw [ht]
    clear ht hq
    go_enter Try.func65, Try.ntmps65
    go_wp2_with fail
    refine hr.mono ?_
    rintro e w1 ⟨rfl, h1, h2⟩
    simp only at h1
    clear hr
    go_wp2_with fail
    refine (take_no b F l' bad' n w1 h1 hc).mono ?_
    rintro e w2 ⟨rfl, h3, h4⟩
    have hcv := fun c => run_str_lies (P := Try.prog) (w := w2) (F := noBlock) 37 9 5 Try.underlying37 Try.underlying5 Try.underlying9 (a := none) (n := 0) (l := []) (Lies.nil _ _ _) rfl c
    clear h1
    go_wp2
    go_ret
    exact ⟨rfl, h3, h2.step h4⟩
  · rw [if_neg hc] at ht
    rw [ht]
    clear ht hq
    obtain rfl : bad' = false := by cases bad'; rfl; exact absurd (.inl rfl) hc
    obtain ⟨m, rfl⟩ : ∃ m : Nat, n = m := Int.eq_ofNat_of_zero_le (by omega)
    go_enter Try.func65, Try.ntmps65
    go_wp2_with fail
    refine hr.mono ?_
    rintro e w1 ⟨rfl, h1, h2⟩
    simp only at h1
    clear hr
    go_wp2_with fail
    refine (take_yes b F l' m w1 h1 (by omega)).mono ?_
    rintro e w2 ⟨A, c, rfl, h3, h4, h5⟩
    have hcv := fun c => run_str_lies (P := Try.prog) (w := w2) (F := F) 37 9 5 Try.underlying37 Try.underlying5 Try.underlying9 (a := A) (n := m) (l := l'.take m) h3 (by rw [List.length_take]; omega) c
    clear h1 h3
    go_wp2
    go_ret
    exact ⟨rfl, h4, h2.step h5⟩

end Go.Proofs.Ytgmjnjbmolalmaa
