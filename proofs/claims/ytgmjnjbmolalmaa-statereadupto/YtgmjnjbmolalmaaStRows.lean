/-
  The contract of state.ReadRows. No statement is proved here.
-/
import Derived.Test.YtgmjnjbmolalmaaStListPR
import Derived.Test.YtgmjnjbmolalmaaStListSN
namespace Go.Proofs.Ytgmjnjbmolalmaa
open Go.RowKit Tot

theorem rNum_le (l : List UInt8) (bad : Bool) : (rNum l bad).2.1.length ≤ l.length := by
  unfold rNum
  split
  · exact Nat.le_refl _
  · simp
theorem rByte_le (l : List UInt8) (bad : Bool) : (rByte l bad).2.1.length ≤ l.length := by
  cases hb : (rByte l bad).2.2 with
  | false =>
    obtain ⟨_, e⟩ := rByte_inv (x := (rByte l bad).1) (r := (rByte l bad).2.1) (by rw [← hb])
    have := congrArg List.length e
    simp only [List.length_append, List.length_singleton] at this
    omega
  | true =>
    unfold rByte at hb ⊢
    split
    · exact Nat.le_refl _
    · rename_i h; rw [if_neg h] at hb; simp at hb
theorem rText_le (l : List UInt8) (bad : Bool) : (rText l bad).2.1.length ≤ l.length := by
  have h1 := rNum_le l bad
  obtain ⟨⟨n, l', b'⟩, hq⟩ : ∃ q, rNum l bad = q := ⟨_, rfl⟩
  unfold rText
  rw [hq] at h1 ⊢
  simp only at h1 ⊢
  split
  · exact h1
  · refine Nat.le_trans ?_ h1
    simp
theorem rdPair_le (l : List UInt8) (bad : Bool) : (rdPair l bad).2.1.length ≤ l.length := by
  unfold rdPair
  simp only
  exact Nat.le_trans (rByte_le _ _) (Nat.le_trans (rText_le _ _) (rText_le _ _))
theorem rdSess_le (l : List UInt8) (bad : Bool) : (rdSess l bad).2.1.length ≤ l.length := by
  unfold rdSess
  simp only
  exact Nat.le_trans (rText_le _ _) (Nat.le_trans (rNum_le _ _) (Nat.le_trans (rNum_le _ _) (rNum_le _ _)))
section
variable {α : Type} {rd : List UInt8 → Bool → α × List UInt8 × Bool}
theorem rdList_le (hle : ∀ l bad, (rd l bad).2.1.length ≤ l.length) (n : Nat) : ∀ (l : List UInt8) (bad : Bool), (rdList rd n l bad).2.1.length ≤ l.length := by
  induction n with
  | zero => exact fun l _ => Nat.le_refl _
  | succ n ih =>
    intro l bad
    unfold rdList
    split
    · exact Nat.le_refl _
    · exact Nat.le_trans (ih _ _) (hle _ _)
theorem rdRow_le (hle : ∀ l bad, (rd l bad).2.1.length ≤ l.length) (l : List UInt8) (bad : Bool) : (rdRow rd l bad).2.1.length ≤ l.length := Nat.le_trans (rdList_le hle _ _ _) (rNum_le _ _)
theorem rdList_count (hrd : ∀ l x l', rd l false = (x, l', false) → l'.length + 17 ≤ l.length) (n : Nat) : ∀ (l : List UInt8) (bad : Bool), (rdList rd n l bad).1.length ≤ l.length + 1 := by
  induction n with
  | zero => intro l bad; simp [rdList]
  | succ n ih =>
    intro l bad
    unfold rdList
    split
    · simp
    · rename_i hb
      have hb : bad = false := by simpa using hb
      subst hb
      generalize hq : rd l false = q
      obtain ⟨x, l', b'⟩ := q
      simp only [List.length_cons]
      cases b' with
      | true => rw [rdList_bad]; simp
      | false =>
        have h1 := ih l' false
        have h2 := hrd l x l' hq
        omega
theorem rdRow_count (hrd : ∀ l x l', rd l false = (x, l', false) → l'.length + 17 ≤ l.length) (l : List UInt8) (bad : Bool) : (rdRow rd l bad).1.length ≤ l.length + 1 := Nat.le_trans (rdList_count hrd _ _ _) (Nat.succ_le_succ (rNum_le _ _))
end
def rdPs (l : List UInt8) (bad : Bool) : Prs := (rdRow rdPair l bad).1
def rdXs (l : List UInt8) (bad : Bool) : Sns := (rdRow rdSess (rdRow rdPair l bad).2.1 (rdRow rdPair l bad).2.2).1
def rdEnd (l : List UInt8) (bad : Bool) : List UInt8 × Bool := (rdRow rdSess (rdRow rdPair l bad).2.1 (rdRow rdPair l bad).2.2).2
theorem rdPs_len (l : List UInt8) (bad : Bool) : (rdPs l bad).length ≤ l.length + 1 := rdRow_count (fun _ _ _ h => rdPair_len h) l bad
theorem rdXs_len (l : List UInt8) (bad : Bool) : (rdXs l bad).length ≤ l.length + 1 := Nat.le_trans (rdRow_count (fun _ _ _ h => rdSess_len h) _ _) (Nat.succ_le_succ (rdRow_le rdPair_le _ _))

set_option maxRecDepth 100000 in
set_option maxHeartbeats 1000000 in
theorem readrows_any (F : Nat → Prop) (b : Nat) (l : List UInt8) (bad : Bool) (w : World) (h : Rd w F b l bad) (hx : l.length ≤ 1099511627776) :
    Calls Try.prog 31 #[.pointer (some ⟨b, 0, none⟩)] w fun e w' => ∃ A c B d, e = .returned (.tuple #[.slice A (rdPs l bad).length c, .slice B (rdXs l bad).length d]) ∧
      w'.ownsRow w.heap.size 61 3 (.slice A (rdPs l bad).length c) (rdPs l bad).length (PR.cells (rdPs l bad)) ∧ w'.ownsRow w.heap.size 84 4 (.slice B (rdXs l bad).length d) (rdXs l bad).length (SN.cells (rdXs l bad)) ∧
      Rd w' F b (rdEnd l bad).1 (rdEnd l bad).2 ∧ Kept (fun k => k = b) w w' := by
  have hb := h.lt b h.foot
  have L1 := Lib.hid (PR.list_any F b l bad w h hx)
  have L2 : Hid (∀ u, Rd u F b (rdRow rdPair l bad).2.1 (rdRow rdPair l bad).2.2 → Calls Try.prog 52 #[.pointer (some ⟨b, 0, none⟩), .func (.func 53) #[] #[]] u fun e w' => ∃ A c, e = .returned (.slice A (rdXs l bad).length c) ∧ w'.ownsRow u.heap.size 84 4 (.slice A (rdXs l bad).length c) (rdXs l bad).length (SN.cells (rdXs l bad)) ∧
      Rd w' F b (rdEnd l bad).1 (rdEnd l bad).2 ∧ Kept (fun k => k = b) u w') := fun u hu => SN.list_any F b _ _ u hu (Nat.le_trans (rdRow_le rdPair_le l bad) hx)
  clear h
  change Hid (Calls Try.prog 50 #[.pointer (some ⟨b, 0, none⟩), .func (.func 51) #[] #[]] w fun e w' => ∃ A c, e = .returned (.slice A (rdPs l bad).length c) ∧ w'.ownsRow w.heap.size 61 3 (.slice A (rdPs l bad).length c) (rdPs l bad).length (PR.cells (rdPs l bad)) ∧ Rd w' F b (rdRow rdPair l bad).2.1 (rdRow rdPair l bad).2.2 ∧ Kept (fun k => k = b) w w') at L1
  generalize rdPs l bad = ps at L1 ⊢
  generalize rdXs l bad = xs at L2 ⊢
  go_enter Try.func31, Try.ntmps31
  go_wp2_with fail
  refine L1.out.mono ?_
  rintro e w1 ⟨A, c, rfl, o1, r1, k1⟩
  have O1 := Lib.hid o1
  have R1 := Lib.hid r1
  have K1 := Lib.hid k1
  clear o1 r1 k1 L1
  go_wp2_with fail
  refine (L2.out w1 R1.out).mono ?_
  rintro e w2 ⟨B, d, rfl, o2, r2, k2⟩
  have O2 := Lib.hid o2
  have R2 := Lib.hid r2
  have O1' := Lib.hid (own_keep O1.out k2 (fun i hi e => by have := (O1.out.lt i hi).1; omega))
  have K2 := Lib.hid (K1.out.step k2)
  clear o2 r2 k2 L2
  go_wp2
  go_ret2
  exact ⟨A, c, B, d, rfl, O1'.out, own_base O2.out (fun i hi => Nat.le_trans K1.out.size (O2.out.lt i hi).1), R2.out, K2.out⟩
end Go.Proofs.Ytgmjnjbmolalmaa
