/-
  Two rows that rise, as one: of a key that is in both the second one's value. No statement is proved here.
-/
import Derived.Test.YtohanlhfbfodlaaSrt
namespace Go.Proofs.Ytohanlhfbfodlaa.Srt
variable {α β : Type} [Tot α]
open Tot

/-- What is left of the second row behind a key. -/
def past (R : List (α × β)) (k : α) : List (α × β) := R.drop (pos R k + if has R k = true then 1 else 0)
def mrg : List (α × β) → List (α × β) → List (α × β)
  | [], R => R
  | p :: A, R => R.take (pos R p.1) ++ (p.1, (look R p.1).getD p.2) :: mrg A (past R p.1)
def rst : List (α × β) → List (α × β) → List (α × β)
  | [], R => R
  | p :: A, R => rst A (past R p.1)
def emt : List (α × β) → List (α × β) → List (α × β)
  | [], _ => []
  | p :: A, R => R.take (pos R p.1) ++ (p.1, (look R p.1).getD p.2) :: emt A (past R p.1)
theorem mrg_append (P S R : List (α × β)) : mrg (P ++ S) R = emt P R ++ mrg S (rst P R) := by
  induction P generalizing R with
  | nil => rfl
  | cons p r ih => simp [mrg, emt, rst, ih]
theorem emt_snoc (P R : List (α × β)) (x : α × β) : emt (P ++ [x]) R = emt P R ++ ((rst P R).take (pos (rst P R) x.1) ++ [(x.1, (look (rst P R) x.1).getD x.2)]) := by
  induction P generalizing R with
  | nil => simp [emt, rst]
  | cons p r ih => simp [emt, rst, ih]
theorem rst_snoc (P R : List (α × β)) (x : α × β) : rst (P ++ [x]) R = past (rst P R) x.1 := by
  induction P generalizing R with
  | nil => rfl
  | cons p r ih => simp [rst, ih]
theorem Up.drop {L : List (α × β)} (h : Up L) (n : Nat) : Up (L.drop n) := h.sub (List.drop_sublist n L)
theorem up_past {R : List (α × β)} (h : Up R) (k : α) : Up (past R k) := h.drop _
theorem up_rst {R : List (α × β)} (h : Up R) (P : List (α × β)) : Up (rst P R) := by
  induction P generalizing R with
  | nil => exact h
  | cons p r ih => exact ih (up_past h p.1)
theorem past_len (R : List (α × β)) (k : α) : (past R k).length ≤ R.length := by unfold past; rw [List.length_drop]; omega
theorem rst_len (P R : List (α × β)) : (rst P R).length ≤ R.length := by
  induction P generalizing R with
  | nil => exact Nat.le_refl _
  | cons p r ih => exact Nat.le_trans (ih _) (past_len R p.1)
theorem mem_split {R : List (α × β)} (hu : Up R) (k : α) (x : α × β) : x ∈ R ↔ x ∈ R.take (pos R k) ∨ (look R k = some x.2 ∧ x.1 = k) ∨ x ∈ past R k := by
  unfold past
  cases hh : has R k with
  | false =>
    have hl := (has_false R k).1 hh
    rw [hl, if_neg (by simp), Nat.add_zero]
    conv => lhs; rw [← List.take_append_drop (pos R k) R, List.mem_append]
    simp
  | true =>
    obtain ⟨v, hk, hl⟩ := has_at hu hh
    rw [if_pos rfl, hl]
    have hlt := has_lt hu hh
    have e : R = R.take (pos R k) ++ (k, v) :: R.drop (pos R k + 1) := by
      have h2 : R[pos R k] = (k, v) := by rw [List.getElem?_eq_getElem hlt] at hk; injection hk
      rw [← h2, List.getElem_cons_drop, List.take_append_drop]
    conv => lhs; rw [e, List.mem_append, List.mem_cons]
    obtain ⟨x1, x2⟩ := x
    simp only [Prod.mk.injEq, Option.some.injEq]
    constructor
    · rintro (h | ⟨h1, h2⟩ | h)
      · exact .inl h
      · exact .inr (.inl ⟨h2.symm, h1⟩)
      · exact .inr (.inr h)
    · rintro (h | ⟨h1, h2⟩ | h)
      · exact .inl h
      · exact .inr (.inl ⟨h2, h1.symm⟩)
      · exact .inr (.inr h)
theorem take_lt {R : List (α × β)} {k : α} {x : α × β} (h : x ∈ R.take (pos R k)) : lt x.1 k = true := by
  obtain ⟨m, hm⟩ := List.getElem?_of_mem h
  rw [List.getElem?_take] at hm
  split at hm
  · rename_i h1
    exact pos_below h1 hm
  · cases hm
theorem past_gt {R : List (α × β)} (hu : Up R) {k : α} {x : α × β} (h : x ∈ past R k) : lt k x.1 = true := by
  unfold past at h
  obtain ⟨m, hm⟩ := List.getElem?_of_mem h
  rw [List.getElem?_drop] at hm
  cases hh : has R k with
  | false => exact has_not hu hh (by omega) hm
  | true =>
    obtain ⟨v, hk, _⟩ := has_at hu hh
    rw [hh, if_pos rfl] at hm
    exact hu.get (by omega) hk hm
theorem look_past {R : List (α × β)} (hu : Up R) {k j : α} (h : lt k j = true) : look (past R k) j = look R j := by
  refine look_ext (up_past hu k) fun v => ?_
  constructor
  · intro hm
    exact look_of_mem hu ((mem_split hu k _).2 (.inr (.inr hm)))
  · intro hl
    rcases (mem_split hu k _).1 (mem_of_look hl) with h1 | ⟨_, h1⟩ | h1
    · have := take_lt h1
      rw [asym h] at this
      cases this
    · simp only at h1
      rw [h1, irr] at h
      cases h
    · exact h1
theorem mem_mrg {A R : List (α × β)} (hA : Up A) (hR : Up R) (x : α × β) : x ∈ mrg A R ↔ x ∈ R ∨ (x ∈ A ∧ look R x.1 = none) := by
  induction A generalizing R with
  | nil => simp [mrg]
  | cons p A ih =>
    rw [mrg, List.mem_append, List.mem_cons, ih hA.tail (up_past hR p.1), mem_split hR p.1 x]
    constructor
    · rintro (h | h | h | ⟨h1, h2⟩)
      · exact .inl (.inl h)
      · subst h
        cases hl : look R p.1 with
        | none => exact .inr ⟨by simp, rfl⟩
        | some v => exact .inl (.inr (.inl ⟨by simp, rfl⟩))
      · exact .inl (.inr (.inr h))
      · rw [look_past hR (hA.head x h1)] at h2
        exact .inr ⟨by simp [h1], h2⟩
    · rintro ((h | ⟨h1, h2⟩ | h) | ⟨h1, h2⟩)
      · exact .inl h
      · refine .inr (.inl ?_)
        obtain ⟨x1, x2⟩ := x
        simp only at h1 h2
        rw [h1, h2]
        rfl
      · exact .inr (.inr (.inl h))
      · rcases List.mem_cons.1 h1 with rfl | h1
        · exact .inr (.inl (by rw [h2]; rfl))
        · exact .inr (.inr (.inr ⟨h1, by rw [look_past hR (hA.head x h1)]; exact h2⟩))
theorem up_mrg {A R : List (α × β)} (hA : Up A) (hR : Up R) : Up (mrg A R) := by
  induction A generalizing R with
  | nil => exact hR
  | cons p A ih =>
    rw [mrg]
    have hgt : ∀ q ∈ mrg A (past R p.1), lt p.1 q.1 = true := fun q hq => by
      rcases (mem_mrg hA.tail (up_past hR p.1) q).1 hq with h | ⟨h, _⟩
      · exact past_gt hR h
      · exact hA.head q h
    refine Up.append.2 ⟨hR.sub (List.take_sublist _ _), List.pairwise_cons.2 ⟨hgt, ih hA.tail (up_past hR p.1)⟩, fun x hx q hq => ?_⟩
    rcases List.mem_cons.1 hq with rfl | hq
    · exact take_lt hx
    · exact tr (take_lt hx) (hgt q hq)
theorem look_mrg {A R : List (α × β)} (hA : Up A) (hR : Up R) (k : α) : look (mrg A R) k = (look R k).or (look A k) := by
  refine look_ext (up_mrg hA hR) fun v => ?_
  rw [mem_mrg hA hR]
  constructor
  · rintro (h | ⟨h, h2⟩)
    · rw [look_of_mem hR h]; rfl
    · simp only at h2
      rw [h2, look_of_mem hA h]; rfl
  · intro h
    cases hl : look R k with
    | some u =>
      rw [hl] at h
      injection h with h
      subst h
      exact .inl (mem_of_look hl)
    | none =>
      rw [hl] at h
      exact .inr ⟨mem_of_look h, rfl⟩
theorem mrg_len (A R : List (α × β)) : (mrg A R).length ≤ A.length + R.length := by
  induction A generalizing R with
  | nil => simp [mrg]
  | cons p A ih =>
    rw [mrg]
    have := ih (past R p.1)
    have h2 : (past R p.1).length ≤ R.length - pos R p.1 := by unfold past; rw [List.length_drop]; omega
    have h3 := pos_le R p.1
    rw [List.length_append, List.length_take, List.length_cons, List.length_cons]
    omega
end Go.Proofs.Ytohanlhfbfodlaa.Srt
