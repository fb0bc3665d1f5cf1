/-
  Which files are not needed, as the statements say it: plain mathematics. No statement is proved here.
-/
import Derived.Test.YtollmkkbeeeccaaL11Full
import Derived.Test.YtollmkkbeeeccaaL11Use
import Derived.Test.YtollmkkbeeeccaaP11Un2
import Derived.Test.YtollmkkbeeeccaaP11Pl
namespace Go.Proofs.Ytollmkkbeeeccaa
open Go.RowKit Tot

theorem setS_get {rs : List RfN} {j : Nat} {x : RefV} (h : (setS rs)[j]? = some x) : ∃ r, j < 14 ∧ x = refS r j := by
  unfold setS at h
  rw [List.getElem?_map] at h
  cases hz : (rs.take 14).zipIdx[j]? with
  | none => rw [hz] at h; cases h
  | some q =>
    rw [hz] at h
    injection h with h
    have hj : j < (rs.take 14).length := by
      have := (List.getElem?_eq_some_iff.1 hz).1
      rwa [List.length_zipIdx] at this
    rw [List.length_take] at hj
    rw [List.getElem?_zipIdx] at hz
    cases hr : (rs.take 14)[j]? with
    | none => rw [hr] at hz; cases hz
    | some r =>
      rw [hr] at hz
      injection hz with hz
      refine ⟨r, by omega, ?_⟩
      rw [← h, ← hz]
      simp
theorem nmS_inj {j k : Nat} (hj : j < 14) (hk : k < 14) (h : nmS j = nmS k) : j = k := by
  unfold nmS at h
  rw [str_eq] at h
  injection h with h
  have := congrArg UInt8.toNat h
  simp at this
  omega
theorem setS_one {rs : List RfN} {j k : Nat} {x y : RefV} (h1 : (setS rs)[j]? = some x) (h2 : (setS rs)[k]? = some y) (he : x.name = y.name) : j = k := by
  obtain ⟨r, hj, rfl⟩ := setS_get h1
  obtain ⟨s, hk, rfl⟩ := setS_get h2
  exact nmS_inj hj hk he
theorem setS_good {rs : List RfN} {x : RefV} (h : x ∈ setS rs) : x.May := by
  obtain ⟨j, hj⟩ := List.mem_iff_getElem?.1 h
  obtain ⟨r, _, rfl⟩ := setS_get hj
  have h1 := r.kd.toNat_lt
  have h2 := r.fr.toNat_lt
  have h3 := r.lg.toNat_lt
  unfold refS RefV.May
  refine ⟨by show 1 ≤ (nmS j).size; unfold nmS; rw [str_size]; simp, by show (nmS j).size ≤ 16; unfold nmS; rw [str_size]; simp, by simp only; omega, by simp only; omega, by simp only; omega, ?_, ?_, ?_⟩
  · simp only; split <;> omega
  · simp only; split <;> omega
  · simp only; intro h0; rw [if_pos (by omega)]
theorem maxV_spec {xs : List Int} (h : xs ≠ []) : maxV xs ∈ xs ∧ ∀ x ∈ xs, x ≤ maxV xs := by
  cases xs with
  | nil => exact absurd rfl h
  | cons a l =>
    have key : ∀ (l : List Int) (a : Int), l.foldl max a ∈ a :: l ∧ ∀ x ∈ a :: l, x ≤ l.foldl max a := by
      intro l
      induction l with
      | nil => intro a; exact ⟨by simp, fun x hx => by rw [List.mem_singleton] at hx; rw [hx]; exact Int.le_refl _⟩
      | cons b t ih =>
        intro a
        rw [List.foldl_cons]
        obtain ⟨h1, h2⟩ := ih (max a b)
        refine ⟨?_, fun x hx => ?_⟩
        · rcases List.mem_cons.1 h1 with h1 | h1
          · rw [h1]
            rcases Int.le_total a b with hab | hab
            · rw [Int.max_eq_right hab]; simp
            · rw [Int.max_eq_left hab]; simp
          · exact List.mem_cons_of_mem _ (List.mem_cons_of_mem _ h1)
        · have h3 := h2 (max a b) List.mem_cons_self
          rcases List.mem_cons.1 hx with rfl | hx
          · exact Int.le_trans (Int.le_max_left _ _) h3
          · rcases List.mem_cons.1 hx with rfl | hx
            · exact Int.le_trans (Int.le_max_right _ _) h3
            · exact h2 x (List.mem_cons_of_mem _ hx)
    exact key l a
theorem fullV_none {O : List RefV} {n : Int} : fullV O n = none ↔ ∀ r ∈ O, ¬ r.to_ ≤ n := by
  induction O using rev_ind with
  | h0 => simp [fullV]
  | h1 O a ih =>
    have e : fullV (O ++ [a]) n = if a.to_ ≤ n then some a else fullV O n := by unfold fullV; rw [List.foldl_append]; rfl
    rw [e]
    by_cases ha : a.to_ ≤ n
    · rw [if_pos ha]
      constructor
      · intro h; cases h
      · intro h; exact absurd ha (h a (by simp))
    · rw [if_neg ha, ih]
      constructor
      · intro h r hr
        rcases List.mem_append.1 hr with hr | hr
        · exact h r hr
        · rw [List.mem_singleton] at hr; rw [hr]; exact ha
      · intro h r hr
        exact h r (by simp [hr])
theorem fullV_last {O : List RefV} {n : Int} (hr : Rises O) (hf : ∀ r ∈ O, r.from_ = r.to_) : ∀ {r}, fullV O n = some r → ∀ r' ∈ O, r'.to_ ≤ n → r'.to_ ≤ r.to_ := by
  induction O using rev_ind with
  | h0 => intro r h; cases h
  | h1 O a ih =>
    intro r h r' hr' hn
    have e : fullV (O ++ [a]) n = if a.to_ ≤ n then some a else fullV O n := by unfold fullV; rw [List.foldl_append]; rfl
    rw [e] at h
    have hp := List.pairwise_append.1 hr
    by_cases ha : a.to_ ≤ n
    · rw [if_pos ha] at h
      injection h with h
      subst h
      rcases List.mem_append.1 hr' with hm | hm
      · have h1 := hp.2.2 r' hm a (by simp)
        rw [ltR_false] at h1
        have h2 := hf r' (by simp [hm])
        have h3 := hf a (by simp)
        omega
      · rw [List.mem_singleton] at hm
        rw [hm]
        exact Int.le_refl _
    · rw [if_neg ha] at h
      rcases List.mem_append.1 hr' with hm | hm
      · exact ih hp.1 (fun r hr => hf r (by simp [hr])) h r' hm hn
      · rw [List.mem_singleton] at hm
        rw [hm] at hn
        exact absurd hn ha
/-- The statements' base is the code's. -/
theorem base_same {L : List RefV} {n : Int} (hf : ∀ r ∈ L, r.kind = 0 → r.from_ = r.to_) : atB (fullV (ordK 0 L) n) = baseV L n := by
  unfold baseV
  have hmem : ∀ t, t ∈ tosV L n ↔ ∃ r ∈ ordK 0 L, r.to_ ≤ n ∧ r.to_ = t := by
    intro t
    unfold tosV
    rw [List.mem_map]
    constructor
    · rintro ⟨r, hr, rfl⟩
      rw [List.mem_filter, decide_eq_true_iff] at hr
      exact ⟨r, mem_ordK.2 ⟨hr.1, hr.2.1⟩, hr.2.2, rfl⟩
    · rintro ⟨r, hr, h1, rfl⟩
      have := mem_ordK.1 hr
      exact ⟨r, by rw [List.mem_filter, decide_eq_true_iff]; exact ⟨this.1, this.2, h1⟩, rfl⟩
  cases h : fullV (ordK 0 L) n with
  | none =>
    have he : tosV L n = [] := by
      cases ht : tosV L n with
      | nil => rfl
      | cons t l =>
        obtain ⟨r, hr, h1, _⟩ := (hmem t).1 (by rw [ht]; simp)
        exact absurd h1 (fullV_none.1 h r hr)
    rw [he]
    rfl
  | some r =>
    have h1 := fullV_le h
    have hin : r.to_ ∈ tosV L n := (hmem r.to_).2 ⟨r, h1.2, h1.1, rfl⟩
    have hsp := maxV_spec (xs := tosV L n) (by intro e; rw [e] at hin; simp at hin)
    obtain ⟨r', hr', h2, h3⟩ := (hmem _).1 hsp.1
    have h4 := fullV_last (ordV_rises _) (fun q hq => hf q (mem_ordK.1 hq).1 (mem_ordK.1 hq).2) h r' hr' h2
    have h5 := hsp.2 _ hin
    show r.to_ = _
    omega
/-- The last part, of parts in order. -/
theorem last_same (L : List RefV) (j : Nat) (h : j + 1 = (ordK 2 L).length) : (ordK 2 L)[j]? = (lastV L).map (·.2) := by
  rw [lastV_ord]
  unfold ordK ordV at h ⊢
  rw [List.length_reverse] at h
  rw [List.getElem?_reverse (by omega)]
  rw [show (ordR (ofK 2 L)).length - 1 - j = 0 by omega]
  cases ordR (ofK 2 L) <;> rfl
theorem last_none {L : List RefV} : (ordK 2 L).length = 0 ↔ lastV L = none := by
  have h := lastV_ord L
  unfold ordK ordV
  rw [List.length_reverse]
  constructor
  · intro h0
    rw [List.eq_nil_of_length_eq_zero h0] at h
    cases hl : lastV L with
    | none => rfl
    | some q => rw [hl] at h; cases h
  · intro h0
    rw [h0] at h
    cases hl : ordR (ofK 2 L) with
    | nil => rfl
    | cons y t => rw [hl] at h; cases h
/-- The statements' own test of a file. -/
def wantB (lst : Option RefV) (b : Int) (x : RefV) : Bool := if x.kind = 0 then decide (x.to_ < b) else decide (lst ≠ some x) && (decide (x.to_ ≤ b) && decide (x.from_ < b))
theorem want_same {rs : List RfN} {L : List RefV} (hL : L = setS rs) {b : Int} {j : Nat} {x : RefV} (hx : L[j]? = some x) : (plcO (lastV L) ≠ some j ∧ aheadV x b = true) ↔ wantB ((lastV L).map (·.2)) b x = true := by
  unfold aheadV wantB
  cases hl : lastV L with
  | none =>
    unfold plcO
    by_cases h0 : x.kind = 0
    · simp [h0]
    · simp [h0]
  | some q =>
    obtain ⟨k, y⟩ := q
    obtain ⟨hk, hy2⟩ := lastV_at L k y hl
    have hiff : (k = j) ↔ (y = x) := by
      constructor
      · rintro rfl
        rw [hx] at hk
        injection hk with hk
        exact hk.symm
      · rintro rfl
        rw [hL] at hx hk
        exact setS_one hk hx rfl
    unfold plcO
    by_cases h0 : x.kind = 0
    · have hkj : ¬ k = j := by
        intro e
        have := hiff.1 e
        rw [this, h0] at hy2
        cases hy2
      simp [h0, hkj]
    · simp [h0, hiff]
end Go.Proofs.Ytollmkkbeeeccaa
