/-
  What is restored without the files that are not needed: plain mathematics. No statement is proved here.
-/
import Derived.Test.YtollmkkbeeeccaaL11UnPl
import Derived.Test.YtollmkkbeeeccaaE10Keys
namespace Go.Proofs.Ytollmkkbeeeccaa
open Go.RowKit Tot

theorem fullV_getLast (O : List RefV) (i : Int) : fullV O i = (O.filter (fun r => decide (r.to_ ≤ i))).getLast? := by
  induction O using rev_ind with
  | h0 => rfl
  | h1 O a ih =>
    have e : fullV (O ++ [a]) i = if a.to_ ≤ i then some a else fullV O i := by unfold fullV; rw [List.foldl_append]; rfl
    rw [e, List.filter_append, ih]
    by_cases ha : a.to_ ≤ i
    · rw [if_pos ha, List.filter_cons_of_pos (by simpa using ha), List.filter_nil, List.getLast?_concat]
    · rw [if_neg ha, List.filter_cons_of_neg (by simpa using ha), List.filter_nil, List.append_nil]
theorem getLast_filter {l : List RefV} {keep : RefV → Bool} {r : RefV} (h : l.getLast? = some r) (hk : keep r = true) : (l.filter keep).getLast? = some r := by
  rcases List.eq_nil_or_concat l with rfl | ⟨m, a, rfl⟩
  · cases h
  · rw [List.concat_eq_append, List.getLast?_concat] at h
    injection h with h
    subst h
    rw [List.concat_eq_append, List.filter_append, List.filter_cons_of_pos hk, List.filter_nil, List.getLast?_concat]
/-- What is dropped of files. -/
structure Drp (L : List RefV) (fl : Int) (keep : RefV → Bool) : Prop where
  full : ∀ r ∈ L, r.kind = 0 → r.from_ = r.to_
  pos : ∀ r ∈ L, 0 ≤ r.to_
  drop : ∀ r ∈ L, keep r = false → aheadV r (baseV L fl) = true ∧ (lastV L).map (·.2) ≠ some r
section
variable {L : List RefV} {fl i : Int} {keep : RefV → Bool}
theorem Drp.base (h : Drp L fl keep) : (fullV (ordK 0 L) fl = none ∧ baseV L fl = -1) ∨ ∃ r, fullV (ordK 0 L) fl = some r ∧ baseV L fl = r.to_ := by
  have hb := base_same (n := fl) h.full
  cases hf : fullV (ordK 0 L) fl with
  | none => rw [hf] at hb; exact .inl ⟨rfl, hb.symm⟩
  | some r => rw [hf] at hb; exact .inr ⟨r, rfl, hb.symm⟩
/-- The full file of a later index is no less than the base. -/
theorem Drp.full_ge (h : Drp L fl keep) (hi : fl ≤ i) : ∀ r, fullV (ordK 0 L) i = some r → baseV L fl ≤ r.to_ := by
  intro r hr
  have hm := fullV_le hr
  rcases h.base with ⟨_, hb⟩ | ⟨r0, h0, hb⟩
  · have := h.pos r (mem_ordK.1 hm.2).1
    omega
  · have h1 := fullV_le h0
    have := fullV_last (ordV_rises _) (fun q hq => h.full q (mem_ordK.1 hq).1 (mem_ordK.1 hq).2) hr r0 h1.2 (by omega)
    omega
theorem Drp.fullV (h : Drp L fl keep) (hi : fl ≤ i) : fullV (ordK 0 (L.filter keep)) i = fullV (ordK 0 L) i := by
  rw [ordK_filter, fullV_getLast, fullV_getLast, List.filter_filter, show (fun a => decide (RefV.to_ a ≤ i) && keep a) = (fun a => keep a && decide (RefV.to_ a ≤ i)) from funext fun a => Bool.and_comm _ _, ← List.filter_filter]
  cases hl : ((ordK 0 L).filter (fun r => decide (r.to_ ≤ i))).getLast? with
  | none =>
    rw [List.getLast?_eq_none_iff.1 hl]
    rfl
  | some r =>
    refine getLast_filter hl ?_
    have hr : Go.Proofs.Ytollmkkbeeeccaa.fullV (ordK 0 L) i = some r := by rw [fullV_getLast, hl]
    have hm := mem_ordK.1 (fullV_le hr).2
    cases hk : keep r with
    | true => rfl
    | false =>
      have h1 := (h.drop r hm.1 hk).1
      have h2 := h.full_ge hi r hr
      unfold aheadV at h1
      rw [if_pos hm.2, decide_eq_true_iff] at h1
      omega
theorem Drp.posF (h : Drp L fl keep) (hi : fl ≤ i) : posF (L.filter keep) i = posF L i ∧ baseV L fl ≤ posF L i := by
  refine ⟨by unfold Go.Proofs.Ytollmkkbeeeccaa.posF; rw [h.fullV hi], ?_⟩
  unfold Go.Proofs.Ytollmkkbeeeccaa.posF
  cases hf : Go.Proofs.Ytollmkkbeeeccaa.fullV (ordK 0 L) i with
  | some r => exact h.full_ge hi r hf
  | none =>
    show baseV L fl ≤ 0
    rcases h.base with ⟨_, hb⟩ | ⟨r0, h0, hb⟩
    · omega
    · have h1 := fullV_le h0
      exact absurd (by omega : r0.to_ ≤ i) (fullV_none.1 hf r0 h1.2)
theorem dlt_filter {b : Int} : ∀ (l : List RefV) (ds : List RefV) (p : Int), b ≤ p → (∀ r ∈ l, keep r = false → r.from_ < b) → (l.filter keep).foldl (dltS i) (ds, p) = l.foldl (dltS i) (ds, p) := by
  intro l
  induction l with
  | nil => intro _ _ _ _; rfl
  | cons x t ih =>
    intro ds p hp hd
    cases hk : keep x with
    | true =>
      rw [List.filter_cons_of_pos hk, List.foldl_cons, List.foldl_cons]
      unfold dltS
      split
      · rename_i h
        simp only at h
        exact ih _ _ (by omega) (fun r hr => hd r (by simp [hr]))
      · exact ih _ _ hp (fun r hr => hd r (by simp [hr]))
    | false =>
      rw [List.filter_cons_of_neg (by simp [hk]), List.foldl_cons]
      have h1 := hd x (by simp) hk
      have e : dltS i (ds, p) x = (ds, p) := if_neg (fun h => by have := h.1; simp only at this; omega)
      rw [e]
      exact ih ds p hp (fun r hr => hd r (by simp [hr]))
theorem prt_filter {b : Int} : ∀ (l : List RefV) (ds : List RefV) (p : Int), b ≤ p → (∀ r ∈ l, keep r = false → r.to_ ≤ b) → ((l.filter keep).map (fun r => (r, r.to_))).foldl (prtS i) (ds, p) = (l.map (fun r => (r, r.to_))).foldl (prtS i) (ds, p) := by
  intro l
  induction l with
  | nil => intro _ _ _ _; rfl
  | cons x t ih =>
    intro ds p hp hd
    cases hk : keep x with
    | true =>
      rw [List.filter_cons_of_pos hk, List.map_cons, List.map_cons, List.foldl_cons, List.foldl_cons]
      unfold prtS
      split
      · rename_i h
        simp only at h
        exact ih _ _ (by omega) (fun r hr => hd r (by simp [hr]))
      · exact ih _ _ hp (fun r hr => hd r (by simp [hr]))
    | false =>
      rw [List.filter_cons_of_neg (by simp [hk]), List.map_cons, List.foldl_cons]
      have h1 := hd x (by simp) hk
      have e : prtS i (ds, p) (x, x.to_) = (ds, p) := if_neg (fun h => by have := h.2.2; simp only at this; omega)
      rw [e]
      exact ih ds p hp (fun r hr => hd r (by simp [hr]))
theorem Drp.posD (h : Drp L fl keep) (hi : fl ≤ i) : posD (L.filter keep) i = posD L i ∧ baseV L fl ≤ (posD L i).2 := by
  obtain ⟨h1, h2⟩ := h.posF hi
  have e : Go.Proofs.Ytollmkkbeeeccaa.posD (L.filter keep) i = Go.Proofs.Ytollmkkbeeeccaa.posD L i := by
    unfold Go.Proofs.Ytollmkkbeeeccaa.posD dltV
    rw [h1, ordK_filter]
    refine dlt_filter (b := baseV L fl) _ _ _ h2 (fun r hr hk => ?_)
    have hm := mem_ordK.1 hr
    have h3 := (h.drop r hm.1 hk).1
    unfold aheadV at h3
    rw [if_neg (by omega), Bool.and_eq_true, decide_eq_true_iff, decide_eq_true_iff] at h3
    exact h3.2
  refine ⟨e, ?_⟩
  have key : ∀ (l : List RefV) (a : List RefV × Int), baseV L fl ≤ a.2 → baseV L fl ≤ (l.foldl (dltS i) a).2 := by
    intro l
    induction l with
    | nil => intro a ha; exact ha
    | cons x t ih =>
      intro a ha
      rw [List.foldl_cons]
      refine ih _ ?_
      unfold dltS
      split
      · rename_i hx
        simp only at hx ⊢
        omega
      · exact ha
  exact key _ _ h2
theorem Drp.posP (h : Drp L fl keep) (hi : fl ≤ i) (n : Int) : posP (L.filter keep) n i = posP L n i := by
  obtain ⟨h1, h2⟩ := h.posD hi
  unfold Go.Proofs.Ytollmkkbeeeccaa.posP prtV
  rw [h1, ordK_filter]
  rcases List.eq_nil_or_concat (ordK 2 L) with he | ⟨m, a, he⟩
  · rw [he]
    rfl
  · rw [List.concat_eq_append] at he
    have hl := last_same L m.length (by rw [he, List.length_append]; rfl)
    rw [he, List.getElem?_append_right (Nat.le_refl _), Nat.sub_self] at hl
    have hmem : ∀ r, r ∈ m ++ [a] → r ∈ L ∧ r.kind = 2 := fun r hr => mem_ordK.1 (by rw [he]; exact hr)
    have hka : keep a = true := by
      cases hk : keep a with
      | true => rfl
      | false => exact absurd hl.symm (h.drop a (hmem a (by simp)).1 hk).2
    rw [he, List.filter_append, List.filter_cons_of_pos hka, List.filter_nil, endsV_snoc, endsV_snoc, List.foldl_append, List.foldl_append]
    rw [prt_filter (b := baseV L fl) m [] _ h2 (fun r hr hk => by
      have hm := hmem r (by simp [hr])
      have h3 := (h.drop r hm.1 hk).1
      unfold aheadV at h3
      rw [if_neg (by omega), Bool.and_eq_true, decide_eq_true_iff, decide_eq_true_iff] at h3
      exact h3.1)]
theorem Drp.plan (h : Drp L fl keep) (hi : fl ≤ i) (n : Int) (h0 : (planV L 0 n i).2 = 0) : (planV (L.filter keep) fl n i).2 = 0 := by
  rcases planV_cases L 0 n i with hp | ⟨h1, h2, h3, hp⟩
  · rw [hp] at h0
    cases h0
  · rw [planV_yes (by omega) (by rw [h.posP hi n]; omega)]
end

/-- Parts one behind the other. -/
def pP (k : Nat) : RefV := ⟨str [112, UInt8.ofNat (48 + k)], 2, ((8 * k : Nat) : Int), ((8 * k + 8 : Nat) : Int)⟩
def parts4 : List RefV := [pP 0, pP 1, pP 2, pP 3]
def stillS (rs : List RfN) : List RefV := noPart (setS rs) ++ parts4
theorem still_parts (rs : List RfN) : ordK 2 (stillS rs) = parts4 := by
  have e : ofK 2 (stillS rs) = parts4 := by
    unfold ofK stillS
    rw [List.filter_append]
    have h1 : (noPart (setS rs)).filter (fun r => decide (r.kind = 2)) = [] := by
      unfold noPart
      rw [List.filter_filter, List.filter_eq_nil_iff]
      intro r _
      simp
    rw [h1]
    rfl
  unfold ordK
  rw [e]
  unfold ordV ordR parts4
  simp only [List.foldl_cons, List.foldl_nil]
  have h : ∀ a b : Nat, b < a → ltR (pP a) (pP b) = false := fun a b h => by rw [ltR_false]; left; show ((8 * b : Nat) : Int) < ((8 * a : Nat) : Int); omega
  rw [insR, insR, h 1 0 (by omega), if_neg (by simp), insR, h 2 1 (by omega), if_neg (by simp), insR, h 3 2 (by omega), if_neg (by simp)]
  rfl
/-- Parts one behind the other lead to each index. -/
theorem still_leads {q n i : Int} (hq : 0 ≤ q) (hi : i ≤ n) (hn : n ≤ 32) : i ≤ (prtV parts4 q n i).2 := by
  have step : ∀ (a : List RefV × Int) (k : Nat) (e : Int), e = ((8 * k + 8 : Nat) : Int) → min i ((8 * k : Nat) : Int) ≤ a.2 → min i ((8 * (k + 1) : Nat) : Int) ≤ (prtS i a (pP k, e)).2 := by
    intro a k e he h
    unfold prtS
    split
    · simp only
      omega
    · rename_i hn
      simp only [pP] at hn
      omega
  unfold prtV parts4
  have h4 : max (pP 3).to_ n = ((8 * 3 + 8 : Nat) : Int) := by show max ((8 * 3 + 8 : Nat) : Int) n = _; omega
  simp only [endsV, List.foldl_cons, List.foldl_nil, h4]
  have h1 := step ([], q) 0 (pP 0).to_ rfl (by simp only; omega)
  have h2 := step _ 1 (pP 1).to_ rfl h1
  have h3 := step _ 2 (pP 2).to_ rfl h2
  have h5 := step _ 3 _ rfl h3
  omega
theorem still_plan {rs : List RfN} {n i : Int} (h0 : 0 ≤ i) (hi : i ≤ n) (hn : n ≤ 32) : (planV (stillS rs) 0 n i).2 = 0 := by
  rw [planV_yes (by omega) ?_]
  unfold Go.Proofs.Ytollmkkbeeeccaa.posP
  rw [still_parts]
  have hg := dltG (ordK 1 (stillS rs)) (posF (stillS rs) i) i (posF_le h0)
  have hge : 0 ≤ (posD (stillS rs) i).2 := by
    have hp : 0 ≤ posF (stillS rs) i := by
      unfold Go.Proofs.Ytollmkkbeeeccaa.posF
      cases hf : fullV (ordK 0 (stillS rs)) i with
      | none => exact Int.le_refl _
      | some r =>
        have hm := (mem_ordK.1 (fullV_le hf).2).1
        unfold stillS at hm
        rcases List.mem_append.1 hm with hm | hm
        · have := setS_good (List.mem_filter.1 hm).1
          unfold RefV.May at this
          show 0 ≤ r.to_
          omega
        · unfold parts4 at hm
          simp only [List.mem_cons, List.not_mem_nil, or_false] at hm
          rcases hm with rfl | rfl | rfl | rfl <;> (show 0 ≤ ((_ : Nat) : Int); omega)
    have key : ∀ (l : List RefV) (a : List RefV × Int), 0 ≤ a.2 → 0 ≤ (l.foldl (dltS i) a).2 := by
      intro l
      induction l with
      | nil => intro a ha; exact ha
      | cons x t ih =>
        intro a ha
        rw [List.foldl_cons]
        refine ih _ ?_
        unfold dltS
        split
        · rename_i hx
          simp only at hx ⊢
          omega
        · exact ha
    exact key _ _ hp
  have := still_leads (q := (posD (stillS rs) i).2) hge hi hn
  omega
end Go.Proofs.Ytollmkkbeeeccaa
