/-
  What plans lead to: plain mathematics. No statement is proved here.
-/
import Derived.Test.YtollmkkbeeeccaaPln
namespace Go.Proofs.Ytollmkkbeeeccaa
open Go.RowKit Tot

/-- Where files lead to, one behind the other. -/
def runTo (p : Int) (l : List RefV) : Int := l.foldl (fun _ r => r.to_) p
theorem runTo_step {l : List RefV} {p : Int} {j : Nat} {x : RefV} (hx : l[j]? = some x) : runTo p (l.take (j + 1)) = x.to_ := by
  unfold runTo
  rw [take_snoc l j x hx, List.foldl_append]
  rfl
/-- Deltas one behind the other. -/
structure DltG (l : List RefV) (p i : Int) (ds : List RefV) (q : Int) : Prop where
  run : runTo p ds = q
  le : q ≤ i
  mem : ∀ r ∈ ds, r ∈ l
  link : ∀ k r, ds[k]? = some r → r.from_ = runTo p (ds.take k) ∧ runTo p (ds.take k) < r.to_
theorem dltG (l : List RefV) (p i : Int) (hp : p ≤ i) : DltG l p i (dltV l p i).1 (dltV l p i).2 := by
  have key : ∀ m : List RefV, (∀ r ∈ m, r ∈ l) → DltG l p i (m.foldl (dltS i) ([], p)).1 (m.foldl (dltS i) ([], p)).2 := by
    intro m
    induction m using rev_ind with
    | h0 => intro _; exact ⟨rfl, hp, fun _ h => (by cases h), fun k r h => (by simp at h)⟩
    | h1 m a ih =>
      intro hm
      have ih := ih (fun r hr => hm r (by simp [hr]))
      rw [List.foldl_append, List.foldl_cons, List.foldl_nil]
      generalize m.foldl (dltS i) ([], p) = s at ih ⊢
      obtain ⟨ds, q⟩ := s
      unfold dltS
      split
      · rename_i h
        simp only at h ih ⊢
        refine ⟨?_, h.2.2, fun r hr => ?_, fun k r hk => ?_⟩
        · unfold runTo; rw [List.foldl_append]; rfl
        · rcases List.mem_append.1 hr with hr | hr
          · exact ih.mem r hr
          · rw [List.mem_singleton] at hr; rw [hr]; exact hm a (by simp)
        · by_cases hkl : k < ds.length
          · rw [List.getElem?_append_left hkl] at hk
            rw [List.take_append_of_le_length (by omega)]
            exact ih.link k r hk
          · have hkk : k = ds.length := by
              have := (List.getElem?_eq_some_iff.1 hk).1
              rw [List.length_append, List.length_singleton] at this
              omega
            subst hkk
            rw [List.getElem?_append_right (Nat.le_refl _), Nat.sub_self] at hk
            injection hk with hk
            subst hk
            rw [List.take_append_of_le_length (Nat.le_refl _), List.take_length, ih.run]
            exact ⟨h.1, h.2.1⟩
      · exact ih
  exact key l (fun _ h => h)
theorem fullV_le {l : List RefV} {i : Int} : ∀ {r}, fullV l i = some r → r.to_ ≤ i ∧ r ∈ l := by
  induction l using rev_ind with
  | h0 => intro r h; cases h
  | h1 l a ih =>
    intro r h
    unfold fullV at h ih
    rw [List.foldl_append, List.foldl_cons, List.foldl_nil] at h
    split at h
    · rename_i ha
      injection h with h
      subst h
      exact ⟨ha, by simp⟩
    · obtain ⟨h1, h2⟩ := ih h
      exact ⟨h1, by simp [h2]⟩
theorem posF_le {L : List RefV} {i : Int} (h0 : 0 ≤ i) : posF L i ≤ i := by
  unfold posF
  cases h : fullV (ordK 0 L) i with
  | none => exact h0
  | some r => exact (fullV_le h).1
/-- Where parts lead to, as one sees it. -/
def runM (q : Int) (l : List RefV) : Int := l.foldl (fun a r => max a r.to_) q
theorem runM_step {l : List RefV} {p : Int} {j : Nat} {x : RefV} (hx : l[j]? = some x) : runM p (l.take (j + 1)) = max (runM p (l.take j)) x.to_ := by
  unfold runM
  rw [take_snoc l j x hx, List.foldl_append]
  rfl
/-- Parts that lead on, each to its own end. -/
structure PrtG (l : List RefV) (q : Int) (ps : List RefV) (pos : Int) : Prop where
  run : runM q ps = pos
  mem : ∀ r ∈ ps, r ∈ l
  link : ∀ k r, ps[k]? = some r → r.from_ ≤ runM q (ps.take k) ∧ runM q (ps.take k) < r.to_
theorem PrtG.snoc {l : List RefV} {q pos : Int} {ps : List RefV} (h : PrtG l q ps pos) {a : RefV} (ha : a ∈ l) (h1 : a.from_ ≤ pos) (h2 : pos < a.to_) : PrtG l q (ps ++ [a]) a.to_ := by
  refine ⟨?_, fun r hr => ?_, fun k r hk => ?_⟩
  · unfold runM
    rw [List.foldl_append]
    show max (runM q ps) a.to_ = _
    rw [h.run]
    omega
  · rcases List.mem_append.1 hr with hr | hr
    · exact h.mem r hr
    · rw [List.mem_singleton] at hr; rw [hr]; exact ha
  · by_cases hkl : k < ps.length
    · rw [List.getElem?_append_left hkl] at hk
      rw [List.take_append_of_le_length (by omega)]
      exact h.link k r hk
    · have hkk : k = ps.length := by
        have := (List.getElem?_eq_some_iff.1 hk).1
        rw [List.length_append, List.length_singleton] at this
        omega
      subst hkk
      rw [List.getElem?_append_right (Nat.le_refl _), Nat.sub_self] at hk
      injection hk with hk
      subst hk
      rw [List.take_append_of_le_length (Nat.le_refl _), List.take_length, h.run]
      exact ⟨h1, h2⟩
theorem endsV_snoc (n : Int) (m : List RefV) (a : RefV) : endsV n (m ++ [a]) = m.map (fun r => (r, r.to_)) ++ [(a, max a.to_ n)] := by
  induction m with
  | nil => rfl
  | cons x t ih =>
    cases t with
    | nil => rfl
    | cons y t => 
      rw [List.cons_append, List.cons_append, endsV, ← List.cons_append, ih]
      rfl
theorem prtG_fold (l : List RefV) (q i : Int) : ∀ m : List RefV, (∀ r ∈ m, r ∈ l) → PrtG l q ((m.map (fun r => (r, r.to_))).foldl (prtS i) ([], q)).1 ((m.map (fun r => (r, r.to_))).foldl (prtS i) ([], q)).2 := by
  intro m
  induction m using rev_ind with
  | h0 => intro _; exact ⟨rfl, fun _ h => (by cases h), fun k r h => (by simp at h)⟩
  | h1 m a ih =>
    intro hm
    have ih := ih (fun r hr => hm r (by simp [hr]))
    rw [List.map_append, List.foldl_append, List.map_cons, List.map_nil, List.foldl_cons, List.foldl_nil]
    generalize (m.map (fun r => (r, r.to_))).foldl (prtS i) ([], q) = s at ih ⊢
    obtain ⟨ps, pos⟩ := s
    unfold prtS
    split
    · rename_i h
      exact ih.snoc (hm a (by simp)) h.2.1 h.2.2
    · exact ih
/-- The parts of a plan: all lead on to their own ends, but the last one perhaps. -/
theorem prtG (l : List RefV) (q n i : Int) : PrtG l q (prtV l q n i).1 (prtV l q n i).2 ∨ ∃ ps a pos, (prtV l q n i).1 = ps ++ [a] ∧ a ∈ l ∧ a.from_ ≤ pos ∧ PrtG l q ps pos := by
  unfold prtV
  rcases List.eq_nil_or_concat l with rfl | ⟨m, a, rfl⟩
  · exact .inl ⟨rfl, fun _ h => (by cases h), fun k r h => (by simp [endsV] at h)⟩
  · rw [List.concat_eq_append, endsV_snoc, List.foldl_append, List.foldl_cons, List.foldl_nil]
    have ih := prtG_fold (m ++ [a]) q i m (fun r hr => by simp [hr])
    generalize (m.map (fun r => (r, r.to_))).foldl (prtS i) ([], q) = s at ih ⊢
    obtain ⟨ps, pos⟩ := s
    unfold prtS
    split
    · rename_i h
      exact .inr ⟨ps, a, pos, rfl, by simp, h.2.1, ih⟩
    · exact .inl ih
theorem prtV_nil (q n i : Int) : prtV [] q n i = ([], q) := rfl
theorem prtV_empty {l : List RefV} {q n i : Int} (h : (prtV l q n i).1 = []) : (prtV l q n i).2 = q := by
  unfold prtV at h ⊢
  have key : ∀ (m : List (RefV × Int)), (m.foldl (prtS i) ([], q)).1 = [] → (m.foldl (prtS i) ([], q)).2 = q := by
    intro m
    induction m using rev_ind with
    | h0 => intro _; rfl
    | h1 m a ih =>
      rw [List.foldl_append, List.foldl_cons, List.foldl_nil]
      generalize m.foldl (prtS i) ([], q) = s at ih ⊢
      unfold prtS
      split
      · intro h; simp at h
      · exact ih
  exact key _ h

theorem prt_link (l : List RefV) (q n i : Int) : ∀ (k : Nat) (r : RefV), (prtV l q n i).1[k]? = some r → r ∈ l ∧ r.from_ ≤ runM q ((prtV l q n i).1.take k) ∧ (k + 1 < (prtV l q n i).1.length → runM q ((prtV l q n i).1.take k) < r.to_) := by
  intro k r hk
  rcases prtG l q n i with h | ⟨ps, a, pos, e, ha, h1, h⟩
  · exact ⟨h.mem r (List.mem_of_getElem? hk), (h.link k r hk).1, fun _ => (h.link k r hk).2⟩
  · rw [e] at hk ⊢
    by_cases hkl : k < ps.length
    · rw [List.getElem?_append_left hkl] at hk
      rw [List.take_append_of_le_length (by omega)]
      exact ⟨h.mem r (List.mem_of_getElem? hk), (h.link k r hk).1, fun _ => (h.link k r hk).2⟩
    · have hkk : k = ps.length := by
        have := (List.getElem?_eq_some_iff.1 hk).1
        rw [List.length_append, List.length_singleton] at this
        omega
      subst hkk
      rw [List.getElem?_append_right (Nat.le_refl _), Nat.sub_self] at hk
      injection hk with hk
      subst hk
      rw [List.take_append_of_le_length (Nat.le_refl _), List.take_length, h.run]
      exact ⟨ha, h1, fun h => by simp at h⟩
theorem planV_cases (L : List RefV) (f n i : Int) : planV L f n i = (noPln, 9) ∨ (f ≤ i ∧ i ≤ n ∧ i ≤ (posP L n i).2 ∧ planV L f n i = (⟨fullV (ordK 0 L) i, (posD L i).1, (posP L n i).1⟩, 0)) := by
  unfold planV
  by_cases h : i < f ∨ n < i
  · exact .inl (if_pos h)
  · rw [if_neg h]
    by_cases h2 : (posP L n i).2 < i
    · exact .inl (if_pos h2)
    · exact .inr ⟨by omega, by omega, by omega, if_neg h2⟩

/-- Without parts. -/
def noPart (L : List RefV) : List RefV := L.filter (fun r => decide (r.kind ≠ 2))
theorem noPart_step {L : List RefV} {j : Nat} {x : RefV} (hx : L[j]? = some x) : noPart (L.take (j + 1)) = noPart (L.take j) ++ if x.kind ≠ 2 then [x] else [] := by
  unfold noPart
  rw [take_snoc L j x hx, List.filter_append]
  congr 1
  by_cases h : x.kind ≠ 2
  · rw [if_pos h, List.filter_cons_of_pos (by simpa using h), List.filter_nil]
  · rw [if_neg h, List.filter_cons_of_neg (by simpa using h), List.filter_nil]
theorem noPart_ord (L : List RefV) : ordK 2 (noPart L) = [] := by
  have : ofK 2 (noPart L) = [] := by
    unfold ofK noPart
    rw [List.filter_filter, List.filter_eq_nil_iff]
    intro r _
    simp
  unfold ordK
  rw [this]
  rfl
/-- A plan without parts: no parts, and it leads to the index. -/
theorem noPart_plan {L : List RefV} {f n i : Int} (h0 : 0 ≤ i) : (planV (noPart L) f n i).1.parts = [] ∧ ((planV (noPart L) f n i).2 = 0 → runTo (toV (planV (noPart L) f n i).1.full) (planV (noPart L) f n i).1.deltas = i) := by
  have hp : posP (noPart L) n i = ([], (posD (noPart L) i).2) := by unfold posP; rw [noPart_ord, prtV_nil]
  unfold planV
  split
  · exact ⟨rfl, fun h => by simp at h⟩
  · split
    · exact ⟨rfl, fun h => by simp at h⟩
    · rename_i hlt
      rw [hp] at hlt ⊢
      refine ⟨rfl, fun _ => ?_⟩
      have hg := dltG (ordK 1 (noPart L)) (posF (noPart L) i) i (posF_le h0)
      have h1 := hg.run
      have h2 := hg.le
      show runTo (posF (noPart L) i) (dltV (ordK 1 (noPart L)) (posF (noPart L) i) i).1 = i
      rw [h1]
      have h3 : ¬ (dltV (ordK 1 (noPart L)) (posF (noPart L) i) i).2 < i := hlt
      omega
end Go.Proofs.Ytollmkkbeeeccaa
