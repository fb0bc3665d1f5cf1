/-
  Plans as the statements find them: plain mathematics. No statement is proved here.
-/
import Derived.Test.YtollmkkbeeeccaaL11UnPl
namespace Go.Proofs.Ytollmkkbeeeccaa
open Go.RowKit Tot

/-- May a delta lead on from a position? -/
def condD (i at_ : Int) (x : RefV) : Prop := x.from_ = at_ ∧ at_ < x.to_ ∧ x.to_ ≤ i
instance (i at_ : Int) (x : RefV) : Decidable (condD i at_ x) := by unfold condD; infer_instance
theorem dltS_no {i : Int} {ds : List RefV} {at_ : Int} {x : RefV} (h : ¬ condD i at_ x) : dltS i (ds, at_) x = (ds, at_) := if_neg h
theorem dltS_yes {i : Int} {ds : List RefV} {at_ : Int} {x : RefV} (h : condD i at_ x) : dltS i (ds, at_) x = (ds ++ [x], x.to_) := if_pos h
theorem fold_skip {es : List RefV} {i at_ : Int} {ds : List RefV} : ∀ (g m k : Nat), g = k - m → m ≤ k → k ≤ es.length → (∀ (t : Nat) (x : RefV), m ≤ t → t < k → es[t]? = some x → ¬ condD i at_ x) → (es.drop m).foldl (dltS i) (ds, at_) = (es.drop k).foldl (dltS i) (ds, at_) := by
  intro g
  induction g with
  | zero =>
    intro m k hg hmk _ _
    obtain rfl : m = k := by omega
    rfl
  | succ g ih =>
    intro m k hg hmk hk h
    have hm : m < es.length := by omega
    rw [List.drop_eq_getElem_cons hm, List.foldl_cons, dltS_no (h m _ (Nat.le_refl _) (by omega) (List.getElem?_eq_getElem hm))]
    exact ih (m + 1) k (by omega) (by omega) hk (fun t x h1 h2 h3 => h t x (by omega) h2 h3)
/-- While deltas are looked for: what is taken, where it leads to, and how many are behind. -/
structure DlL (es : List RefV) (q i : Int) (ds : List RefV) (at_ : Int) (m : Nat) : Prop where
  all : dltV es q i = (es.drop m).foldl (dltS i) (ds, at_)
  le : m ≤ es.length
  behind : ∀ (t : Nat) (x : RefV), t < m → es[t]? = some x → x.from_ < at_
theorem DlL.start (es : List RefV) (q i : Int) : DlL es q i [] q 0 := ⟨rfl, Nat.zero_le _, fun _ _ h _ => absurd h (Nat.not_lt_zero _)⟩
theorem DlL.done {es : List RefV} {q i : Int} {ds : List RefV} {at_ : Int} {m : Nat} (h : DlL es q i ds at_ m) (hn : ∀ (t : Nat) (x : RefV), es[t]? = some x → ¬ condD i at_ x) : dltV es q i = (ds, at_) := by
  rw [h.all, fold_skip (es.length - m) m es.length rfl h.le (Nat.le_refl _) (fun t x _ _ hx => hn t x hx), List.drop_length]
  rfl
theorem DlL.next {es : List RefV} {q i : Int} {ds : List RefV} {at_ : Int} {m k : Nat} {x : RefV} (h : DlL es q i ds at_ m) (hr : Rises es) (hk : es[k]? = some x) (hc : condD i at_ x) (hn : ∀ (t : Nat) (y : RefV), t < k → es[t]? = some y → ¬ condD i at_ y) : DlL es q i (ds ++ [x]) x.to_ (k + 1) ∧ m < k + 1 := by
  have hmk : m ≤ k := by
    rcases Nat.lt_or_ge k m with h1 | h1
    · have := h.behind k x h1 hk
      have := hc.1
      omega
    · exact h1
  have hkl := (List.getElem?_eq_some_iff.1 hk).1
  refine ⟨⟨?_, by omega, fun t y ht hy => ?_⟩, by omega⟩
  · rw [h.all, fold_skip (k - m) m k rfl hmk (by omega) (fun t y _ h2 hy => hn t y h2 hy), List.drop_eq_getElem_cons hkl, List.foldl_cons]
    have e : es[k] = x := (List.getElem?_eq_some_iff.1 hk).2
    rw [e, dltS_yes hc]
  · have h2 := hc.1
    have h3 := hc.2.1
    rcases Nat.lt_or_ge t k with h1 | h1
    · have := hr.from_le h1 hy hk
      omega
    · obtain rfl : t = k := by omega
      rw [hk] at hy
      injection hy with hy
      rw [← hy]
      omega
theorem DlL.len {es : List RefV} {q i : Int} {ds : List RefV} {at_ : Int} {m : Nat} (h : DlL es q i ds at_ m) : ds.length ≤ es.length := by
  have h1 := dltV_len es q i
  rw [h.all] at h1
  have : ∀ (l : List RefV) (a : List RefV × Int), a.1.length ≤ (l.foldl (dltS i) a).1.length := by
    intro l
    induction l with
    | nil => intro a; exact Nat.le_refl _
    | cons x t ih =>
      intro a
      rw [List.foldl_cons]
      refine Nat.le_trans ?_ (ih _)
      unfold dltS
      split
      · simp
      · exact Nat.le_refl _
  exact Nat.le_trans (this (es.drop m) (ds, at_)) h1
/-- The first of those from a place on that may lead on. -/
def FstD (es : List RefV) (i at_ : Int) (kk : Nat) : Option Nat → Prop
  | none => ∀ (t : Nat) (x : RefV), kk ≤ t → es[t]? = some x → ¬ condD i at_ x
  | some u => kk ≤ u ∧ (∃ x, es[u]? = some x ∧ condD i at_ x) ∧ ∀ (t : Nat) (x : RefV), kk ≤ t → t < u → es[t]? = some x → ¬ condD i at_ x
theorem FstD.yes {es : List RefV} {i at_ : Int} {r : Nat} {x : RefV} (hx : es[r]? = some x) (hc : condD i at_ x) : FstD es i at_ r (some r) := ⟨Nat.le_refl _, ⟨x, hx, hc⟩, fun t _ h1 h2 _ => by omega⟩
theorem FstD.no {es : List RefV} {i at_ : Int} {r : Nat} {x : RefV} {o : Option Nat} (hx : es[r]? = some x) (hc : ¬ condD i at_ x) (h : FstD es i at_ (r + 1) o) : FstD es i at_ r o := by
  have key : ∀ (t : Nat) (y : RefV), t = r → es[t]? = some y → ¬ condD i at_ y := fun t y e hy => by
    subst e
    rw [hx] at hy
    injection hy with hy
    exact hy ▸ hc
  cases o with
  | none =>
    intro t y h1 hy
    rcases Nat.eq_or_lt_of_le h1 with h2 | h2
    · exact key t y h2.symm hy
    · exact h t y h2 hy
  | some u =>
    obtain ⟨h1, h2, h3⟩ := h
    refine ⟨by omega, h2, fun t y h4 h5 hy => ?_⟩
    rcases Nat.eq_or_lt_of_le h4 with h6 | h6
    · exact key t y h6.symm hy
    · exact h3 t y h6 h5 hy
/-- What a plan is, where the index is in its bounds. -/
theorem planV_in {L : List RefV} {f n i : Int} (h : ¬ (i < f ∨ n < i)) : ((posP L n i).2 < i → planV L f n i = (noPln, 9)) ∧ (¬ (posP L n i).2 < i → planV L f n i = (⟨fullV (ordK 0 L) i, (posD L i).1, (posP L n i).1⟩, 0)) := ⟨fun h2 => planV_not h h2, fun h2 => planV_yes h h2⟩
end Go.Proofs.Ytollmkkbeeeccaa
