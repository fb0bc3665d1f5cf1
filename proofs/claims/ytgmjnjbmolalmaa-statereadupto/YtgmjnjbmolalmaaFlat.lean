/-
  Elements of several cells each, one behind the other in a row; one that comes into a row, and one that goes. No statement is proved here.
-/
import Derived.Test.YtgmjnjbmolalmaaRowed
import Derived.Test.YtgmjnjbmolalmaaRowOps
namespace Go.Proofs.Ytgmjnjbmolalmaa
open Go.RowKit

/-- The cells of elements, one behind the other. -/
def flat {α : Type} (enc : α → List Value) (L : List α) : List Value := L.flatMap enc
section
variable {α : Type} {enc : α → List Value} {s : Nat}
theorem flat_cons (p : α) (L : List α) : flat enc (p :: L) = enc p ++ flat enc L := by simp [flat]
theorem flat_append (L M : List α) : flat enc (L ++ M) = flat enc L ++ flat enc M := by simp [flat]
theorem flat_one (p : α) : flat enc [p] = enc p := by simp [flat]
theorem flat_len (hs : ∀ a, (enc a).length = s) (L : List α) : (flat enc L).length = L.length * s := by
  induction L with
  | nil => simp [flat]
  | cons p r ih => rw [flat_cons, List.length_append, ih, hs, List.length_cons, Nat.add_mul, Nat.one_mul, Nat.add_comm]
theorem flat_at (hs : ∀ a, (enc a).length = s) : ∀ (L : List α) (k j : Nat) (p : α) (v : Value), L[k]? = some p → (enc p)[j]? = some v → (flat enc L)[k * s + j]? = some v
  | [], k, j, p, v, h, _ => by simp at h
  | q :: r, 0, j, p, v, h, hv => by
    obtain rfl : q = p := by simpa using h
    have hj : j < (enc q).length := (List.getElem?_eq_some_iff.1 hv).1
    rw [flat_cons, Nat.zero_mul, Nat.zero_add, List.getElem?_append_left hj]
    exact hv
  | q :: r, k + 1, j, p, v, h, hv => by
    have ih := flat_at hs r k j p v (by simpa using h) hv
    have e : (k + 1) * s = k * s + s := by rw [Nat.add_mul, Nat.one_mul]
    rw [flat_cons, List.getElem?_append_right (by rw [hs]; omega), hs, show (k + 1) * s + j - s = k * s + j by omega]
    exact ih
theorem flat_take (hs : ∀ a, (enc a).length = s) (L : List α) (n : Nat) : flat enc (L.take n) = (flat enc L).take (n * s) := by
  induction L generalizing n with
  | nil => simp [flat]
  | cons p r ih =>
    cases n with
    | zero => simp [flat]
    | succ n =>
      have e : (n + 1) * s = n * s + s := by rw [Nat.add_mul, Nat.one_mul]
      have h3 : (enc p).take ((n + 1) * s) = enc p := List.take_of_length_le (by rw [hs]; omega)
      rw [List.take_succ_cons, flat_cons, flat_cons, ih, List.take_append, hs, h3, show (n + 1) * s - s = n * s by omega]
theorem flat_drop (hs : ∀ a, (enc a).length = s) (L : List α) (n : Nat) : flat enc (L.drop n) = (flat enc L).drop (n * s) := by
  induction L generalizing n with
  | nil => simp [flat]
  | cons p r ih =>
    cases n with
    | zero => simp
    | succ n =>
      have e : (n + 1) * s = n * s + s := by rw [Nat.add_mul, Nat.one_mul]
      have h3 : (enc p).drop ((n + 1) * s) = [] := List.drop_eq_nil_of_le (by rw [hs]; omega)
      rw [List.drop_succ_cons, flat_cons, ih, List.drop_append, hs, h3, show (n + 1) * s - s = n * s by omega, List.nil_append]
theorem flat_nil (hs : ∀ a, (enc a).length = s) (h0 : 0 < s) {L : List α} (h : flat enc L = []) : L = [] := by
  have h1 := congrArg List.length h
  rw [flat_len hs] at h1
  cases L with
  | nil => rfl
  | cons p r =>
    rw [List.length_cons, Nat.add_mul, Nat.one_mul, List.length_nil] at h1
    omega
theorem flat_one' (h : ∀ a, ∀ u ∈ enc a, u.oneCell' = true) (L : List α) : ∀ u ∈ flat enc L, u.oneCell' = true := by
  intro u hu
  obtain ⟨p, _, hp⟩ := List.mem_flatMap.1 hu
  exact h p u hp
end

/-- A row into which cells came. -/
theorem insN_eq (xs F ns : List Value) (p : Nat) (hp : p ≤ xs.length) (h1 : ∀ j, j < p → F[j]? = xs[j]?) (hx : ∀ j, j < ns.length → F[p + j]? = ns[j]?) (h2 : ∀ j, p ≤ j → j < xs.length → F[j + ns.length]? = xs[j]?) :
    F.take (xs.length + ns.length) = xs.take p ++ (ns ++ xs.drop p) := by
  apply List.ext_getElem?
  intro j
  rw [List.getElem?_take]
  by_cases hj : j < p
  · rw [if_pos (by omega), List.getElem?_append_left (by rw [List.length_take]; omega), List.getElem?_take, if_pos hj, h1 j hj]
  · rw [List.getElem?_append_right (by rw [List.length_take]; omega), List.length_take, Nat.min_eq_left hp]
    by_cases hn : j - p < ns.length
    · rw [if_pos (by omega), List.getElem?_append_left hn, ← hx (j - p) hn, show p + (j - p) = j by omega]
    · obtain ⟨q, rfl⟩ : ∃ q, j = q + ns.length := ⟨j - ns.length, by omega⟩
      rw [List.getElem?_append_right (by omega), List.getElem?_drop, show p + (q + ns.length - p - ns.length) = q by omega]
      by_cases hq : q < xs.length
      · rw [if_pos (by omega), h2 q (by omega) hq]
      · rw [if_neg (by omega), List.getElem?_eq_none (by omega)]
theorem insN_room (xs cur ns : List Value) (p : Nat) (hp : p ≤ xs.length) (hF : xs.length + ns.length ≤ cur.length) (ht : cur.take xs.length = xs) :
    (splice (splice cur (p + ns.length) (xs.drop p)) p ns).take (xs.length + ns.length) = xs.take p ++ (ns ++ xs.drop p) := by
  have hd : (xs.drop p).length = xs.length - p := List.length_drop
  have h1 : p + ns.length + (xs.drop p).length ≤ cur.length := by omega
  have h2 : p + ns.length ≤ (splice cur (p + ns.length) (xs.drop p)).length := by rw [splice_len _ _ _ h1]; omega
  have hc : ∀ j, j < xs.length → cur[j]? = xs[j]? := fun j hj => by
    have := congrArg (fun l => l[j]?) ht
    simpa [List.getElem?_take, hj] using this
  refine insN_eq xs _ ns p hp (fun j hj => ?_) (fun j hj => ?_) (fun j hj hj2 => ?_)
  · rw [splice_get _ _ _ h2, if_neg (by omega), splice_get _ _ _ h1, if_neg (by omega)]
    exact hc j (by omega)
  · rw [splice_get _ _ _ h2, if_pos (by omega), show p + j - p = j by omega]
  · rw [splice_get _ _ _ h2, if_neg (by omega), splice_get _ _ _ h1, if_pos (by omega), List.getElem?_drop]
    congr 1
    omega
theorem insN_grow (xs cur ns : List Value) (p : Nat) (hp : p ≤ xs.length) (hF : xs.length + ns.length ≤ cur.length) (ht : cur.take p = xs.take p) :
    (splice (splice cur p ns) (p + ns.length) (xs.drop p)).take (xs.length + ns.length) = xs.take p ++ (ns ++ xs.drop p) := by
  have hd : (xs.drop p).length = xs.length - p := List.length_drop
  have h1 : p + ns.length ≤ cur.length := by omega
  have h2 : p + ns.length + (xs.drop p).length ≤ (splice cur p ns).length := by rw [splice_len _ _ _ h1]; omega
  have hc : ∀ j, j < p → cur[j]? = xs[j]? := fun j hj => by
    have := congrArg (fun l => l[j]?) ht
    simpa [List.getElem?_take, hj] using this
  refine insN_eq xs _ ns p hp (fun j hj => ?_) (fun j hj => ?_) (fun j hj hj2 => ?_)
  · rw [splice_get _ _ _ h2, if_neg (by omega), splice_get _ _ _ h1, if_neg (by omega)]
    exact hc j hj
  · rw [splice_get _ _ _ h2, if_neg (by omega), splice_get _ _ _ h1, if_pos (by omega), show p + j - p = j by omega]
  · rw [splice_get _ _ _ h2, if_pos (by omega), List.getElem?_drop]
    congr 1
    omega
/-- A row from which the cells at a place went. -/
theorem delN_room (xs cur zs : List Value) (p s : Nat) (hp : p + s ≤ xs.length) (hF : xs.length ≤ cur.length) (ht : cur.take xs.length = xs) (hz : zs.length = s) :
    (splice (splice cur p (xs.drop (p + s))) (xs.length - s) zs).take (xs.length - s) = xs.take p ++ xs.drop (p + s) ∧ (splice (splice cur p (xs.drop (p + s))) (xs.length - s) zs).length = cur.length := by
  have hd : (xs.drop (p + s)).length = xs.length - (p + s) := List.length_drop
  have h1 : p + (xs.drop (p + s)).length ≤ cur.length := by omega
  have h2 : xs.length - s + zs.length ≤ (splice cur p (xs.drop (p + s))).length := by rw [splice_len _ _ _ h1]; omega
  have hc : ∀ j, j < xs.length → cur[j]? = xs[j]? := fun j hj => by
    have := congrArg (fun l => l[j]?) ht
    simpa [List.getElem?_take, hj] using this
  refine ⟨List.ext_getElem? fun j => ?_, by rw [splice_len _ _ _ h2, splice_len _ _ _ h1]⟩
  rw [List.getElem?_take]
  by_cases hj : j < xs.length - s
  · rw [if_pos hj, splice_get _ _ _ h2, if_neg (by omega), splice_get _ _ _ h1]
    by_cases hjp : j < p
    · rw [if_neg (by omega), List.getElem?_append_left (by rw [List.length_take]; omega), List.getElem?_take, if_pos hjp]
      exact hc j (by omega)
    · rw [if_pos (by omega), List.getElem?_append_right (by rw [List.length_take]; omega), List.length_take, Nat.min_eq_left (by omega)]
  · rw [if_neg hj, List.getElem?_eq_none (by rw [List.length_append, List.length_take, hd]; omega)]

/-- An element of a row, by its cells. -/
theorem Rowed.elem {α : Type} {enc : α → List Value} {s : Nat} (hs : ∀ a, (enc a).length = s) (h0 : 0 < s) {w : World} {t : TypeId} {a : Option Addr} {L : List α} (h : Rowed w t a (flat enc L)) {k : Nat} {p : α} (hk : L[k]? = some p) :
    ∃ g o, a = some ⟨g, o, none⟩ ∧ ∀ (j : Nat) v, (enc p)[j]? = some v → w.cell? ⟨g, o + k * s + j, none⟩ = some v := by
  obtain ⟨g, o, e, hc⟩ := h.cells (fun e => by rw [flat_nil hs h0 e] at hk; simp at hk)
  exact ⟨g, o, e, fun j v hv => by rw [Nat.add_assoc]; exact hc _ _ (flat_at hs L k j p v hk hv)⟩
theorem Lies.elem {α : Type} {enc : α → List Value} {s : Nat} (hs : ∀ a, (enc a).length = s) (h0 : 0 < s) {w : World} {F : Nat → Prop} {a : Option Addr} {L : List α} (h : Lies w F a (flat enc L)) {k : Nat} {p : α} (hk : L[k]? = some p) :
    ∃ g o, a = some ⟨g, o, none⟩ ∧ F g ∧ ∀ (j : Nat) v, (enc p)[j]? = some v → w.cell? ⟨g, o + k * s + j, none⟩ = some v := by
  obtain ⟨g, o, e, hf, hc⟩ := h.norm (fun e => by rw [flat_nil hs h0 e] at hk; simp at hk)
  exact ⟨g, o, e, hf, fun j v hv => by rw [Nat.add_assoc]; exact hc _ _ (flat_at hs L k j p v hk hv)⟩
end Go.Proofs.Ytgmjnjbmolalmaa
