/-
  Cells of one type in a row, somewhere within a block; keys and values as such cells. No statement is proved here.
-/
import Derived.Test.YtgmjnjbmolalmaaMem
import Derived.Test.YtgmjnjbmolalmaaSrt
import Derived.Test.YtgmjnjbmolalmaaStr
namespace Go.Proofs.Ytgmjnjbmolalmaa
open Go.RowKit

/-- The cells xs lie from 'a' on, in a block of cells of the type t (of no cells nothing is said). -/
def Rowed (w : World) (t : TypeId) (a : Option Addr) (xs : List Value) : Prop :=
  xs ≠ [] → ∃ g o cs, a = some ⟨g, o, none⟩ ∧ w.heap[g]? = some (.cells cs t (0, 0)) ∧ ∀ (j : Nat) u, xs[j]? = some u → cs[o + j]? = some u
section
variable {S : Nat → Prop} {w w' : World} {t : TypeId} {a : Option Addr} {xs : List Value}
theorem Rowed.nil (w : World) (t : TypeId) (a : Option Addr) : Rowed w t a [] := fun h => absurd rfl h
theorem Rowed.keep (h : Rowed w t a xs) (k : ∀ (g : Nat) (cs : Array Value), w.heap[g]? = some (.cells cs t (0, 0)) → w'.heap[g]? = some (.cells cs t (0, 0))) : Rowed w' t a xs := fun hx => by
  obtain ⟨g, o, cs, e, hg, hc⟩ := h hx
  exact ⟨g, o, cs, e, k g cs hg, hc⟩
/-- .. where its own block is kept. -/
theorem Rowed.keepAt (h : Rowed w t a xs) (k : ∀ (g o : Nat) (cs : Array Value), a = some ⟨g, o, none⟩ → w.heap[g]? = some (.cells cs t (0, 0)) → w'.heap[g]? = some (.cells cs t (0, 0))) : Rowed w' t a xs := fun hx => by
  obtain ⟨g, o, cs, e, hg, hc⟩ := h hx
  exact ⟨g, o, cs, e, k g o cs e hg, hc⟩
theorem Rowed.kept (h : Rowed w t a xs) (k : Kept noBlock w w') : Rowed w' t a xs := h.keep fun _ _ hg => k.blk hg (fun h => h)
theorem Rowed.take (h : Rowed w t a xs) (n : Nat) : Rowed w t a (xs.take n) := fun hx => by
  obtain ⟨g, o, cs, e, hg, hc⟩ := h (by rintro rfl; simp at hx)
  refine ⟨g, o, cs, e, hg, fun j u hu => hc j u ?_⟩
  rw [List.getElem?_take] at hu
  split at hu
  · exact hu
  · cases hu
theorem Rowed.drop (h : Rowed w t a xs) (n m : Nat) {cap : Nat} (hm : m < xs.length → n < cap) : Rowed w t (if cap = n then a else a.map (·.add m)) (xs.drop m) := fun hx => by
  have hn : m < xs.length := by
    rcases Nat.lt_or_ge m xs.length with h | h
    · exact h
    · exact absurd (List.drop_eq_nil_of_le h) hx
  obtain ⟨g, o, cs, rfl, hg, hc⟩ := h (by rintro rfl; simp at hx)
  have := hm hn
  rw [if_neg (by omega)]
  refine ⟨g, o + m, cs, by simp [add_plain], hg, fun j u hu => ?_⟩
  rw [Nat.add_assoc]
  exact hc _ u (by rw [← hu, List.getElem?_drop])
theorem Rowed.of_own {base : Nat} {size n c : Nat} (h : w.ownsRow base t size (.slice a n c) n xs) : Rowed w t a xs := fun hx => by
  rcases h.2 with ⟨_, rfl⟩ | ⟨g, cap, cur, e, _, hg, _, _, _, htk⟩
  · have := h.1
    rw [Nat.zero_mul] at this
    exact absurd (List.eq_nil_of_length_eq_zero this) hx
  · injection e with e
    refine ⟨g, 0, cur, e, hg, fun j u hu => ?_⟩
    rw [← htk, List.getElem?_take] at hu
    split at hu
    · simpa using hu
    · cases hu
theorem Rowed.cells (h : Rowed w t a xs) (hx : xs ≠ []) : ∃ g o, a = some ⟨g, o, none⟩ ∧ ∀ (j : Nat) u, xs[j]? = some u → w.cell? ⟨g, o + j, none⟩ = some u := by
  obtain ⟨g, o, cs, e, hg, hc⟩ := h hx
  exact ⟨g, o, e, fun j u hu => by rw [cell_of_row _ _ _ _ _ _ hg]; exact hc j u hu⟩
end

/-- Keys and values, one behind the other. -/
def pcells {α β : Type} (ek : α → Value) (ev : β → Value) (L : List (α × β)) : List Value := L.flatMap fun p => [ek p.1, ev p.2]
section
variable {α β : Type} (ek : α → Value) (ev : β → Value)
theorem pcells_cons (p : α × β) (L : List (α × β)) : pcells ek ev (p :: L) = ek p.1 :: ev p.2 :: pcells ek ev L := rfl
theorem pcells_append (L M : List (α × β)) : pcells ek ev (L ++ M) = pcells ek ev L ++ pcells ek ev M := by simp [pcells]
theorem pcells_len (L : List (α × β)) : (pcells ek ev L).length = L.length * 2 := by
  induction L with
  | nil => rfl
  | cons p r ih => rw [pcells_cons]; simp [ih]; omega
theorem pcells_key {L : List (α × β)} {k : Nat} {p : α × β} (h : L[k]? = some p) : (pcells ek ev L)[k * 2]? = some (ek p.1) := by
  induction L generalizing k with
  | nil => simp at h
  | cons q r ih =>
    rw [pcells_cons]
    cases k with
    | zero => simp at h; subst h; rfl
    | succ k => rw [show (k + 1) * 2 = k * 2 + 1 + 1 by omega]; simpa using ih (by simpa using h)
theorem pcells_val {L : List (α × β)} {k : Nat} {p : α × β} (h : L[k]? = some p) : (pcells ek ev L)[k * 2 + 1]? = some (ev p.2) := by
  induction L generalizing k with
  | nil => simp at h
  | cons q r ih =>
    rw [pcells_cons]
    cases k with
    | zero => simp at h; subst h; rfl
    | succ k => rw [show (k + 1) * 2 + 1 = (k * 2 + 1) + 1 + 1 by omega]; simpa using ih (by simpa using h)
theorem pcells_take (L : List (α × β)) (n : Nat) : pcells ek ev (L.take n) = (pcells ek ev L).take (n * 2) := by
  induction L generalizing n with
  | nil => simp [pcells]
  | cons q r ih =>
    cases n with
    | zero => simp [pcells]
    | succ n => rw [List.take_succ_cons, pcells_cons, pcells_cons, ih, show (n + 1) * 2 = n * 2 + 1 + 1 by omega]; simp
theorem pcells_drop (L : List (α × β)) (n : Nat) : pcells ek ev (L.drop n) = (pcells ek ev L).drop (n * 2) := by
  induction L generalizing n with
  | nil => simp [pcells]
  | cons q r ih =>
    cases n with
    | zero => simp
    | succ n => rw [List.drop_succ_cons, pcells_cons, ih, show (n + 1) * 2 = n * 2 + 1 + 1 by omega]; simp
theorem pcells_nil {L : List (α × β)} (h : pcells ek ev L = []) : L = [] := by
  have := congrArg List.length h
  rw [pcells_len] at this
  exact List.eq_nil_of_length_eq_zero (by simp at this; omega)
end
/-- A pair of the row, by its two cells. -/
theorem Rowed.pair {α β : Type} {ek : α → Value} {ev : β → Value} {w : World} {t : TypeId} {a : Option Addr} {L : List (α × β)} (h : Rowed w t a (pcells ek ev L)) {k : Nat} {p : α × β} (hk : L[k]? = some p) :
    ∃ g o, a = some ⟨g, o, none⟩ ∧ w.cell? ⟨g, o + k * 2, none⟩ = some (ek p.1) ∧ w.cell? ⟨g, o + k * 2 + 1, none⟩ = some (ev p.2) := by
  obtain ⟨g, o, e, hc⟩ := h.cells (fun e => by rw [pcells_nil ek ev e] at hk; simp at hk)
  exact ⟨g, o, e, hc _ _ (pcells_key ek ev hk), by rw [Nat.add_assoc]; exact hc _ _ (pcells_val ek ev hk)⟩
end Go.Proofs.Ytgmjnjbmolalmaa
