/-
  Rows of entries, as cells. No statement is proved here.
-/
import Derived.Test.YtgmjnjbmolalmaaEnt
namespace Go.Proofs.Ytgmjnjbmolalmaa
open Go.RowKit

/-- The cells of entries, one behind the other. -/
def entCells (es : List EntryV) : List Value := es.flatMap EntryV.cells
theorem entCells_cons (e : EntryV) (r : List EntryV) : entCells (e :: r) = e.cells ++ entCells r := by simp [entCells]
theorem entCells_append (a b : List EntryV) : entCells (a ++ b) = entCells a ++ entCells b := by simp [entCells]
theorem ecells_length (e : EntryV) : e.cells.length = 8 := rfl
theorem entCells_length (es : List EntryV) : (entCells es).length = es.length * 8 := by
  induction es with
  | nil => rfl
  | cons e r ih => rw [entCells_cons, List.length_append, ih, ecells_length, List.length_cons]; omega
theorem entCells_at : ∀ (es : List EntryV) (k j : Nat) (e : EntryV) (v : Value), es[k]? = some e → e.cells[j]? = some v → (entCells es)[k * 8 + j]? = some v
  | [], k, j, e, v, h, _ => by simp at h
  | q :: r, 0, j, e, v, h, hv => by
    obtain rfl : q = e := by simpa using h
    have hj : j < q.cells.length := (List.getElem?_eq_some_iff.1 hv).1
    rw [entCells_cons, Nat.zero_mul, Nat.zero_add, List.getElem?_append_left hj]
    exact hv
  | q :: r, k + 1, j, e, v, h, hv => by
    have ih := entCells_at r k j e v (by simpa using h) hv
    rw [entCells_cons, List.getElem?_append_right (by rw [ecells_length]; omega), ecells_length, show (k + 1) * 8 + j - 8 = k * 8 + j by omega]
    exact ih
theorem entCells_take (es : List EntryV) (n : Nat) : entCells (es.take n) = (entCells es).take (n * 8) := by
  induction es generalizing n with
  | nil => simp [entCells]
  | cons p r ih =>
    cases n with
    | zero => simp [entCells]
    | succ n =>
      have h3 : p.cells.take ((n + 1) * 8) = p.cells := List.take_of_length_le (by rw [ecells_length]; omega)
      rw [List.take_succ_cons, entCells_cons, entCells_cons, ih, List.take_append, ecells_length, h3, show (n + 1) * 8 - 8 = n * 8 by omega]
theorem entCells_drop (es : List EntryV) (n : Nat) : entCells (es.drop n) = (entCells es).drop (n * 8) := by
  induction es generalizing n with
  | nil => simp [entCells]
  | cons p r ih =>
    cases n with
    | zero => simp
    | succ n =>
      have h3 : p.cells.drop ((n + 1) * 8) = [] := List.drop_eq_nil_of_le (by rw [ecells_length]; omega)
      rw [List.drop_succ_cons, entCells_cons, ih, List.drop_append, ecells_length, h3, show (n + 1) * 8 - 8 = n * 8 by omega, List.nil_append]
/-- An entry of a row, cell by cell. -/
structure EntAt (w : World) (b o : Nat) (e : EntryV) : Prop where
  c0 : w.cell? ⟨b, o, none⟩ = some (.int .i64 e.index)
  c1 : w.cell? ⟨b, o + 1, none⟩ = some (.int .i64 e.term)
  c2 : w.cell? ⟨b, o + 2, none⟩ = some (.int .i64 e.cmd.op)
  c3 : w.cell? ⟨b, o + 3, none⟩ = some (.int .i64 e.cmd.client)
  c4 : w.cell? ⟨b, o + 4, none⟩ = some (.int .i64 e.cmd.seq)
  c5 : w.cell? ⟨b, o + 5, none⟩ = some (.string e.cmd.key)
  c6 : w.cell? ⟨b, o + 6, none⟩ = some (.string e.cmd.value)
  c7 : w.cell? ⟨b, o + 7, none⟩ = some (.string e.cmd.old)
theorem ents_cell {w : World} {F : Nat → Prop} {a : Option Addr} {es : List EntryV} (h : Lies w F a (entCells es)) {k : Nat} {e : EntryV} (he : es[k]? = some e) : ∃ b o, a = some ⟨b, o, none⟩ ∧ F b ∧ EntAt w b (o + k * 8) e := by
  have at_ := fun j v hv => entCells_at es k j e v he hv
  obtain ⟨b, o, rfl, hF, hc⟩ := h.norm (by intro e0; have := at_ 0 _ rfl; rw [e0] at this; simp at this)
  refine ⟨b, o, rfl, hF, ?_, ?_, ?_, ?_, ?_, ?_, ?_, ?_⟩
  · exact hc _ _ (at_ 0 _ rfl)
  all_goals rw [Nat.add_assoc]
  · exact hc _ _ (at_ 1 _ rfl)
  · exact hc _ _ (at_ 2 _ rfl)
  · exact hc _ _ (at_ 3 _ rfl)
  · exact hc _ _ (at_ 4 _ rfl)
  · exact hc _ _ (at_ 5 _ rfl)
  · exact hc _ _ (at_ 6 _ rfl)
  · exact hc _ _ (at_ 7 _ rfl)

/-- Whether entries stand behind one another, from an index on, behind a term. -/
def rowB : List EntryV → Int → Int → Bool
  | [], _, _ => true
  | e :: r, i, t => decide (e.Right ∧ e.index = i ∧ t ≤ e.term) && rowB r (i + 1) e.term

theorem rowB_nil (i t : Int) : rowB [] i t = true := rfl
theorem rowB_cons (e : EntryV) (r : List EntryV) (i t : Int) : rowB (e :: r) i t = (decide (e.Right ∧ e.index = i ∧ t ≤ e.term) && rowB r (i + 1) e.term) := rfl

end Go.Proofs.Ytgmjnjbmolalmaa
