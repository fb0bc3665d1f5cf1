/-
  Layer 5's deeds. No statement is proved here.
-/
import Derived.Test.YtohanlhfbfodlaaL5Awake
namespace Go.Proofs.Ytohanlhfbfodlaa
open Go.RowKit

/-- A deed. -/
structure ActV where
  op : Nat
  key : Int
  val : Nat
def ActV.cells (x : ActV) : List Value := [.int .u8 (x.op : Int), .int .i8 x.key, .int .u16 (x.val : Int)]
structure ActV.fit (x : ActV) : Prop where
  op : x.op < 256
  lo : -128 ≤ x.key
  hi : x.key ≤ 127
  val : x.val < 65536
def actCells (xs : List ActV) : List Value := xs.flatMap ActV.cells
theorem actCells_len (xs : List ActV) : (actCells xs).length = xs.length * 3 := by
  induction xs with
  | nil => rfl
  | cons c r ih =>
    unfold actCells at *
    simp only [List.flatMap_cons, List.length_append, ih, List.length_cons]
    simp [ActV.cells]
    omega
theorem actCells_at (xs : List ActV) {k : Nat} {c : ActV} (h : xs[k]? = some c) (j : Nat) (hj : j < 3) : (actCells xs)[k * 3 + j]? = c.cells[j]? := by
  induction xs generalizing k with
  | nil => simp at h
  | cons x r ih =>
    cases k with
    | zero =>
      have : x = c := by simpa using h
      subst this
      unfold actCells
      simp only [List.flatMap_cons]
      rw [List.getElem?_append_left (by simp [ActV.cells]; omega)]
      simp
    | succ k =>
      have h' : r[k]? = some c := by simpa using h
      have := ih h'
      unfold actCells at *
      simp only [List.flatMap_cons]
      rw [List.getElem?_append_right (by simp [ActV.cells]; omega)]
      rw [← this]
      congr 1
      simp [ActV.cells]
      omega
/-- A deed's cells, where they lie. -/
theorem acts_at {w wr : World} {F : Nat → Prop} {a : Option Addr} {xs : List ActV} (h : Lies w F a (actCells xs)) (kw : Kept noBlock w wr) {k : Nat} {x : ActV} (hx : xs[k]? = some x) :
    ∃ g o, a = some ⟨g, o, none⟩ ∧ wr.cell? ⟨g, o + k * 3, none⟩ = some (.int .u8 (x.op : Int)) ∧ wr.cell? ⟨g, o + k * 3 + 1, none⟩ = some (.int .i8 x.key) ∧ wr.cell? ⟨g, o + k * 3 + 2, none⟩ = some (.int .u16 (x.val : Int)) := by
  obtain ⟨g, o, rfl, _, hc⟩ := h.norm (by
    intro e
    have := actCells_len xs
    rw [e] at this
    have := (List.getElem?_eq_some_iff.1 hx).1
    simp at *
    omega)
  have hc' : ∀ j, j < 3 → ∀ u, x.cells[j]? = some u → wr.cell? ⟨g, o + (k * 3 + j), none⟩ = some u := fun j hj u hu => kw.cell (hc (k * 3 + j) u (by rw [actCells_at xs hx j hj]; exact hu)) (fun h => h)
  exact ⟨g, o, rfl, hc' 0 (by omega) _ rfl, by rw [Nat.add_assoc]; exact hc' 1 (by omega) _ rfl, by rw [Nat.add_assoc]; exact hc' 2 (by omega) _ rfl⟩

end Go.Proofs.Ytohanlhfbfodlaa
