/-
  Places for two entries that come in whatever order. No statement is proved here.
-/
import Derived.Test.YtgffdobhdkieaaaL6Right
namespace Go.Proofs.Ytgffdobhdkieaaa
open Go.RowKit

/-- Since w0 only new blocks came; of two places for entries, each that is there is new, and no entry's yet. -/
structure Places (w0 u : World) (a b : Option Nat) : Prop where
  kept : Kept noBlock w0 u
  hasA : ∀ B, a = some B → w0.heap.size ≤ B ∧ u.heap[B]? = some (.cells noEntry.cells.toArray 32 (0, 0))
  hasB : ∀ B, b = some B → w0.heap.size ≤ B ∧ u.heap[B]? = some (.cells noEntry.cells.toArray 32 (0, 0))
  ne : ∀ A B, a = some A → b = some B → A ≠ B
section
variable {w0 w w' : World} {a b : Option Nat}
theorem Places.start (k : Kept noBlock w0 w) : Places w0 w none none := ⟨k, fun _ h => (by cases h), fun _ h => (by cases h), fun _ _ h => (by cases h)⟩
theorem Places.step (h : Places w0 w a b) (k : Kept noBlock w w') : Places w0 w' a b :=
  ⟨h.kept.step k, fun B e => ⟨(h.hasA B e).1, k.blk (h.hasA B e).2 (fun h => h)⟩, fun B e => ⟨(h.hasB B e).1, k.blk (h.hasB B e).2 (fun h => h)⟩, h.ne⟩
theorem Places.allocA (h : Places w0 w a b) : Places w0 (w.alloc (.cells noEntry.cells.toArray 32)) (some w.heap.size) b := by
  have k := Kept.alloc noBlock w (.cells noEntry.cells.toArray 32)
  refine ⟨h.kept.step k, fun B e => ?_, fun B e => ⟨(h.hasB B e).1, k.blk (h.hasB B e).2 (fun h => h)⟩, fun A B e1 e2 => ?_⟩
  · injection e with e
    subst e
    exact ⟨h.kept.size, heap_alloc_new _ _⟩
  · injection e1 with e1
    have := lt_of_blk (h.hasB B e2).2
    omega
theorem Places.allocB (h : Places w0 w a b) : Places w0 (w.alloc (.cells noEntry.cells.toArray 32)) a (some w.heap.size) := by
  have k := Kept.alloc noBlock w (.cells noEntry.cells.toArray 32)
  refine ⟨h.kept.step k, fun B e => ⟨(h.hasA B e).1, k.blk (h.hasA B e).2 (fun h => h)⟩, fun B e => ?_, fun A B e1 e2 => ?_⟩
  · injection e with e
    subst e
    exact ⟨h.kept.size, heap_alloc_new _ _⟩
  · injection e2 with e2
    have := lt_of_blk (h.hasA A e1).2
    omega

/-- A new place, at a step of a region that draws its order. -/
theorem step_alloc {ops : Array Oper} {d : Nat} {ty : TypeId} {pos : String} {aft : Array Edge} {act : Act} {K : Act → World → Prop} {Q : Exit → Act → World → Prop} {E : Prop}
    (hK : K (act.put (some d) (.pointer (some ⟨w.heap.size, 0, none⟩))) (w.alloc (.cells noEntry.cells.toArray 32))) :
    if Region.wanted ⟨some d, .alloc 32, ty, pos, aft, none⟩ (yielded ops act.tmps) = true then Oper.wp Try.prog ⟨some d, .alloc 32, ty, pos, aft, none⟩ act w K Q else E := by
  rw [if_pos (by simp [Region.wanted])]
  unfold EntryV.cells noEntry noCmd at hK
  go_simp
  exact hK
theorem step_allocA {ops : Array Oper} {d : Nat} {ty : TypeId} {pos : String} {aft : Array Edge} {act : Act} {K : Act → World → Prop} {Q : Exit → Act → World → Prop} {E : Prop} (h : Places w0 w a b)
    (hK : ∀ B u, Places w0 u (some B) b → K (act.put (some d) (.pointer (some ⟨B, 0, none⟩))) u) :
    if Region.wanted ⟨some d, .alloc 32, ty, pos, aft, none⟩ (yielded ops act.tmps) = true then Oper.wp Try.prog ⟨some d, .alloc 32, ty, pos, aft, none⟩ act w K Q else E := step_alloc (hK _ _ h.allocA)
theorem step_allocB {ops : Array Oper} {d : Nat} {ty : TypeId} {pos : String} {aft : Array Edge} {act : Act} {K : Act → World → Prop} {Q : Exit → Act → World → Prop} {E : Prop} (h : Places w0 w a b)
    (hK : ∀ B u, Places w0 u a (some B) → K (act.put (some d) (.pointer (some ⟨B, 0, none⟩))) u) :
    if Region.wanted ⟨some d, .alloc 32, ty, pos, aft, none⟩ (yielded ops act.tmps) = true then Oper.wp Try.prog ⟨some d, .alloc 32, ty, pos, aft, none⟩ act w K Q else E := step_alloc (hK _ _ h.allocB)
/-- An entry that is stored at a place, at a step of a region that draws its order. -/
theorem step_store {ops : Array Oper} {ty : TypeId} {pos : String} {aft : Array Edge} {p v : Nat} {act : Act} {K : Act → World → Prop} {Q : Exit → Act → World → Prop} {E : Prop} {B : Nat} {z : EntryV} (x : EntryV)
    (hp : act.tmps[p]?.getD undef = .pointer (some ⟨B, 0, none⟩)) (hv : act.tmps[v]?.getD undef = x.val) (hb : w.heap[B]? = some (.cells z.cells.toArray 32 (0, 0)))
    (hK : ∀ u, Kept (fun k => k = B) w u → u.heap[B]? = some (.cells x.cells.toArray 32 (0, 0)) → K act u) :
    if Region.wanted ⟨none, .store 32 (.tmp p) (.tmp v), ty, pos, aft, none⟩ (yielded ops act.tmps) = true then Oper.wp Try.prog ⟨none, .store 32 (.tmp p) (.tmp v), ty, pos, aft, none⟩ act w K Q else E := by
  rw [if_pos (by simp [Region.wanted])]
  have hk := hK _ (setE_kept w B x) (setE_block hb)
  unfold setE at hk
  obtain ⟨d0, d1, d2, d3, d4, d5, d6, d7⟩ := ent_cells hb
  have fz : ∀ j, w.frozen? ⟨B, j, none⟩ = false := fun j => frozen_of_row _ _ _ _ _ hb
  have f0 := fz 0
  have f1 := fz 1
  have f2 := fz 2
  have f3 := fz 3
  have f4 := fz 4
  have f5 := fz 5
  have f6 := fz 6
  have f7 := fz 7
  unfold EntryV.val at hv
  clear fz hK
  go_simp
  exact hk
end

end Go.Proofs.Ytgffdobhdkieaaa
