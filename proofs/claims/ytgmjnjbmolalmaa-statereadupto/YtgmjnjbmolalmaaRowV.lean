/-
  A row of bytes that a value is. No statement is proved here.
-/
import Derived.Test.YtgmjnjbmolalmaaSep
namespace Go.Proofs.Ytgmjnjbmolalmaa
open Go.RowKit

structure RowV where
  a : Option Addr
  n : Nat
  c : Nat
  l : List UInt8
def RowV.val (y : RowV) : Value := .slice y.a y.n y.c
structure RowV.Lie (y : RowV) (w : World) : Prop where
  lies : Lies w (fun _ => True) y.a (y.l.map bv)
  len : y.l.length = y.n
  small : y.n ≤ 1000000000000
theorem RowV.Lie.keep {y : RowV} {w w' : World} (h : y.Lie w) (k : Kept noBlock w w') : y.Lie w' := ⟨h.lies.keep k (fun _ _ h => h), h.len, h.small⟩

theorem RowV.four {w : World} {y0 y1 y2 y3 : RowV} {t : TypeId} (h0 : y0.Lie w) (h1 : y1.Lie w) (h2 : y2.Lie w) (h3 : y3.Lie w) (i : Nat) (y : RowV) (hy : [y0, y1, y2, y3][i]? = some y) :
    (w.alloc (.cells #[y0.val, y1.val, y2.val, y3.val] t)).cell? ⟨w.heap.size, i, none⟩ = some y.val ∧ y.Lie (w.alloc (.cells #[y0.val, y1.val, y2.val, y3.val] t)) := by
  have hb := heap_alloc_new w (.cells #[y0.val, y1.val, y2.val, y3.val] t)
  have k := Kept.alloc noBlock w (.cells #[y0.val, y1.val, y2.val, y3.val] t)
  match i, hy with
  | 0, hy =>
    obtain rfl : y0 = y := by simpa using hy
    exact ⟨cell_of_row _ _ _ _ _ _ hb, h0.keep k⟩
  | 1, hy =>
    obtain rfl : y1 = y := by simpa using hy
    exact ⟨cell_of_row _ _ _ _ _ _ hb, h1.keep k⟩
  | 2, hy =>
    obtain rfl : y2 = y := by simpa using hy
    exact ⟨cell_of_row _ _ _ _ _ _ hb, h2.keep k⟩
  | 3, hy =>
    obtain rfl : y3 = y := by simpa using hy
    exact ⟨cell_of_row _ _ _ _ _ _ hb, h3.keep k⟩
  | i + 4, hy => simp at hy
end Go.Proofs.Ytgmjnjbmolalmaa
