/-
  Files by numbers that came in, opened. No statement is proved here.
-/
import Derived.Test.YtollmkkbeeeccaaL11Use
import Derived.Test.YtollmkkbeeeccaaOpenK
import Derived.Deep.Strs
namespace Go.Proofs.Ytollmkkbeeeccaa
open Go.ChangeShapes Go.WideShapes Go.ChangeAt Go.RowKit

theorem rf_struct3 {H : Type} {enc : TypeId × Value → H} {P : Program} {w : World} {base : Nat} {spare : Nat → Bool} {held : Bool} {t : TypeId} {f0 f1 f2 : Field} {fuel : Nat} {cs : List Value} {x : DataW H × List MemPlace}
    (ht : P.underlying t = some (.struct #[f0, f1, f2])) (h : DataW.trod enc P w base spare held fuel t cs = some x) :
    ∃ y0 y1 y2 n, x.1 = .agg [y0.1, y1.1, y2.1] ∧ DataW.trod enc P w base spare held n f0.type ((cs.drop f0.offset).take (P.cellsOf f0.type)) = some y0 ∧ DataW.trod enc P w base spare held n f1.type ((cs.drop f1.offset).take (P.cellsOf f1.type)) = some y1 ∧
      DataW.trod enc P w base spare held n f2.type ((cs.drop f2.offset).take (P.cellsOf f2.type)) = some y2 := by
  obtain ⟨xs, n, _, hx, hl, hlen, hf⟩ := DataW.trod_struct ht h
  match xs, hlen with
  | [y0, y1, y2], _ => exact ⟨y0, y1, y2, n, by rw [hx]; rfl, by simpa using hf 0 f0 rfl, by simpa using hf 1 f1 rfl, by simpa using hf 2 f2 rfl⟩

set_option maxRecDepth 100000 in
theorem rf_read {H : Type} {enc : TypeId × Value → H} {W : World} (n : Nat) (cs : List Value) (d : DataW H) (pl : List MemPlace) (h : DataW.trod enc Try.prog W 0 (fun _ => true) true n 57 cs = some (d, pl)) (hl : cs.length = 3) :
    ∃ x : RfN, cs = x.cells ∧ True := by
  obtain ⟨c0, c1, c2, rfl⟩ : ∃ c0 c1 c2, cs = [c0, c1, c2] := by
    match cs, hl with
    | [c0, c1, c2], _ => exact ⟨c0, c1, c2, rfl⟩
  obtain ⟨y0, y1, y2, m, hd, h0, h1, h2⟩ := rf_struct3 Try.underlying57 h
  rw [show Try.prog.cellsOf 5 = 1 from by kernel_rfl] at h0 h1 h2
  simp only [List.drop_zero, List.drop_succ_cons, List.take_succ_cons, List.take_zero] at h0 h1 h2
  obtain ⟨k0, e0, _, w0⟩ := DataW.trod_int Try.underlying5 h0
  obtain ⟨k1, e1, _, w1⟩ := DataW.trod_int Try.underlying5 h1
  obtain ⟨k2, e2, _, w2⟩ := DataW.trod_int Try.underlying5 h2
  simp only [List.cons.injEq, and_true] at e0 e1 e2
  obtain ⟨z0, rfl⟩ := open_byte w0
  obtain ⟨z1, rfl⟩ := open_byte w1
  obtain ⟨z2, rfl⟩ := open_byte w2
  exact ⟨⟨z0, z1, z2⟩, by rw [e0, e1, e2]; rfl, trivial⟩

set_option maxRecDepth 100000 in
theorem open_rfs {H : Type} {enc : TypeId × Value → H} {W : World} {a : Option Addr} {len cap : Nat} {d : DataW H} {p : List MemPlace} (h : ∃ fuel, DataW.trod enc Try.prog W 0 (fun _ => true) true fuel 22 [.slice a len cap] = some (d, p)) :
    ∃ xs : List RfN, len = xs.length ∧ len ≤ cap ∧ cap ≤ 9223372036854775807 ∧ Lies W (fun i => i < W.heap.size) a (rfCells xs) := by
  obtain ⟨xs, h1, h2, h3, h4, _⟩ := open_slice_of RfN.cells (fun _ _ => True) (size := 3) (by decide) (fun _ => rfl) Try.underlying22 (by kernel_rfl) rf_read h
  exact ⟨xs, h1.symm, h2, h3, h4⟩
theorem open_i8 {k : Int} (h : (Lit.int .i8 k).wf = true) : -128 ≤ k ∧ k ≤ 127 := by
  simpa [Lit.wf, IntKind.min, IntKind.max, IntKind.signed, IntKind.bits] using h
end Go.Proofs.Ytollmkkbeeeccaa
