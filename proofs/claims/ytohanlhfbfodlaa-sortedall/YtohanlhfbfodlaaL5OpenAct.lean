/-
  Deeds that came in, opened. No statement is proved here.
-/
import Derived.Test.YtohanlhfbfodlaaL5Acts
import Derived.Test.YtohanlhfbfodlaaOpen
import Derived.Deep.Strs
namespace Go.Proofs.Ytohanlhfbfodlaa
open Go.ChangeShapes Go.WideShapes Go.ChangeAt Go.RowKit

theorem trod_struct3 {H : Type} {enc : TypeId × Value → H} {P : Program} {w : World} {base : Nat} {spare : Nat → Bool} {held : Bool} {t : TypeId} {f0 f1 f2 : Field} {fuel : Nat} {cs : List Value} {x : DataW H × List MemPlace}
    (ht : P.underlying t = some (.struct #[f0, f1, f2])) (h : DataW.trod enc P w base spare held fuel t cs = some x) :
    ∃ y0 y1 y2 n, DataW.trod enc P w base spare held n f0.type ((cs.drop f0.offset).take (P.cellsOf f0.type)) = some y0 ∧ DataW.trod enc P w base spare held n f1.type ((cs.drop f1.offset).take (P.cellsOf f1.type)) = some y1 ∧
      DataW.trod enc P w base spare held n f2.type ((cs.drop f2.offset).take (P.cellsOf f2.type)) = some y2 := by
  obtain ⟨xs, n, _, rfl, hl, hlen, hf⟩ := DataW.trod_struct ht h
  match xs, hlen with
  | [y0, y1, y2], _ => exact ⟨y0, y1, y2, n, by simpa using hf 0 f0 rfl, by simpa using hf 1 f1 rfl, by simpa using hf 2 f2 rfl⟩

theorem act_read {H : Type} {enc : TypeId × Value → H} {W : World} (n : Nat) (cs : List Value) (d : DataW H) (pl : List MemPlace) (h : DataW.trod enc Try.prog W 0 (fun _ => true) true n 36 cs = some (d, pl)) (hl : cs.length = 3) :
    ∃ x : ActV, cs = x.cells ∧ x.fit := by
  obtain ⟨c0, c1, c2, rfl⟩ : ∃ c0 c1 c2, cs = [c0, c1, c2] := by
    match cs, hl with
    | [c0, c1, c2], _ => exact ⟨c0, c1, c2, rfl⟩
  obtain ⟨y0, y1, y2, m, h0, h1, h2⟩ := trod_struct3 Try.underlying36 h
  rw [show Try.prog.cellsOf 5 = 1 from by kernel_rfl] at h0
  rw [show Try.prog.cellsOf 33 = 1 from by kernel_rfl] at h1
  rw [show Try.prog.cellsOf 34 = 1 from by kernel_rfl] at h2
  simp only [List.drop_zero, List.drop_succ_cons, List.take_succ_cons, List.take_zero] at h0 h1 h2
  obtain ⟨k0, e0, r0, w0⟩ := DataW.trod_int Try.underlying5 h0
  obtain ⟨k1, e1, r1, w1⟩ := DataW.trod_int Try.underlying33 h1
  obtain ⟨k2, e2, r2, w2⟩ := DataW.trod_int Try.underlying34 h2
  simp only [List.cons.injEq, and_true] at e0 e1 e2
  have b0 : 0 ≤ k0 ∧ k0 ≤ 255 := by simpa [Lit.wf, IntKind.min, IntKind.max, IntKind.signed, IntKind.bits] using w0
  have b1 : -128 ≤ k1 ∧ k1 ≤ 127 := by simpa [Lit.wf, IntKind.min, IntKind.max, IntKind.signed, IntKind.bits] using w1
  have b2 : 0 ≤ k2 ∧ k2 ≤ 65535 := by simpa [Lit.wf, IntKind.min, IntKind.max, IntKind.signed, IntKind.bits] using w2
  refine ⟨⟨k0.toNat, k1, k2.toNat⟩, ?_, ⟨by show k0.toNat < 256; omega, b1.1, b1.2, by show k2.toNat < 65536; omega⟩⟩
  rw [e0, e1, e2]
  simp only [ActV.cells]
  rw [show ((k0.toNat : Nat) : Int) = k0 by omega, show ((k2.toNat : Nat) : Int) = k2 by omega]

theorem open_acts {H : Type} {enc : TypeId × Value → H} {W : World} {a : Option Addr} {len cap : Nat} {d : DataW H} {p : List MemPlace} (h : ∃ fuel, DataW.trod enc Try.prog W 0 (fun _ => true) true fuel 22 [.slice a len cap] = some (d, p)) :
    ∃ xs : List ActV, xs.length = len ∧ len ≤ cap ∧ cap ≤ maxLen ∧ Lies W (fun i => i < W.heap.size) a (actCells xs) ∧ ∀ x ∈ xs, x.fit := by
  obtain ⟨xs, h1, h2, h3, h4, h5⟩ := open_slice_of ActV.cells (fun _ x => x.fit) (size := 3) (by decide) (fun _ => rfl) Try.underlying22 (by kernel_rfl) act_read h
  refine ⟨xs, h1, h2, h3, h4, fun x hx => ?_⟩
  obtain ⟨i, hi⟩ := List.getElem?_of_mem hx
  rcases h5 with ⟨_, rfl⟩ | ⟨elems, spare, rfl, _, h6⟩
  · cases hx
  · obtain ⟨y, hy, hr⟩ := h6 i x hi
    exact hr
end Go.Proofs.Ytohanlhfbfodlaa
