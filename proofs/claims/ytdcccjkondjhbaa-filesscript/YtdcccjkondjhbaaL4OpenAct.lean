/-
  Deeds that came in, opened. No statement is proved here.
-/
import Derived.Test.YtdcccjkondjhbaaL4Acts
import Derived.Test.YtdcccjkondjhbaaOpen
import Derived.Deep.Strs
namespace Go.Proofs.Ytdcccjkondjhbaa
open Go.ChangeShapes Go.WideShapes Go.ChangeAt Go.RowKit

theorem trod_struct5 {H : Type} {enc : TypeId × Value → H} {P : Program} {w : World} {base : Nat} {spare : Nat → Bool} {held : Bool} {t : TypeId} {f0 f1 f2 f3 f4 : Field} {fuel : Nat} {cs : List Value} {x : DataW H × List MemPlace}
    (ht : P.underlying t = some (.struct #[f0, f1, f2, f3, f4])) (h : DataW.trod enc P w base spare held fuel t cs = some x) :
    ∃ y0 y1 y2 y3 y4 n, DataW.trod enc P w base spare held n f0.type ((cs.drop f0.offset).take (P.cellsOf f0.type)) = some y0 ∧ DataW.trod enc P w base spare held n f1.type ((cs.drop f1.offset).take (P.cellsOf f1.type)) = some y1 ∧
      DataW.trod enc P w base spare held n f2.type ((cs.drop f2.offset).take (P.cellsOf f2.type)) = some y2 ∧ DataW.trod enc P w base spare held n f3.type ((cs.drop f3.offset).take (P.cellsOf f3.type)) = some y3 ∧
      DataW.trod enc P w base spare held n f4.type ((cs.drop f4.offset).take (P.cellsOf f4.type)) = some y4 := by
  obtain ⟨xs, n, _, rfl, hl, hlen, hf⟩ := DataW.trod_struct ht h
  match xs, hlen with
  | [y0, y1, y2, y3, y4], _ => exact ⟨y0, y1, y2, y3, y4, n, by simpa using hf 0 f0 rfl, by simpa using hf 1 f1 rfl, by simpa using hf 2 f2 rfl, by simpa using hf 3 f3 rfl, by simpa using hf 4 f4 rfl⟩

theorem act_read {H : Type} {enc : TypeId × Value → H} {W : World} (n : Nat) (cs : List Value) (d : DataW H) (pl : List MemPlace) (h : DataW.trod enc Try.prog W 0 (fun _ => true) true n 35 cs = some (d, pl)) (hl : cs.length = 5) :
    ∃ x : ActV, cs = x.cells ∧ x.lies (fun i => i < W.heap.size) W := by
  obtain ⟨c0, c1, c2, c3, c4, rfl⟩ : ∃ c0 c1 c2 c3 c4, cs = [c0, c1, c2, c3, c4] := by
    match cs, hl with
    | [c0, c1, c2, c3, c4], _ => exact ⟨c0, c1, c2, c3, c4, rfl⟩
  obtain ⟨y0, y1, y2, y3, y4, m, h0, h1, h2, h3, h4⟩ := trod_struct5 Try.underlying35 h
  rw [show Try.prog.cellsOf 5 = 1 from by kernel_rfl] at h0 h1 h2
  rw [show Try.prog.cellsOf 32 = 1 from by kernel_rfl] at h3
  rw [show Try.prog.cellsOf 33 = 1 from by kernel_rfl] at h4
  simp only [List.drop_zero, List.drop_succ_cons, List.take_succ_cons, List.take_zero] at h0 h1 h2 h3 h4
  obtain ⟨k0, e0, r0, w0⟩ := DataW.trod_int Try.underlying5 h0
  obtain ⟨k1, e1, r1, w1⟩ := DataW.trod_int Try.underlying5 h1
  obtain ⟨k2, e2, r2, w2⟩ := DataW.trod_int Try.underlying5 h2
  obtain ⟨k4, e4, r4, w4⟩ := DataW.trod_int Try.underlying33 h4
  simp only [List.cons.injEq, and_true] at e0 e1 e2 e4
  obtain ⟨z0, rfl⟩ := open_byte w0
  obtain ⟨z1, rfl⟩ := open_byte w1
  obtain ⟨z2, rfl⟩ := open_byte w2
  obtain ⟨a', l', c', rfl⟩ : ∃ a' l' c', c3 = .slice a' l' c' := by
    rcases Deep.open_slice Try.underlying32 h3 with ⟨h1, _⟩ | ⟨ad, l, c, m, n', D, Pl, h1, _⟩
    · simp at h1
      exact ⟨_, _, _, h1⟩
    · simp at h1
      exact ⟨_, _, _, h1⟩
  obtain ⟨l, hl1, hlc, hcm, hlies⟩ := open_bytes (t := 32) Try.underlying32 Try.underlying5 (by kernel_rfl) ⟨m, h3⟩
  have hb : -32768 ≤ k4 ∧ k4 ≤ 32767 := by simpa [Lit.wf, IntKind.min, IntKind.max, IntKind.signed, IntKind.bits] using w4
  refine ⟨⟨z0, z1, z2, a', c', l, k4⟩, by rw [e0, e1, e2, e4]; simp [ActV.cells, hl1], hlies, by show l.length ≤ c'; omega, hb.1, hb.2, ?_⟩
  show l.length ≤ _
  unfold maxLen at hcm
  omega

theorem open_acts {H : Type} {enc : TypeId × Value → H} {W : World} {a : Option Addr} {len cap : Nat} {d : DataW H} {p : List MemPlace} (h : ∃ fuel, DataW.trod enc Try.prog W 0 (fun _ => true) true fuel 22 [.slice a len cap] = some (d, p)) :
    ∃ xs : List ActV, xs.length = len ∧ len ≤ cap ∧ cap ≤ maxLen ∧ Lies W (fun i => i < W.heap.size) a (actCells xs) ∧ ∀ x ∈ xs, x.lies (fun i => i < W.heap.size) W := by
  obtain ⟨xs, h1, h2, h3, h4, h5⟩ := open_slice_of ActV.cells (fun _ x => x.lies (fun i => i < W.heap.size) W) (size := 5) (by decide) (fun _ => rfl) Try.underlying22 (by kernel_rfl) act_read h
  refine ⟨xs, h1, h2, h3, h4, fun x hx => ?_⟩
  obtain ⟨i, hi⟩ := List.getElem?_of_mem hx
  rcases h5 with ⟨_, rfl⟩ | ⟨elems, spare, rfl, _, h6⟩
  · cases hx
  · obtain ⟨y, hy, hr⟩ := h6 i x hi
    exact hr
end Go.Proofs.Ytdcccjkondjhbaa
