/-
  Files, edits and steps that came in, opened. No statement is proved here.
-/
import Derived.Test.YtjijdkdpmbfdmaaL10Step
import Derived.Test.YtjijdkdpmbfdmaaOpenK
import Derived.Deep.Strs
namespace Go.Proofs.Ytjijdkdpmbfdmaa
open Go.ChangeShapes Go.WideShapes Go.ChangeAt Go.RowKit

theorem step_struct4 {H : Type} {enc : TypeId × Value → H} {P : Program} {w : World} {base : Nat} {spare : Nat → Bool} {held : Bool} {t : TypeId} {f0 f1 f2 f3 : Field} {fuel : Nat} {cs : List Value} {x : DataW H × List MemPlace}
    (ht : P.underlying t = some (.struct #[f0, f1, f2, f3])) (h : DataW.trod enc P w base spare held fuel t cs = some x) :
    ∃ y0 y1 y2 y3 n, x.1 = .agg [y0.1, y1.1, y2.1, y3.1] ∧ DataW.trod enc P w base spare held n f0.type ((cs.drop f0.offset).take (P.cellsOf f0.type)) = some y0 ∧ DataW.trod enc P w base spare held n f1.type ((cs.drop f1.offset).take (P.cellsOf f1.type)) = some y1 ∧
      DataW.trod enc P w base spare held n f2.type ((cs.drop f2.offset).take (P.cellsOf f2.type)) = some y2 ∧ DataW.trod enc P w base spare held n f3.type ((cs.drop f3.offset).take (P.cellsOf f3.type)) = some y3 := by
  obtain ⟨xs, n, _, hx, hl, hlen, hf⟩ := DataW.trod_struct ht h
  match xs, hlen with
  | [y0, y1, y2, y3], _ => exact ⟨y0, y1, y2, y3, n, by rw [hx]; rfl, by simpa using hf 0 f0 rfl, by simpa using hf 1 f1 rfl, by simpa using hf 2 f2 rfl, by simpa using hf 3 f3 rfl⟩
theorem step_struct5 {H : Type} {enc : TypeId × Value → H} {P : Program} {w : World} {base : Nat} {spare : Nat → Bool} {held : Bool} {t : TypeId} {f0 f1 f2 f3 f4 : Field} {fuel : Nat} {cs : List Value} {x : DataW H × List MemPlace}
    (ht : P.underlying t = some (.struct #[f0, f1, f2, f3, f4])) (h : DataW.trod enc P w base spare held fuel t cs = some x) :
    ∃ y0 y1 y2 y3 y4 n, x.1 = .agg [y0.1, y1.1, y2.1, y3.1, y4.1] ∧ DataW.trod enc P w base spare held n f0.type ((cs.drop f0.offset).take (P.cellsOf f0.type)) = some y0 ∧ DataW.trod enc P w base spare held n f1.type ((cs.drop f1.offset).take (P.cellsOf f1.type)) = some y1 ∧
      DataW.trod enc P w base spare held n f2.type ((cs.drop f2.offset).take (P.cellsOf f2.type)) = some y2 ∧ DataW.trod enc P w base spare held n f3.type ((cs.drop f3.offset).take (P.cellsOf f3.type)) = some y3 ∧
      DataW.trod enc P w base spare held n f4.type ((cs.drop f4.offset).take (P.cellsOf f4.type)) = some y4 := by
  obtain ⟨xs, n, _, hx, hl, hlen, hf⟩ := DataW.trod_struct ht h
  match xs, hlen with
  | [y0, y1, y2, y3, y4], _ => exact ⟨y0, y1, y2, y3, y4, n, by rw [hx]; rfl, by simpa using hf 0 f0 rfl, by simpa using hf 1 f1 rfl, by simpa using hf 2 f2 rfl, by simpa using hf 3 f3 rfl, by simpa using hf 4 f4 rfl⟩
theorem step_fit {k : Int} (h : (Lit.int .i64 k).wf = true) : Fit k := by
  have : -9223372036854775808 ≤ k ∧ k ≤ 9223372036854775807 := by simpa [Lit.wf, IntKind.min, IntKind.max, IntKind.signed, IntKind.bits] using h
  exact this
/-- How a file's reading stands to it. -/
def RefRead {H : Type} (d : DataW H) (x : RefV) : Prop := x.name.size ≤ Rows.uptoBulk d ∧ Fit x.kind ∧ Fit x.from_ ∧ Fit x.to_

set_option maxRecDepth 100000 in
theorem ref_read {H : Type} {enc : TypeId × Value → H} {W : World} (n : Nat) (cs : List Value) (d : DataW H) (pl : List MemPlace) (h : DataW.trod enc Try.prog W 0 (fun _ => true) true n 31 cs = some (d, pl)) (hl : cs.length = 4) :
    ∃ x : RefV, cs = x.cells ∧ RefRead d x := by
  obtain ⟨c0, c1, c2, c3, rfl⟩ : ∃ c0 c1 c2 c3, cs = [c0, c1, c2, c3] := by
    match cs, hl with
    | [c0, c1, c2, c3], _ => exact ⟨c0, c1, c2, c3, rfl⟩
  obtain ⟨y0, y1, y2, y3, m, hd, h0, h1, h2, h3⟩ := step_struct4 Try.underlying31 h
  rw [show Try.prog.cellsOf 9 = 1 from by kernel_rfl] at h0
  rw [show Try.prog.cellsOf 29 = 1 from by kernel_rfl] at h1
  rw [show Try.prog.cellsOf 3 = 1 from by kernel_rfl] at h2 h3
  simp only [List.drop_zero, List.drop_succ_cons, List.take_succ_cons, List.take_zero] at h0 h1 h2 h3
  obtain ⟨s0, e0, r0, _⟩ := DataW.trod_string Try.underlying9 h0
  obtain ⟨k1, e1, _, w1⟩ := DataW.trod_int Try.underlying29 h1
  obtain ⟨k2, e2, _, w2⟩ := DataW.trod_int Try.underlying3 h2
  obtain ⟨k3, e3, _, w3⟩ := DataW.trod_int Try.underlying3 h3
  simp only [List.cons.injEq, and_true] at e0 e1 e2 e3
  simp only at hd
  refine ⟨⟨s0, k1, k2, k3⟩, by rw [e0, e1, e2, e3]; rfl, ?_, step_fit w1, step_fit w2, step_fit w3⟩
  rw [hd, bulk_agg, r0]
  simp only [Rows.uptoBulkAll, bulk_string]
  have : s0.data.toList.length = s0.size := by rw [Array.length_toList]; rfl
  omega

theorem form_slice {H : Type} {enc : TypeId × Value → H} {P : Program} {W : World} {t e : TypeId} {n : Nat} {v : Value} {y : DataW H × List MemPlace} (ht : P.underlying t = some (.slice e)) (h : DataW.trod enc P W 0 (fun _ => true) true n t [v] = some y) : ∃ a len cap, v = .slice a len cap := by
  rcases Deep.open_slice ht h with ⟨hcs, _⟩ | ⟨ad, l, c, m, n, D, Pl, hcs, _⟩
  · exact ⟨none, 0, 0, by simpa using hcs⟩
  · exact ⟨some ad, l, c, by simpa using hcs⟩
/-- How a step's reading stands to it. -/
def StepRead {H : Type} (W : World) (d : DataW H) (x : StepV) : Prop := x.lies (fun i => i < W.heap.size) W ∧ RefRead d x.any

set_option maxRecDepth 100000 in
theorem step_read {H : Type} {enc : TypeId × Value → H} {W : World} (n : Nat) (cs : List Value) (d : DataW H) (pl : List MemPlace) (h : DataW.trod enc Try.prog W 0 (fun _ => true) true n 33 cs = some (d, pl)) (hl : cs.length = 8) :
    ∃ x : StepV, cs = x.cells ∧ StepRead W d x := by
  obtain ⟨c0, c1, c2, c3, c4, c5, c6, c7, rfl⟩ : ∃ c0 c1 c2 c3 c4 c5 c6 c7, cs = [c0, c1, c2, c3, c4, c5, c6, c7] := by
    match cs, hl with
    | [c0, c1, c2, c3, c4, c5, c6, c7], _ => exact ⟨c0, c1, c2, c3, c4, c5, c6, c7, rfl⟩
  obtain ⟨y0, y1, y2, y3, y4, m, hd, h0, h1, h2, h3, h4⟩ := step_struct5 Try.underlying33 h
  rw [show Try.prog.cellsOf 28 = 1 from by kernel_rfl] at h0 h1
  rw [show Try.prog.cellsOf 5 = 1 from by kernel_rfl] at h2
  rw [show Try.prog.cellsOf 4 = 1 from by kernel_rfl] at h3
  rw [show Try.prog.cellsOf 31 = 4 from by kernel_rfl] at h4
  simp only [List.drop_zero, List.drop_succ_cons, List.take_succ_cons, List.take_zero] at h0 h1 h2 h3 h4
  obtain ⟨A, la, ca, rfl⟩ := form_slice Try.underlying28 h0
  obtain ⟨D, ld, cd, rfl⟩ := form_slice Try.underlying28 h1
  obtain ⟨l0, hl0, hc0, hm0, hs0⟩ := open_bytes (t := 28) Try.underlying28 Try.underlying5 (by kernel_rfl) ⟨m, h0⟩
  obtain ⟨l1, hl1, hc1, hm1, hs1⟩ := open_bytes (t := 28) Try.underlying28 Try.underlying5 (by kernel_rfl) ⟨m, h1⟩
  obtain ⟨k2, e2, _, w2⟩ := DataW.trod_int Try.underlying5 h2
  obtain ⟨b3, e3, _⟩ := DataW.trod_bool Try.underlying4 h3
  obtain ⟨r, hr, hrr⟩ := ref_read m _ y4.1 y4.2 h4 rfl
  simp only [List.cons.injEq, and_true] at e2 e3
  obtain ⟨z2, rfl⟩ := open_byte w2
  unfold RefV.cells at hr
  simp only [List.cons.injEq, and_true] at hr
  obtain ⟨g0, g1, g2, g3⟩ := hr
  unfold maxLen at hm0 hm1
  refine ⟨⟨A, ca, l0, D, cd, l1, z2, b3, r⟩, by rw [e2, e3, g0, g1, g2, g3]; simp [StepV.cells, hl0, hl1], ⟨hs0, hs1, by show l0.length ≤ ca; omega, by show l1.length ≤ cd; omega, by show l0.length ≤ _; omega, by show l1.length ≤ _; omega, by show ca ≤ _; omega, by show cd ≤ _; omega⟩, ?_, hrr.2⟩
  refine Nat.le_trans hrr.1 ?_
  simp only at hd
  rw [hd, bulk_agg]
  simp only [Rows.uptoBulkAll]
  omega

/-- Steps, as cells. -/
def stepCells (l : List StepV) : List Value := l.flatMap StepV.cells
theorem step_len (x : StepV) : x.cells.length = 8 := rfl

set_option maxRecDepth 100000 in
theorem open_steps {H : Type} {enc : TypeId × Value → H} {W : World} {a : Option Addr} {len cap : Nat} {d : DataW H} {p : List MemPlace} (h : ∃ fuel, DataW.trod enc Try.prog W 0 (fun _ => true) true fuel 22 [.slice a len cap] = some (d, p)) :
    ∃ xs : List StepV, xs.length = len ∧ len ≤ cap ∧ cap ≤ maxLen ∧ Lies W (fun i => i < W.heap.size) a (stepCells xs) ∧ ∀ x ∈ xs, x.lies (fun i => i < W.heap.size) W ∧ x.any.name.size ≤ Rows.uptoBulk d ∧ Fit x.any.kind ∧ Fit x.any.from_ ∧ Fit x.any.to_ := by
  obtain ⟨xs, h1, h2, h3, h4, h5⟩ := open_slice_of StepV.cells (StepRead W) (size := 8) (by decide) (fun _ => rfl) Try.underlying22 (by kernel_rfl) step_read h
  refine ⟨xs, h1, h2, h3, h4, fun q hq => ?_⟩
  obtain ⟨i, hi⟩ := List.getElem?_of_mem hq
  rcases h5 with ⟨_, rfl⟩ | ⟨elems, spare, rfl, _, h6⟩
  · cases hq
  · obtain ⟨y, hy, hr⟩ := h6 i q hi
    have h7 := bulk_mem (List.mem_of_getElem? hy)
    have h8 := bulk_slice (elems := elems) (spare := spare)
    exact ⟨hr.1, by have := hr.2.1; omega, hr.2.2⟩
set_option maxRecDepth 100000 in
theorem open_ref {H : Type} {enc : TypeId × Value → H} {W : World} {base : Nat} {v : Value} {d : DataW H} {p : List MemPlace} (hv : Value.okWide Try.prog W .any base 31 v) (h : DataW.Trod enc Try.prog W 0 (fun _ => true) true 31 v d p) : ∃ x : RefV, v = x.val := by
  obtain ⟨cs, rfl, hsz⟩ := okWide_struct Try.underlying31 hv
  rw [show Try.prog.cellsOf 31 = 4 from by kernel_rfl] at hsz
  obtain ⟨m, hm⟩ := h
  obtain ⟨x, hx, _⟩ := ref_read m _ _ _ hm (by simpa [Value.cells] using hsz)
  have hx' : cs.toList = x.cells := by simpa [Value.cells] using hx
  exact ⟨x, by unfold RefV.val; congr 1; apply Array.toList_inj.1; rw [hx']; rfl⟩
end Go.Proofs.Ytjijdkdpmbfdmaa
