/-
  Parts that came in, opened. No statement is proved here.
-/
import Derived.Test.YtnenbohnbojjgaaL1Apart
import Derived.Test.YtnenbohnbojjgaaOpen
import Derived.Deep.Strs
namespace Go.Proofs.Ytnenbohnbojjgaa
open Go.ChangeShapes Go.WideShapes Go.ChangeAt Go.RowKit
open Go.ChangeMaps (open_string shut_string)

/-- How a part's reading stands to it. -/
def PartRead {H : Type} (d : DataW H) (p : PartV) : Prop := -9223372036854775808 ≤ p.num ∧ p.num ≤ 9223372036854775807 ∧ p.text.size ≤ Rows.uptoBulk d

theorem part_read {H : Type} {enc : TypeId × Value → H} {W : World} (n : Nat) (cs : List Value) (d : DataW H) (pl : List MemPlace) (h : DataW.trod enc Try.prog W 0 (fun _ => true) true n 29 cs = some (d, pl)) (hl : cs.length = 3) :
    ∃ p : PartV, cs = p.cells ∧ PartRead d p := by
  obtain ⟨c0, c1, c2, rfl⟩ : ∃ c0 c1 c2, cs = [c0, c1, c2] := by
    match cs, hl with
    | [c0, c1, c2], _ => exact ⟨c0, c1, c2, rfl⟩
  obtain ⟨y0, y1, y2, m, hx, _, h0, h1, h2⟩ := Deep.trod_struct3 Try.underlying29 h
  rw [show Try.prog.cellsOf 5 = 1 from by kernel_rfl] at h0
  rw [show Try.prog.cellsOf 3 = 1 from by kernel_rfl] at h1
  rw [show Try.prog.cellsOf 9 = 1 from by kernel_rfl] at h2
  simp only [List.drop_zero, List.drop_succ_cons, List.take_succ_cons, List.take_zero] at h0 h1 h2
  obtain ⟨k, e0, r0, w0⟩ := DataW.trod_int Try.underlying5 h0
  obtain ⟨x, e1, r1, w1⟩ := DataW.trod_int Try.underlying3 h1
  obtain ⟨s, e2, r2, hs⟩ := DataW.trod_string Try.underlying9 h2
  simp only [List.cons.injEq, and_true] at e0 e1 e2
  obtain ⟨y, rfl⟩ := open_byte w0
  simp only [Prod.mk.injEq] at hx
  have hb : -9223372036854775808 ≤ x ∧ x ≤ 9223372036854775807 := by simpa [Lit.wf, IntKind.min, IntKind.max, IntKind.signed, IntKind.bits] using w1
  refine ⟨⟨y, x, s⟩, by rw [e0, e1, e2]; rfl, hb.1, hb.2, ?_⟩
  rw [hx.1, bulk_agg, r2]
  simp only [Rows.uptoBulkAll, bulk_string]
  have e : s.data.toList.length = s.size := by rw [Array.length_toList]; rfl
  omega

/-- Parts that came in as a slice of bulk no more than B. -/
theorem open_parts {H : Type} {enc : TypeId × Value → H} {W : World} {a : Option Addr} {len cap : Nat} {d : DataW H} {p : List MemPlace} (h : ∃ fuel, DataW.trod enc Try.prog W 0 (fun _ => true) true fuel 22 [.slice a len cap] = some (d, p)) (hb : Rows.uptoBulk d ≤ 1048576) :
    ∃ ps : List PartV, ps.length = len ∧ len ≤ cap ∧ len ≤ 1048576 ∧ Lies W (fun i => i < W.heap.size) a (partCells ps) ∧ ∀ p ∈ ps, p.ok := by
  obtain ⟨ps, h1, h2, h3, h4, h5⟩ := open_slice_of PartV.cells PartRead (size := 3) (by decide) (fun _ => rfl) Try.underlying22 (by kernel_rfl) part_read h
  refine ⟨ps, h1, h2, ?_, h4, ?_⟩
  · rcases h5 with ⟨_, rfl⟩ | ⟨elems, spare, rfl, h6, _⟩
    · simp at h1; omega
    · have := bulk_len elems
      have := bulk_slice (elems := elems) (spare := spare)
      omega
  · intro q hq
    obtain ⟨i, hi⟩ := List.getElem?_of_mem hq
    rcases h5 with ⟨_, rfl⟩ | ⟨elems, spare, rfl, _, h6⟩
    · cases hq
    · obtain ⟨y, hy, hr⟩ := h6 i q hi
      have h7 := bulk_mem (List.mem_of_getElem? hy)
      have h8 := bulk_slice (elems := elems) (spare := spare)
      exact ⟨hr.1, hr.2.1, by have := hr.2.2; omega⟩

end Go.Proofs.Ytnenbohnbojjgaa
