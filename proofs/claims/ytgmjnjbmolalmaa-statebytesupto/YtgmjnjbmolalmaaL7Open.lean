/-
  Pairs and sessions that came in, opened. No statement is proved here.
-/
import Derived.Test.YtgmjnjbmolalmaaL6Open
import Derived.Test.YtgmjnjbmolalmaaStRound
namespace Go.Proofs.Ytgmjnjbmolalmaa
open Go.ChangeShapes Go.WideShapes Go.ChangeAt Go.RowKit

theorem text_len (s : ByteArray) : s.data.toList.length = s.size := by rw [Array.length_toList]; rfl
theorem fit_of {k : Int} (h : (Lit.int .i64 k).wf = true) : Fit k := by
  have : -9223372036854775808 ≤ k ∧ k ≤ 9223372036854775807 := by simpa [Lit.wf, IntKind.min, IntKind.max, IntKind.signed, IntKind.bits] using h
  exact this
/-- How a pair's reading stands to it, and a session's. -/
def PairRead {H : Type} (d : DataW H) (p : ByteArray × (ByteArray × Bool)) : Prop := p.1.size + p.2.1.size ≤ Rows.uptoBulk d
def SessRead {H : Type} (d : DataW H) (x : Int × (Int × RepV)) : Prop := (Fit x.1 ∧ Fit x.2.1 ∧ Fit x.2.2.err) ∧ x.2.2.value.size ≤ Rows.uptoBulk d

set_option maxRecDepth 100000 in
theorem pair_read {H : Type} {enc : TypeId × Value → H} {W : World} (n : Nat) (cs : List Value) (d : DataW H) (pl : List MemPlace) (h : DataW.trod enc Try.prog W 0 (fun _ => true) true n 61 cs = some (d, pl)) (hl : cs.length = 3) :
    ∃ x : ByteArray × (ByteArray × Bool), cs = PR.enc x ∧ PairRead d x := by
  obtain ⟨c0, c1, c2, rfl⟩ : ∃ c0 c1 c2, cs = [c0, c1, c2] := by
    match cs, hl with
    | [c0, c1, c2], _ => exact ⟨c0, c1, c2, rfl⟩
  obtain ⟨y0, y1, y2, m, hx, _, h0, h1, h2⟩ := Deep.trod_struct3 Try.underlying61 h
  rw [show Try.prog.cellsOf 9 = 1 from by kernel_rfl] at h0 h1
  rw [show Try.prog.cellsOf 4 = 1 from by kernel_rfl] at h2
  simp only [List.drop_zero, List.drop_succ_cons, List.take_succ_cons, List.take_zero] at h0 h1 h2
  obtain ⟨s0, e0, r0, _⟩ := DataW.trod_string Try.underlying9 h0
  obtain ⟨s1, e1, r1, _⟩ := DataW.trod_string Try.underlying9 h1
  obtain ⟨b2, e2, r2⟩ := DataW.trod_bool Try.underlying4 h2
  simp only [List.cons.injEq, and_true] at e0 e1 e2
  simp only [Prod.mk.injEq] at hx
  refine ⟨(s0, (s1, b2)), by rw [e0, e1, e2]; rfl, ?_⟩
  unfold PairRead
  rw [hx.1, bulk_agg, r0, r1]
  simp only [Rows.uptoBulkAll, bulk_string, text_len]
  omega

set_option maxRecDepth 100000 in
theorem sess_read {H : Type} {enc : TypeId × Value → H} {W : World} (n : Nat) (cs : List Value) (d : DataW H) (pl : List MemPlace) (h : DataW.trod enc Try.prog W 0 (fun _ => true) true n 84 cs = some (d, pl)) (hl : cs.length = 4) :
    ∃ x : Int × (Int × RepV), cs = SN.enc x ∧ SessRead d x := by
  obtain ⟨c0, c1, c2, c3, rfl⟩ : ∃ c0 c1 c2 c3, cs = [c0, c1, c2, c3] := by
    match cs, hl with
    | [c0, c1, c2, c3], _ => exact ⟨c0, c1, c2, c3, rfl⟩
  obtain ⟨y0, y1, y2, m, hx, _, h0, h1, h2⟩ := Deep.trod_struct3 Try.underlying84 h
  rw [show Try.prog.cellsOf 3 = 1 from by kernel_rfl] at h0 h1
  rw [show Try.prog.cellsOf 44 = 2 from by kernel_rfl] at h2
  simp only [List.drop_zero, List.drop_succ_cons, List.take_succ_cons, List.take_zero] at h0 h1 h2
  obtain ⟨k0, e0, _, w0⟩ := DataW.trod_int Try.underlying3 h0
  obtain ⟨k1, e1, _, w1⟩ := DataW.trod_int Try.underlying3 h1
  obtain ⟨z0, z1, m2, hx2, _, g0, g1⟩ := trod_struct2 Try.underlying44 h2
  rw [show Try.prog.cellsOf 42 = 1 from by kernel_rfl] at g0
  rw [show Try.prog.cellsOf 9 = 1 from by kernel_rfl] at g1
  simp only [List.drop_zero, List.drop_succ_cons, List.take_succ_cons, List.take_zero] at g0 g1
  obtain ⟨k2, e2, _, w2⟩ := DataW.trod_int Try.underlying42 g0
  obtain ⟨s3, e3, r3, _⟩ := DataW.trod_string Try.underlying9 g1
  simp only [List.cons.injEq, and_true] at e0 e1 e2 e3
  simp only [Prod.mk.injEq] at hx
  refine ⟨(k0, (k1, ⟨k2, s3⟩)), by rw [e0, e1, e2, e3]; rfl, ⟨fit_of w0, fit_of w1, fit_of w2⟩, ?_⟩
  rw [hx.1, hx2, bulk_agg]
  simp only [Rows.uptoBulkAll, bulk_agg, r3, bulk_string, text_len]
  omega

set_option maxRecDepth 100000 in
theorem open_pairs {H : Type} {enc : TypeId × Value → H} {W : World} {a : Option Addr} {len cap : Nat} {d : DataW H} {p : List MemPlace} (h : ∃ fuel, DataW.trod enc Try.prog W 0 (fun _ => true) true fuel 30 [.slice a len cap] = some (d, p)) :
    ∃ xs : Prs, xs.length = len ∧ len ≤ cap ∧ cap ≤ maxLen ∧ Lies W (fun i => i < W.heap.size) a (PR.cells xs) ∧ ∀ x ∈ xs, x.1.size + x.2.1.size ≤ Rows.uptoBulk d := by
  obtain ⟨xs, h1, h2, h3, h4, h5⟩ := open_slice_of PR.enc PairRead (size := 3) (by decide) PR.enc_len Try.underlying30 (by kernel_rfl) pair_read h
  refine ⟨xs, h1, h2, h3, h4, fun q hq => ?_⟩
  obtain ⟨i, hi⟩ := List.getElem?_of_mem hq
  rcases h5 with ⟨_, rfl⟩ | ⟨elems, spare, rfl, _, h6⟩
  · cases hq
  · obtain ⟨y, hy, hr⟩ := h6 i q hi
    have h7 := bulk_mem (List.mem_of_getElem? hy)
    have h8 := bulk_slice (elems := elems) (spare := spare)
    unfold PairRead at hr
    omega
set_option maxRecDepth 100000 in
theorem open_sesss {H : Type} {enc : TypeId × Value → H} {W : World} {a : Option Addr} {len cap : Nat} {d : DataW H} {p : List MemPlace} (h : ∃ fuel, DataW.trod enc Try.prog W 0 (fun _ => true) true fuel 31 [.slice a len cap] = some (d, p)) :
    ∃ xs : Sns, xs.length = len ∧ len ≤ cap ∧ cap ≤ maxLen ∧ Lies W (fun i => i < W.heap.size) a (SN.cells xs) ∧ ∀ x ∈ xs, (Fit x.1 ∧ Fit x.2.1 ∧ Fit x.2.2.err) ∧ x.2.2.value.size ≤ Rows.uptoBulk d := by
  obtain ⟨xs, h1, h2, h3, h4, h5⟩ := open_slice_of SN.enc SessRead (size := 4) (by decide) SN.enc_len Try.underlying31 (by kernel_rfl) sess_read h
  refine ⟨xs, h1, h2, h3, h4, fun q hq => ?_⟩
  obtain ⟨i, hi⟩ := List.getElem?_of_mem hq
  rcases h5 with ⟨_, rfl⟩ | ⟨elems, spare, rfl, _, h6⟩
  · cases hq
  · obtain ⟨y, hy, hr⟩ := h6 i q hi
    have h7 := bulk_mem (List.mem_of_getElem? hy)
    have h8 := bulk_slice (elems := elems) (spare := spare)
    exact ⟨hr.1, by have := hr.2; omega⟩
end Go.Proofs.Ytgmjnjbmolalmaa
