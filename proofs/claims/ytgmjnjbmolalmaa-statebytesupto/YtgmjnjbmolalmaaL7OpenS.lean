/-
  A state that came in, opened. No statement is proved here.
-/
import Derived.Test.YtgmjnjbmolalmaaL7Open
namespace Go.Proofs.Ytgmjnjbmolalmaa
open Go.ChangeShapes Go.WideShapes Go.ChangeAt Go.RowKit

theorem trod_struct4 {H : Type} {enc : TypeId × Value → H} {P : Program} {w : World} {base : Nat} {spare : Nat → Bool} {held : Bool} {t : TypeId} {f0 f1 f2 f3 : Field} {fuel : Nat} {cs : List Value} {x : DataW H × List MemPlace}
    (ht : P.underlying t = some (.struct #[f0, f1, f2, f3])) (h : DataW.trod enc P w base spare held fuel t cs = some x) :
    ∃ y0 y1 y2 y3 n, x.1 = .agg [y0.1, y1.1, y2.1, y3.1] ∧ DataW.trod enc P w base spare held n f0.type ((cs.drop f0.offset).take (P.cellsOf f0.type)) = some y0 ∧ DataW.trod enc P w base spare held n f1.type ((cs.drop f1.offset).take (P.cellsOf f1.type)) = some y1 ∧
      DataW.trod enc P w base spare held n f2.type ((cs.drop f2.offset).take (P.cellsOf f2.type)) = some y2 ∧ DataW.trod enc P w base spare held n f3.type ((cs.drop f3.offset).take (P.cellsOf f3.type)) = some y3 := by
  obtain ⟨xs, n, _, hx, hl, hlen, hf⟩ := DataW.trod_struct ht h
  match xs, hlen with
  | [y0, y1, y2, y3], _ => exact ⟨y0, y1, y2, y3, n, by rw [hx]; rfl, by simpa using hf 0 f0 rfl, by simpa using hf 1 f1 rfl, by simpa using hf 2 f2 rfl, by simpa using hf 3 f3 rfl⟩
theorem slice_form {H : Type} {enc : TypeId × Value → H} {P : Program} {W : World} {t e : TypeId} {n : Nat} {v : Value} {y : DataW H × List MemPlace} (ht : P.underlying t = some (.slice e)) (h : DataW.trod enc P W 0 (fun _ => true) true n t [v] = some y) : ∃ a len cap, v = .slice a len cap := by
  rcases Deep.open_slice ht h with ⟨hcs, _⟩ | ⟨ad, l, c, m, n, D, Pl, hcs, _⟩
  · exact ⟨none, 0, 0, by simpa using hcs⟩
  · exact ⟨some ad, l, c, by simpa using hcs⟩

set_option maxRecDepth 100000 in
theorem open_state {H : Type} {enc : TypeId × Value → H} {W : World} {base : Nat} {v : Value} {d : DataW H} {p : List MemPlace} (hv : Value.okWide Try.prog W .any base 33 v) (h : DataW.Trod enc Try.prog W 0 (fun _ => true) true 33 v d p) :
    ∃ (s : StV) (A : Option Addr) (c : Nat) (B : Option Addr) (e : Nat), v = stv s A c B e ∧ Sv W (fun i => i < W.heap.size) s A c B e ∧ (∀ x ∈ s.pairs, x.1.size + x.2.1.size ≤ Rows.uptoBulk d) ∧ (Fit s.index ∧ Fit s.term) ∧
      ∀ x ∈ s.sess, (Fit x.1 ∧ Fit x.2.1 ∧ Fit x.2.2.err) ∧ x.2.2.value.size ≤ Rows.uptoBulk d := by
  obtain ⟨cs, rfl, hsz⟩ := okWide_struct Try.underlying33 hv
  rw [show Try.prog.cellsOf 33 = 4 from by kernel_rfl] at hsz
  obtain ⟨m, hm⟩ := h
  obtain ⟨q0, q1, q2, q3, hq⟩ : ∃ q0 q1 q2 q3, cs = #[q0, q1, q2, q3] := by
    obtain ⟨l⟩ := cs
    match l, hsz with
    | [q0, q1, q2, q3], _ => exact ⟨q0, q1, q2, q3, rfl⟩
  subst hq
  simp only [Value.cells] at hm
  obtain ⟨y0, y1, y2, y3, n, hd, h0, h1, h2, h3⟩ := trod_struct4 Try.underlying33 hm
  rw [show Try.prog.cellsOf 3 = 1 from by kernel_rfl] at h0 h1
  rw [show Try.prog.cellsOf 30 = 1 from by kernel_rfl] at h2
  rw [show Try.prog.cellsOf 31 = 1 from by kernel_rfl] at h3
  simp only [List.drop_zero, List.drop_succ_cons, List.take_succ_cons, List.take_zero] at h0 h1 h2 h3
  obtain ⟨k0, e0, _, w0⟩ := DataW.trod_int Try.underlying3 h0
  obtain ⟨k1, e1, _, w1⟩ := DataW.trod_int Try.underlying3 h1
  simp only [List.cons.injEq, and_true] at e0 e1
  obtain ⟨A, lp, c, rfl⟩ := slice_form Try.underlying30 h2
  obtain ⟨B, ls, e, rfl⟩ := slice_form Try.underlying31 h3
  obtain ⟨ps, l1, l2, _, l4, l5⟩ := open_pairs (d := y2.1) (p := y2.2) ⟨n, h2⟩
  obtain ⟨xs, m1, m2, _, m4, m5⟩ := open_sesss (d := y3.1) (p := y3.2) ⟨n, h3⟩
  have hb : Rows.uptoBulk d = Rows.uptoBulk (.agg [y0.1, y1.1, y2.1, y3.1]) := congrArg _ hd
  rw [bulk_agg] at hb
  simp only [Rows.uptoBulkAll] at hb
  refine ⟨⟨k0, k1, ps, xs⟩, A, c, B, e, ?_, ⟨l4, m4, by show ps.length ≤ c; omega, by show xs.length ≤ e; omega⟩, fun x hx => ?_, ⟨fit_of w0, fit_of w1⟩, fun x hx => ⟨(m5 x hx).1, ?_⟩⟩
  · unfold stv
    rw [e0, e1, ← l1, ← m1]
  · have := l5 x hx
    omega
  · have := (m5 x hx).2
    omega
end Go.Proofs.Ytgmjnjbmolalmaa
