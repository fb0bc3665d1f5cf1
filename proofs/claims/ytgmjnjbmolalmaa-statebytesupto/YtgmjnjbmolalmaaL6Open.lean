/-
  Commands, entries and says that came in, opened. No statement is proved here.
-/
import Derived.Test.YtgmjnjbmolalmaaL6Ents
import Derived.Test.YtgmjnjbmolalmaaOpen
import Derived.Deep.Strs
namespace Go.Proofs.Ytgmjnjbmolalmaa
open Go.ChangeShapes Go.WideShapes Go.ChangeAt Go.RowKit

theorem trod_struct6 {H : Type} {enc : TypeId × Value → H} {P : Program} {w : World} {base : Nat} {spare : Nat → Bool} {held : Bool} {t : TypeId} {f0 f1 f2 f3 f4 f5 : Field} {fuel : Nat} {cs : List Value} {x : DataW H × List MemPlace}
    (ht : P.underlying t = some (.struct #[f0, f1, f2, f3, f4, f5])) (h : DataW.trod enc P w base spare held fuel t cs = some x) :
    ∃ y0 y1 y2 y3 y4 y5 n, DataW.trod enc P w base spare held n f0.type ((cs.drop f0.offset).take (P.cellsOf f0.type)) = some y0 ∧ DataW.trod enc P w base spare held n f1.type ((cs.drop f1.offset).take (P.cellsOf f1.type)) = some y1 ∧
      DataW.trod enc P w base spare held n f2.type ((cs.drop f2.offset).take (P.cellsOf f2.type)) = some y2 ∧ DataW.trod enc P w base spare held n f3.type ((cs.drop f3.offset).take (P.cellsOf f3.type)) = some y3 ∧
      DataW.trod enc P w base spare held n f4.type ((cs.drop f4.offset).take (P.cellsOf f4.type)) = some y4 ∧ DataW.trod enc P w base spare held n f5.type ((cs.drop f5.offset).take (P.cellsOf f5.type)) = some y5 := by
  obtain ⟨xs, n, _, rfl, hl, hlen, hf⟩ := DataW.trod_struct ht h
  match xs, hlen with
  | [y0, y1, y2, y3, y4, y5], _ => exact ⟨y0, y1, y2, y3, y4, y5, n, by simpa using hf 0 f0 rfl, by simpa using hf 1 f1 rfl, by simpa using hf 2 f2 rfl, by simpa using hf 3 f3 rfl, by simpa using hf 4 f4 rfl, by simpa using hf 5 f5 rfl⟩

set_option maxRecDepth 100000 in
theorem cmd_read {H : Type} {enc : TypeId × Value → H} {W : World} (n : Nat) (cs : List Value) (d : DataW H) (pl : List MemPlace) (h : DataW.trod enc Try.prog W 0 (fun _ => true) true n 39 cs = some (d, pl)) (hl : cs.length = 6) :
    ∃ x : CmdV, cs = x.cells := by
  obtain ⟨c0, c1, c2, c3, c4, c5, rfl⟩ : ∃ c0 c1 c2 c3 c4 c5, cs = [c0, c1, c2, c3, c4, c5] := by
    match cs, hl with
    | [c0, c1, c2, c3, c4, c5], _ => exact ⟨c0, c1, c2, c3, c4, c5, rfl⟩
  obtain ⟨y0, y1, y2, y3, y4, y5, m, h0, h1, h2, h3, h4, h5⟩ := trod_struct6 Try.underlying39 h
  rw [show Try.prog.cellsOf 36 = 1 from by kernel_rfl] at h0
  rw [show Try.prog.cellsOf 3 = 1 from by kernel_rfl] at h1 h2
  rw [show Try.prog.cellsOf 9 = 1 from by kernel_rfl] at h3 h4 h5
  simp only [List.drop_zero, List.drop_succ_cons, List.take_succ_cons, List.take_zero] at h0 h1 h2 h3 h4 h5
  obtain ⟨k0, e0, _, _⟩ := DataW.trod_int Try.underlying36 h0
  obtain ⟨k1, e1, _, _⟩ := DataW.trod_int Try.underlying3 h1
  obtain ⟨k2, e2, _, _⟩ := DataW.trod_int Try.underlying3 h2
  obtain ⟨s3, e3, _, _⟩ := DataW.trod_string Try.underlying9 h3
  obtain ⟨s4, e4, _, _⟩ := DataW.trod_string Try.underlying9 h4
  obtain ⟨s5, e5, _, _⟩ := DataW.trod_string Try.underlying9 h5
  simp only [List.cons.injEq, and_true] at e0 e1 e2 e3 e4 e5
  exact ⟨⟨k0, k1, k2, s3, s4, s5⟩, by rw [e0, e1, e2, e3, e4, e5]; rfl⟩

set_option maxRecDepth 100000 in
theorem say_read {H : Type} {enc : TypeId × Value → H} {W : World} (n : Nat) (cs : List Value) (d : DataW H) (pl : List MemPlace) (h : DataW.trod enc Try.prog W 0 (fun _ => true) true n 58 cs = some (d, pl)) (hl : cs.length = 6) :
    ∃ x : SayV, cs = x.cells := by
  obtain ⟨c0, c1, c2, c3, c4, c5, rfl⟩ : ∃ c0 c1 c2 c3 c4 c5, cs = [c0, c1, c2, c3, c4, c5] := by
    match cs, hl with
    | [c0, c1, c2, c3, c4, c5], _ => exact ⟨c0, c1, c2, c3, c4, c5, rfl⟩
  obtain ⟨y0, y1, y2, y3, y4, y5, m, h0, h1, h2, h3, h4, h5⟩ := trod_struct6 Try.underlying58 h
  rw [show Try.prog.cellsOf 5 = 1 from by kernel_rfl] at h0 h1 h2 h3 h4 h5
  simp only [List.drop_zero, List.drop_succ_cons, List.take_succ_cons, List.take_zero] at h0 h1 h2 h3 h4 h5
  obtain ⟨k0, e0, _, w0⟩ := DataW.trod_int Try.underlying5 h0
  obtain ⟨k1, e1, _, w1⟩ := DataW.trod_int Try.underlying5 h1
  obtain ⟨k2, e2, _, w2⟩ := DataW.trod_int Try.underlying5 h2
  obtain ⟨k3, e3, _, w3⟩ := DataW.trod_int Try.underlying5 h3
  obtain ⟨k4, e4, _, w4⟩ := DataW.trod_int Try.underlying5 h4
  obtain ⟨k5, e5, _, w5⟩ := DataW.trod_int Try.underlying5 h5
  simp only [List.cons.injEq, and_true] at e0 e1 e2 e3 e4 e5
  obtain ⟨z0, rfl⟩ := open_byte w0
  obtain ⟨z1, rfl⟩ := open_byte w1
  obtain ⟨z2, rfl⟩ := open_byte w2
  obtain ⟨z3, rfl⟩ := open_byte w3
  obtain ⟨z4, rfl⟩ := open_byte w4
  obtain ⟨z5, rfl⟩ := open_byte w5
  exact ⟨⟨z0, z1, z2, z3, z4, z5⟩, by rw [e0, e1, e2, e3, e4, e5]; rfl⟩

set_option maxRecDepth 100000 in
theorem entry_read {H : Type} {enc : TypeId × Value → H} {W : World} (n : Nat) (cs : List Value) (d : DataW H) (pl : List MemPlace) (h : DataW.trod enc Try.prog W 0 (fun _ => true) true n 41 cs = some (d, pl)) (hl : cs.length = 8) :
    ∃ x : EntryV, cs = x.cells := by
  obtain ⟨c0, c1, c2, c3, c4, c5, c6, c7, rfl⟩ : ∃ c0 c1 c2 c3 c4 c5 c6 c7, cs = [c0, c1, c2, c3, c4, c5, c6, c7] := by
    match cs, hl with
    | [c0, c1, c2, c3, c4, c5, c6, c7], _ => exact ⟨c0, c1, c2, c3, c4, c5, c6, c7, rfl⟩
  obtain ⟨y0, y1, y2, m, _, _, h0, h1, h2⟩ := Deep.trod_struct3 Try.underlying41 h
  rw [show Try.prog.cellsOf 3 = 1 from by kernel_rfl] at h0 h1
  rw [show Try.prog.cellsOf 39 = 6 from by kernel_rfl] at h2
  simp only [List.drop_zero, List.drop_succ_cons, List.take_succ_cons, List.take_zero] at h0 h1 h2
  obtain ⟨k0, e0, _, _⟩ := DataW.trod_int Try.underlying3 h0
  obtain ⟨k1, e1, _, _⟩ := DataW.trod_int Try.underlying3 h1
  obtain ⟨c, hc⟩ := cmd_read m _ y2.1 y2.2 h2 rfl
  simp only [List.cons.injEq, and_true] at e0 e1
  refine ⟨⟨k0, k1, c⟩, ?_⟩
  rw [e0, e1]
  unfold EntryV.cells
  unfold CmdV.cells at hc
  simp only [List.cons.injEq, and_true] at hc ⊢
  exact ⟨trivial, trivial, hc⟩

set_option maxRecDepth 100000 in
theorem open_cmd {H : Type} {enc : TypeId × Value → H} {W : World} {base : Nat} {v : Value} {d : DataW H} {p : List MemPlace} (hv : Value.okWide Try.prog W .any base 39 v) (h : DataW.Trod enc Try.prog W 0 (fun _ => true) true 39 v d p) : ∃ x : CmdV, v = x.val := by
  obtain ⟨cs, rfl, hsz⟩ := okWide_struct Try.underlying39 hv
  rw [show Try.prog.cellsOf 39 = 6 from by kernel_rfl] at hsz
  obtain ⟨m, hm⟩ := h
  obtain ⟨x, hx⟩ := cmd_read m _ _ _ hm (by simpa [Value.cells] using hsz)
  have hx' : cs.toList = x.cells := by simpa [Value.cells] using hx
  exact ⟨x, by unfold CmdV.val; congr 1; apply Array.toList_inj.1; rw [hx']; rfl⟩
set_option maxRecDepth 100000 in
theorem open_say {H : Type} {enc : TypeId × Value → H} {W : World} {base : Nat} {v : Value} {d : DataW H} {p : List MemPlace} (hv : Value.okWide Try.prog W .any base 58 v) (h : DataW.Trod enc Try.prog W 0 (fun _ => true) true 58 v d p) : ∃ x : SayV, v = x.val := by
  obtain ⟨cs, rfl, hsz⟩ := okWide_struct Try.underlying58 hv
  rw [show Try.prog.cellsOf 58 = 6 from by kernel_rfl] at hsz
  obtain ⟨m, hm⟩ := h
  obtain ⟨x, hx⟩ := say_read m _ _ _ hm (by simpa [Value.cells] using hsz)
  have hx' : cs.toList = x.cells := by simpa [Value.cells] using hx
  exact ⟨x, by unfold SayV.val; congr 1; apply Array.toList_inj.1; rw [hx']; rfl⟩
set_option maxRecDepth 100000 in
theorem open_entry {H : Type} {enc : TypeId × Value → H} {W : World} {base : Nat} {v : Value} {d : DataW H} {p : List MemPlace} (hv : Value.okWide Try.prog W .any base 41 v) (h : DataW.Trod enc Try.prog W 0 (fun _ => true) true 41 v d p) : ∃ x : EntryV, v = x.val := by
  obtain ⟨cs, rfl, hsz⟩ := okWide_struct Try.underlying41 hv
  rw [show Try.prog.cellsOf 41 = 8 from by kernel_rfl] at hsz
  obtain ⟨m, hm⟩ := h
  obtain ⟨x, hx⟩ := entry_read m _ _ _ hm (by simpa [Value.cells] using hsz)
  have hx' : cs.toList = x.cells := by simpa [Value.cells] using hx
  exact ⟨x, by unfold EntryV.val; congr 1; apply Array.toList_inj.1; rw [hx']; rfl⟩

set_option maxRecDepth 100000 in
theorem open_says {H : Type} {enc : TypeId × Value → H} {W : World} {a : Option Addr} {len cap : Nat} {d : DataW H} {p : List MemPlace} (h : ∃ fuel, DataW.trod enc Try.prog W 0 (fun _ => true) true fuel 22 [.slice a len cap] = some (d, p)) :
    ∃ xs : List SayV, xs.length = len ∧ len ≤ cap ∧ cap ≤ maxLen ∧ Lies W (fun i => i < W.heap.size) a (sayCells xs) := by
  obtain ⟨xs, h1, h2, h3, h4, _⟩ := open_slice_of SayV.cells (fun _ _ => True) (size := 6) (by decide) (fun _ => rfl) Try.underlying22 (by kernel_rfl) (fun n cs d pl h hl => by obtain ⟨x, hx⟩ := say_read n cs d pl h hl; exact ⟨x, hx, trivial⟩) h
  exact ⟨xs, h1, h2, h3, h4⟩
set_option maxRecDepth 100000 in
theorem open_ents {H : Type} {enc : TypeId × Value → H} {W : World} {a : Option Addr} {len cap : Nat} {d : DataW H} {p : List MemPlace} (h : ∃ fuel, DataW.trod enc Try.prog W 0 (fun _ => true) true fuel 34 [.slice a len cap] = some (d, p)) :
    ∃ xs : List EntryV, xs.length = len ∧ len ≤ cap ∧ cap ≤ maxLen ∧ Lies W (fun i => i < W.heap.size) a (entCells xs) := by
  obtain ⟨xs, h1, h2, h3, h4, _⟩ := open_slice_of EntryV.cells (fun _ _ => True) (size := 8) (by decide) (fun _ => rfl) Try.underlying34 (by kernel_rfl) (fun n cs d pl h hl => by obtain ⟨x, hx⟩ := entry_read n cs d pl h hl; exact ⟨x, hx, trivial⟩) h
  exact ⟨xs, h1, h2, h3, h4⟩

end Go.Proofs.Ytgmjnjbmolalmaa
