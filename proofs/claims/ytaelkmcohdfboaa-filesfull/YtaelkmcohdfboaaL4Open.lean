/-
  Rows of bytes that came in as an argument. No statement is proved here.
-/
import Derived.Test.YtaelkmcohdfboaaL4Full
import Derived.Test.YtaelkmcohdfboaaOpen
namespace Go.Proofs.Ytaelkmcohdfboaa
open Go.ChangeShapes Go.WideShapes Go.ChangeAt Go.RowKit

theorem open_rows {H : Type} {enc : TypeId × Value → H} {W : World} {a : Option Addr} {len cap : Nat} {d : DataW H} {p : List MemPlace}
    (h : ∃ fuel, DataW.trod enc Try.prog W 0 (fun _ => true) true fuel 61 [.slice a len cap] = some (d, p)) :
    ∃ xs : List Row, xs.length = len ∧ len ≤ cap ∧ cap ≤ maxLen ∧ Lies W (fun i => i < W.heap.size) a (xs.map Row.val) ∧ (∀ x ∈ xs, x.lies (fun i => i < W.heap.size) W) ∧ (∀ x ∈ xs, x.row.length ≤ 9223372036854775807) := by
  have key := open_slice_of (P := Try.prog) (W := W) (enc := enc) (t := 61) (e := 32) (a := a) (len := len) (cap := cap) (size := 1) (d := d) (p := p) (fun x : Row => [x.val]) (fun _ x => x.lies (fun i => i < W.heap.size) W ∧ x.row.length ≤ 9223372036854775807)
    (by decide) (fun _ => rfl) Try.underlying61 (by kernel_rfl) (fun n cs d pl ht hcs => by
      match cs, hcs with
      | [v], _ =>
        obtain ⟨a', l', c', rfl⟩ : ∃ a' l' c', v = .slice a' l' c' := by
          rcases Deep.open_slice Try.underlying32 ht with ⟨h1, _⟩ | ⟨ad, l, c, m, n', D, Pl, h1, _⟩
          · simp at h1
            exact ⟨_, _, _, h1⟩
          · simp at h1
            exact ⟨_, _, _, h1⟩
        obtain ⟨l, hl, hlc, hcm, hlies⟩ := open_bytes (t := 32) Try.underlying32 Try.underlying5 (by kernel_rfl) ⟨n, ht⟩
        refine ⟨⟨a', c', l⟩, by simp [Row.val, hl], ⟨hlies, by show l.length ≤ c'; omega⟩, ?_⟩
        show l.length ≤ _
        unfold maxLen at hcm
        omega) h
  obtain ⟨xs, h1, h2, h3, h4, h5⟩ := key
  have hall : ∀ x ∈ xs, x.lies (fun i => i < W.heap.size) W ∧ x.row.length ≤ 9223372036854775807 := by
    intro x hx
    rcases h5 with ⟨_, rfl⟩ | ⟨elems, spare, _, _, h6⟩
    · cases hx
    · obtain ⟨i, hi⟩ := List.getElem?_of_mem hx
      obtain ⟨y, _, h7⟩ := h6 i x hi
      exact h7
  refine ⟨xs, h1, h2, h3, ?_, fun x hx => (hall x hx).1, fun x hx => (hall x hx).2⟩
  have e : ∀ l : List Row, l.flatMap (fun x : Row => [x.val]) = l.map Row.val := fun l => by
    induction l with
    | nil => rfl
    | cons y r ih => rw [List.flatMap_cons, ih]; rfl
  rw [e] at h4
  exact h4

end Go.Proofs.Ytaelkmcohdfboaa
