/-
  Several texts, one behind the other. No statement is proved here.
-/
import Derived.Test.YtjijdkdpmbfdmaaMem
/-
  A row that grew. No statement is proved here.
-/
namespace Go.Proofs.Ytjijdkdpmbfdmaa
open Go.RowKit

/-- What became of a row that grew: all else is as it was; it lies in its old block, or in a new one. -/
structure Grew (w w' : World) (v v' : Value) : Prop where
  kept : Kept (fun k => v.ownBlock = some k) w w'
  at_ : ∀ k, v'.ownBlock = some k → v.ownBlock = some k ∨ fresh w w' k
theorem Grew.refl (w : World) (v : Value) : Grew w w v v := ⟨Kept.refl _ _, fun _ h => .inl h⟩
theorem Grew.trans {a b c : World} {u v x : Value} (h : Grew a b u v) (k : Grew b c v x) : Grew a c u x := by
  refine ⟨h.kept.trans k.kept (fun i hi hv => ?_), fun i hi => ?_⟩
  · rcases h.at_ i hv with h1 | h1
    · exact h1
    · exact absurd h1.1 (by omega)
  · rcases k.at_ i hi with h1 | h1
    · rcases h.at_ i h1 with h2 | h2
      · exact .inl h2
      · exact .inr ⟨h2.1, Nat.lt_of_lt_of_le h2.2 k.kept.size⟩
    · exact .inr ⟨Nat.le_trans h.kept.size h1.1, h1.2⟩
/-- Behind steps that only made new blocks. -/
theorem Grew.after {a b c : World} {u v : Value} (k : Kept noBlock a b) (h : Grew b c u v) : Grew a c u v :=
  ⟨(k.mono (fun _ _ h => h.elim)).step h.kept, fun i hi => (h.at_ i hi).imp id (fun h1 => ⟨Nat.le_trans k.size h1.1, h1.2⟩)⟩
theorem Grew.then_ {a b c : World} {u v : Value} (h : Grew a b u v) (k : Kept noBlock b c) : Grew a c u v :=
  ⟨h.kept.trans k (fun _ _ h => h.elim), fun i hi => (h.at_ i hi).imp id (fun h1 => ⟨h1.1, Nat.lt_of_lt_of_le h1.2 k.size⟩)⟩
/-- A row that grew out of nothing, or out of one that came since. -/
theorem Grew.new {a b c : World} {u v : Value} (h : Grew b c u v) (k : Kept noBlock a b) (hu : ∀ i, u.ownBlock = some i → a.heap.size ≤ i) : Kept noBlock a c ∧ ∀ i, v.ownBlock = some i → a.heap.size ≤ i := by
  refine ⟨k.trans h.kept (fun i hi h1 => absurd (hu i h1) (by omega)), fun i hi => ?_⟩
  rcases h.at_ i hi with h1 | h1
  · exact hu i h1
  · exact Nat.le_trans k.size h1.1
end Go.Proofs.Ytjijdkdpmbfdmaa
