/-
  Where a key's place is, by keys on both sides. No statement is proved here.
-/
import Derived.Test.YtohanlhfbfodlaaL5Of
namespace Go.Proofs.Ytohanlhfbfodlaa
open Srt

theorem at_pos {L : List (Int × Int)} (hu : Up L) {k : Nat} {fr : Int} (hk : k ≤ L.length) (hlo : ∀ j z, j < k → (L.map Prod.fst)[j]? = some z → z < fr) (hhi : ∀ z, (L.map Prod.fst)[k]? = some z → ¬ z < fr) : k = pos L fr := by
  rcases Nat.lt_trichotomy k (pos L fr) with h | h | h
  · have hl := pos_le L fr
    obtain ⟨p, hp⟩ : ∃ p, L[k]? = some p := ⟨L[k]'(by omega), List.getElem?_eq_getElem _⟩
    have := pos_below h hp
    exact absurd (by simpa [Tot.lt] using this) (hhi p.1 (by simp [hp]))
  · exact h
  · obtain ⟨p, hp⟩ : ∃ p, L[pos L fr]? = some p := ⟨L[pos L fr]'(by omega), List.getElem?_eq_getElem _⟩
    have h1 := pos_above hu (Nat.le_refl _) hp
    have h2 := hlo _ p.1 h (by simp [hp])
    simp [Tot.lt] at h1
    omega
end Go.Proofs.Ytohanlhfbfodlaa
