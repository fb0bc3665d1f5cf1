/-
  The walk of DeltaJoin. No statement is proved here.
-/
import Derived.Test.YtfcpofobdlgbbaaL8Use
import Derived.Test.YtfcpofobdlgbbaaL8Three
import Derived.Test.YtfcpofobdlgbbaaL8Values
import Derived.Test.YtfcpofobdlgbbaaTblRMP
import Derived.Test.YtfcpofobdlgbbaaL7Once
namespace Go.Proofs.Ytfcpofobdlgbbaa
open Go.RowKit Tot

/-- Two deltas as one. -/
def cOf (s0 s1 s2 : StV) : DltV := ⟨s0.index, s2.index, s2.term, Srt.mrg (betweenP s0.pairs s1.pairs) (betweenP s1.pairs s2.pairs), s2.sess⟩
theorem dOf_len {s t : StV} (h : Chain s t) : (dOf s t).pairs.length ≤ 128 := by
  have h1 := between_len s.pairs t.pairs
  have h2 := h.rs.len
  have h3 := h.rt.len
  show (betweenP s.pairs t.pairs).length ≤ 128
  omega
theorem join_chain {s0 s1 s2 : StV} (h1 : Chain s0 s1) (h2 : Chain s1 s2) : joinV (dOf s0 s1) (dOf s1 s2) = (cOf s0 s1 s2, 0) ∧ applyD s0 (cOf s0 s1 s2) = (s2, 0) ∧ (cOf s0 s1 s2).Right := by
  have l1 := dOf_len h1
  have l2 := dOf_len h2
  have l3 := Srt.mrg_len (dOf s0 s1).pairs (dOf s1 s2).pairs
  have u1 := up_between h1.rs.up h1.rt.up
  have u2 := up_between h2.rs.up h2.rt.up
  refine ⟨?_, ?_, ?_⟩
  · unfold joinV
    rw [if_neg (by have := h2.term; show ¬ (s1.index ≠ s1.index ∨ s2.term < s1.term); omega), if_neg (by omega)]
    rfl
  · unfold applyD cOf
    simp only
    rw [if_neg (by have := h1.term; have := h2.term; omega), do_join h1.rs.up u1 u2, do_between h1.rs.up h1.rt.up h1.rt.here, do_between h2.rs.up h2.rt.up h2.rt.here, if_neg (by have := h2.rt.len; omega)]
  · have i1 := h1.index
    have i2 := h2.index
    exact ⟨⟨h1.rs.1.1, by show s0.index ≤ s2.index; omega, h2.rt.1.2⟩, h2.rt.2.1, by show ((Srt.mrg (betweenP s0.pairs s1.pairs) (betweenP s1.pairs s2.pairs)).length : Int) ≤ 512; change (Srt.mrg (betweenP s0.pairs s1.pairs) (betweenP s1.pairs s2.pairs)).length ≤ _ at l3; omega, mrg_ok (between_ok h1.rs.pok h1.rt.pok) (between_ok h2.rs.pok h2.rt.pok), h2.rt.sok⟩
/-- Two deltas the other way round. -/
theorem join_back {s0 s1 s2 : StV} (h1 : Chain s0 s1) (h2 : Chain s1 s2) : ∃ (d : DltV) (x : Int), joinV (dOf s1 s2) (dOf s0 s1) = (d, x) ∧ (x == 0) = ((s2.index == s0.index) && decide (s2.term ≤ s1.term)) := by
  have l1 := dOf_len h1
  have l2 := dOf_len h2
  have l3 := Srt.mrg_len (dOf s1 s2).pairs (dOf s0 s1).pairs
  unfold joinV
  by_cases h : (dOf s1 s2).to_ ≠ (dOf s0 s1).from_ ∨ (dOf s0 s1).term < (dOf s1 s2).term
  · rw [if_pos h]
    refine ⟨_, _, rfl, ?_⟩
    have h : s2.index ≠ s0.index ∨ s1.term < s2.term := h
    rcases h with h | h
    · have : (s2.index == s0.index) = false := by simpa using h
      rw [this]; rfl
    · have : decide (s2.term ≤ s1.term) = false := decide_eq_false (by omega)
      rw [this, Bool.and_false]; rfl
  · rw [if_neg h, if_neg (by omega)]
    refine ⟨_, _, rfl, ?_⟩
    have h : ¬ (s2.index ≠ s0.index ∨ s1.term < s2.term) := h
    have e1 : s2.index = s0.index := by omega
    have e2 : decide (s2.term ≤ s1.term) = true := decide_eq_true (by omega)
    rw [e1, e2]
    simp
theorem keys_small {ps : Prs} (h : PairsOk ps) : ∀ p ∈ ps, p.1.size ≤ maxLen := fun p hp => by
  have := (h.2 p hp).2.1
  unfold maxLen
  omega
end Go.Proofs.Ytfcpofobdlgbbaa
