/-
  Three deltas, whichever two are joined first: plain mathematics. No statement is proved here.
-/
import Derived.Test.YtfcpofobdlgbbaaL8Join
namespace Go.Proofs.Ytfcpofobdlgbbaa
open Go.RowKit Tot

theorem delta_bytes {d : DltV} (h : d.Right) : d.bytes.length ≤ 1000000 := by
  have h1 := flatMap_bound prB 41 d.pairs (fun p hp => by rw [prB_length]; have := h.2.2.2.1.2 p hp; unfold PairOk at this; omega)
  have h2 := flatMap_bound snB 48 d.sess (fun x hx => by rw [snB_length]; have := h.2.2.2.2.2 x hx; unfold SessOk at this; omega)
  have h3 := h.2.2.1
  have h4 := sess_len h.2.2.2.2
  unfold DltV.bytes
  rw [List.length_append, List.length_append, List.length_append, be8_length, be8_length, be8_length, rowsB_length]
  omega
/-- All three. -/
def eOf (s0 s1 s2 s3 : StV) : DltV := ⟨s0.index, s3.index, s3.term, Srt.mrg (Srt.mrg (betweenP s0.pairs s1.pairs) (betweenP s1.pairs s2.pairs)) (betweenP s2.pairs s3.pairs), s3.sess⟩
theorem join_left {s0 s1 s2 s3 : StV} (h1 : Chain s0 s1) (h2 : Chain s1 s2) (h3 : Chain s2 s3) : joinV (cOf s0 s1 s2) (dOf s2 s3) = (eOf s0 s1 s2 s3, 0) ∧ (eOf s0 s1 s2 s3).Right := by
  have l1 := dOf_len h1
  have l2 := dOf_len h2
  have l3 := dOf_len h3
  have l4 := Srt.mrg_len (dOf s0 s1).pairs (dOf s1 s2).pairs
  have l5 := Srt.mrg_len (cOf s0 s1 s2).pairs (dOf s2 s3).pairs
  have l6 : (cOf s0 s1 s2).pairs.length ≤ (dOf s0 s1).pairs.length + (dOf s1 s2).pairs.length := l4
  have l7 : (eOf s0 s1 s2 s3).pairs.length ≤ 384 := by
    have : (eOf s0 s1 s2 s3).pairs.length ≤ (cOf s0 s1 s2).pairs.length + (dOf s2 s3).pairs.length := l5
    omega
  refine ⟨?_, ?_⟩
  · unfold joinV
    rw [if_neg (by have := h3.term; show ¬ (s2.index ≠ s2.index ∨ s3.term < s2.term); omega), if_neg (by omega)]
    rfl
  · have i1 := h1.index
    have i2 := h2.index
    have i3 := h3.index
    exact ⟨⟨h1.rs.1.1, by show s0.index ≤ s3.index; omega, h3.rt.1.2⟩, h3.rt.2.1, by show ((eOf s0 s1 s2 s3).pairs.length : Int) ≤ 512; omega, mrg_ok (mrg_ok (between_ok h1.rs.pok h1.rt.pok) (between_ok h2.rs.pok h2.rt.pok)) (between_ok h3.rs.pok h3.rt.pok), h3.rt.sok⟩
theorem join_right {s0 s1 s2 s3 : StV} (h1 : Chain s0 s1) (h2 : Chain s1 s2) (h3 : Chain s2 s3) : joinV (dOf s0 s1) (cOf s1 s2 s3) = (eOf s0 s1 s2 s3, 0) := by
  have l1 := dOf_len h1
  have l2 := dOf_len h2
  have l3 := dOf_len h3
  have l4 := Srt.mrg_len (dOf s1 s2).pairs (dOf s2 s3).pairs
  have l5 := Srt.mrg_len (dOf s0 s1).pairs (cOf s1 s2 s3).pairs
  have l6 : (cOf s1 s2 s3).pairs.length ≤ (dOf s1 s2).pairs.length + (dOf s2 s3).pairs.length := l4
  unfold joinV
  rw [if_neg (by have := h2.term; have := h3.term; show ¬ (s1.index ≠ s1.index ∨ s3.term < s1.term); omega), if_neg (by omega)]
  unfold eOf
  rw [mrg_assoc (up_between h1.rs.up h1.rt.up) (up_between h2.rs.up h2.rt.up) (up_between h3.rs.up h3.rt.up)]
  rfl
/-- A state behind more entries. -/
theorem chain_more {s : StV} (hs : s.Right) (h0 : s.index ≤ 80) (h1 : s.term ≤ 80) (more : List SayV) : Chain s (foldV s (entsOf (more.take 80) (s.index + 1) s.term)) := by
  have hl : (more.take 80).length ≤ 80 := by rw [List.length_take]; omega
  have := hs.1.1
  have := hs.2.1.1
  exact chain_of hs (rowB_ents (more.take 80) (s.index + 1) s.term s.term (Int.le_refl _) (by omega) (by omega) (by omega) (by omega))
end Go.Proofs.Ytfcpofobdlgbbaa
