/-
  What is known of the states that the statements of layer 7 draw: plain mathematics. No statement is proved here.
-/
import Derived.Test.YtgmjnjbmolalmaaL7Some
namespace Go.Proofs.Ytgmjnjbmolalmaa
open Go.RowKit Tot

theorem look_put {α β : Type} [Tot α] {L : List (α × β)} (hu : Srt.Up L) (k : α) (v : β) : Srt.look (Srt.put L k v) k = some v :=
  Srt.look_of_mem (Srt.up_put hu k v) ((Srt.mem_put hu k v (k, v)).2 (.inl rfl))
theorem look_put_ne {α β : Type} [Tot α] {L : List (α × β)} (hu : Srt.Up L) {k j : α} (v : β) (hj : j ≠ k) : Srt.look (Srt.put L k v) j = Srt.look L j := by
  cases h : Srt.look L j with
  | some x => exact Srt.look_of_mem (Srt.up_put hu k v) ((Srt.mem_put hu k v (j, x)).2 (.inr ⟨Srt.mem_of_look h, hj⟩))
  | none =>
    refine Srt.look_none_of fun p hp e => ?_
    rcases (Srt.mem_put hu k v p).1 hp with h1 | ⟨h1, _⟩
    · rw [h1] at e; exact hj e.symm
    · have := Srt.look_of_mem hu (k := p.1) (v := p.2) h1
      rw [e, h] at this
      cases this
theorem look_del {α β : Type} [Tot α] {L : List (α × β)} (hu : Srt.Up L) (k : α) : Srt.look (Srt.del L k) k = none :=
  Srt.look_none_of fun p hp e => ((Srt.mem_del hu k p).1 hp).2 e
theorem look_del_ne {α β : Type} [Tot α] {L : List (α × β)} (hu : Srt.Up L) {k j : α} (hj : j ≠ k) : Srt.look (Srt.del L k) j = Srt.look L j := by
  cases h : Srt.look L j with
  | some x => exact Srt.look_of_mem (Srt.up_del hu k) ((Srt.mem_del hu k (j, x)).2 ⟨Srt.mem_of_look h, hj⟩)
  | none =>
    refine Srt.look_none_of fun p hp e => ?_
    have := Srt.look_of_mem hu (k := p.1) (v := p.2) ((Srt.mem_del hu k p).1 hp).1
    rw [e, h] at this
    cases this

/-- An entry that is the next one. -/
structure NextE (s : StV) (e : EntryV) : Prop where
  right : e.Right
  index : e.index = s.index + 1
  term : s.term ≤ e.term
theorem stepV_next {s : StV} {e : EntryV} (h : NextE s e) : stepV s e = if e.cmd.op = 0 then ({ s with index := e.index, term := e.term }, told 0) else onceV { s with index := e.index, term := e.term } e.cmd := by
  unfold stepV
  rw [if_neg (by simpa using h.right), if_neg (by have := h.index; have := h.term; omega)]
theorem onceV_head (s : StV) (c : CmdV) : (onceV s c).1.index = s.index ∧ (onceV s c).1.term = s.term := by
  unfold onceV
  cases Srt.look s.sess c.client with
  | none => exact ⟨rfl, rfl⟩
  | some q =>
    simp only
    split
    · exact ⟨rfl, rfl⟩
    · split
      · exact ⟨rfl, rfl⟩
      · exact ⟨rfl, rfl⟩
theorem stepV_head {s : StV} {e : EntryV} (h : NextE s e) : (stepV s e).1.index = e.index ∧ (stepV s e).1.term = e.term := by
  rw [stepV_next h]
  split
  · exact ⟨rfl, rfl⟩
  · exact onceV_head _ _
theorem actV_seq {s : StV} {c : CmdV} {M : Int} (hu : Srt.Up s.sess) (h : ∀ x ∈ s.sess, x.2.1 < M) (hc : c.seq < M) : ∀ x ∈ (actV s c).1.sess, x.2.1 < M := by
  intro x hx
  rcases (Srt.mem_put hu _ _ x).1 hx with rfl | ⟨h1, _⟩
  · exact hc
  · exact h x h1
theorem stepV_seq {s : StV} {e : EntryV} {M : Int} (hs : s.Right) (h : ∀ x ∈ s.sess, x.2.1 < M) (hc : e.cmd.seq < M) : ∀ x ∈ (stepV s e).1.sess, x.2.1 < M := by
  unfold stepV
  split
  · exact h
  · split
    · exact h
    · split
      · exact h
      · unfold onceV
        cases Srt.look s.sess e.cmd.client with
        | none => exact actV_seq (s := { s with index := e.index, term := e.term }) hs.ups h hc
        | some q =>
          simp only
          split
          · exact h
          · split
            · exact h
            · exact actV_seq (s := { s with index := e.index, term := e.term }) hs.ups h hc
/-- Behind the entries of says. -/
theorem foldV_says (ss : List SayV) (i t : Int) (s : StV) (hs : s.Right) (hi : s.index + 1 = i) (h1 : 1 ≤ i) (h2 : i + ss.length ≤ 1000000) (ht : s.term ≤ t) (h3 : 0 ≤ t) (h4 : t + ss.length ≤ 1000000) (hq : ∀ x ∈ s.sess, x.2.1 < 40) :
    (foldV s (entsOf ss i t)).index = s.index + ss.length ∧ s.term ≤ (foldV s (entsOf ss i t)).term ∧ ((foldV s (entsOf ss i t)).term ≤ t + ss.length) ∧ ∀ x ∈ (foldV s (entsOf ss i t)).sess, x.2.1 < 40 := by
  induction ss generalizing i t s with
  | nil => refine ⟨by simp [entsOf, foldV], by simp [entsOf, foldV], by simp [entsOf, foldV]; omega, hq⟩
  | cons q r ih =>
    have hb := bump_bounds q t
    rw [List.length_cons] at h2 h4
    have hn : NextE s ⟨i, bump q t, q.cmd⟩ := ⟨⟨h1, by show i ≤ 1048576; omega, by show 0 ≤ bump q t; omega, by show bump q t ≤ 1048576; omega, q.may⟩, hi.symm, by show s.term ≤ bump q t; omega⟩
    obtain ⟨e1, e2⟩ := stepV_head hn
    have hsq : q.cmd.seq < 40 := by
      unfold SayV.cmd
      split
      · decide
      · show ((q.seq.toNat % 40 : Nat) : Int) < 40
        omega
    have hq' := stepV_seq (e := ⟨i, bump q t, q.cmd⟩) hs hq hsq
    have := ih (i + 1) (bump q t) (stepV s ⟨i, bump q t, q.cmd⟩).1 (stepV_right hs _) (by rw [e1]) (by omega) (by omega) (by rw [e2]; exact Int.le_refl _) (by omega) (by omega) hq'
    have ef : foldV s (entsOf (q :: r) i t) = foldV (stepV s ⟨i, bump q t, q.cmd⟩).1 (entsOf r (i + 1) (bump q t)) := rfl
    rw [ef]
    obtain ⟨a1, a2, a3, a4⟩ := this
    rw [e1] at a1
    rw [e2] at a2
    simp only at a1 a2
    refine ⟨by rw [a1, List.length_cons]; omega, by omega, by rw [List.length_cons]; omega, a4⟩
theorem someV_facts (ss : List SayV) : (someV ss).index = (entsS ss).length ∧ 0 ≤ (someV ss).term ∧ (someV ss).term ≤ 80 ∧ ∀ x ∈ (someV ss).sess, x.2.1 < 40 := by
  have hl : (ss.take 80).length ≤ 80 := by rw [List.length_take]; omega
  have h := foldV_says (ss.take 80) 1 0 noState noState_right rfl (by omega) (by omega) (by show (0 : Int) ≤ 0; omega) (by omega) (by omega) (by unfold noState; simp)
  unfold someV entsS
  refine ⟨?_, h.2.1, by omega, h.2.2.2⟩
  rw [h.1, entsOf_length]
  show (0 : Int) + _ = _
  omega

/-- A command of a client with a number that is greater than all before. -/
theorem onceV_new {s : StV} {c : CmdV} (h : ∀ x ∈ s.sess, x.2.1 < c.seq) : onceV s c = actV s c := by
  unfold onceV
  cases hk : Srt.look s.sess c.client with
  | none => rfl
  | some q =>
    have := h _ (Srt.mem_of_look hk)
    simp only at this
    simp only
    rw [if_neg (by omega), if_neg (by omega)]
theorem stepV_new {s : StV} {e : EntryV} (hn : NextE s e) (h0 : e.cmd.op ≠ 0) (h : ∀ x ∈ s.sess, x.2.1 < e.cmd.seq) : stepV s e = (⟨e.index, e.term, (doV s.pairs e.cmd).1, Srt.put s.sess e.cmd.client (e.cmd.seq, (doV s.pairs e.cmd).2)⟩, (doV s.pairs e.cmd).2) := by
  rw [stepV_next hn, if_neg h0, onceV_new (s := { s with index := e.index, term := e.term }) h]
  rfl
theorem stepV_again {s : StV} {e : EntryV} {r : RepV} (hn : NextE s e) (h0 : e.cmd.op ≠ 0) (h : Srt.look s.sess e.cmd.client = some (e.cmd.seq, r)) : stepV s e = ({ s with index := e.index, term := e.term }, r) := by
  rw [stepV_next hn, if_neg h0]
  unfold onceV
  simp only [h]
  rw [if_pos trivial]
theorem stepV_old {s : StV} {e : EntryV} {q : Int} {r : RepV} (hn : NextE s e) (h0 : e.cmd.op ≠ 0) (h : Srt.look s.sess e.cmd.client = some (q, r)) (hq : e.cmd.seq < q) : stepV s e = ({ s with index := e.index, term := e.term }, told 12) := by
  rw [stepV_next hn, if_neg h0]
  unfold onceV
  simp only [h]
  rw [if_neg (by omega), if_pos hq]
end Go.Proofs.Ytgmjnjbmolalmaa
