/-
  Several texts, one behind the other. No statement is proved here.
-/
import Derived.Test.YthmjjhjblokjeaaGreatSrt
import Derived.Test.YthmjjhjblokjeaaGreatStt
/-
  Two rows that rise, as one: of a key that is in both the second one's value. No statement is proved here.
-/
namespace Go.Proofs.YthmjjhjblokjeaaGreat.Srt
variable {α β : Type} [Tot α]
open Tot

/-- What is left of the second row behind a key. -/
def past (R : List (α × β)) (k : α) : List (α × β) := R.drop (pos R k + if has R k = true then 1 else 0)
def mrg : List (α × β) → List (α × β) → List (α × β)
  | [], R => R
  | p :: A, R => R.take (pos R p.1) ++ (p.1, (look R p.1).getD p.2) :: mrg A (past R p.1)
def rst : List (α × β) → List (α × β) → List (α × β)
  | [], R => R
  | p :: A, R => rst A (past R p.1)
def emt : List (α × β) → List (α × β) → List (α × β)
  | [], _ => []
  | p :: A, R => R.take (pos R p.1) ++ (p.1, (look R p.1).getD p.2) :: emt A (past R p.1)
theorem mrg_append (P S R : List (α × β)) : mrg (P ++ S) R = emt P R ++ mrg S (rst P R) := by
  induction P generalizing R with
  | nil => rfl
  | cons p r ih => simp [mrg, emt, rst, ih]
theorem emt_snoc (P R : List (α × β)) (x : α × β) : emt (P ++ [x]) R = emt P R ++ ((rst P R).take (pos (rst P R) x.1) ++ [(x.1, (look (rst P R) x.1).getD x.2)]) := by
  induction P generalizing R with
  | nil => simp [emt, rst]
  | cons p r ih => simp [emt, rst, ih]
theorem rst_snoc (P R : List (α × β)) (x : α × β) : rst (P ++ [x]) R = past (rst P R) x.1 := by
  induction P generalizing R with
  | nil => rfl
  | cons p r ih => simp [rst, ih]
theorem Up.drop {L : List (α × β)} (h : Up L) (n : Nat) : Up (L.drop n) := h.sub (List.drop_sublist n L)
theorem up_past {R : List (α × β)} (h : Up R) (k : α) : Up (past R k) := h.drop _
theorem up_rst {R : List (α × β)} (h : Up R) (P : List (α × β)) : Up (rst P R) := by
  induction P generalizing R with
  | nil => exact h
  | cons p r ih => exact ih (up_past h p.1)
theorem past_len (R : List (α × β)) (k : α) : (past R k).length ≤ R.length := by unfold past; rw [List.length_drop]; omega
theorem rst_len (P R : List (α × β)) : (rst P R).length ≤ R.length := by
  induction P generalizing R with
  | nil => exact Nat.le_refl _
  | cons p r ih => exact Nat.le_trans (ih _) (past_len R p.1)
theorem mem_split {R : List (α × β)} (hu : Up R) (k : α) (x : α × β) : x ∈ R ↔ x ∈ R.take (pos R k) ∨ (look R k = some x.2 ∧ x.1 = k) ∨ x ∈ past R k := by
  unfold past
  cases hh : has R k with
  | false =>
    have hl := (has_false R k).1 hh
    rw [hl, if_neg (by simp), Nat.add_zero]
    conv => lhs; rw [← List.take_append_drop (pos R k) R, List.mem_append]
    simp
  | true =>
    obtain ⟨v, hk, hl⟩ := has_at hu hh
    rw [if_pos rfl, hl]
    have hlt := has_lt hu hh
    have e : R = R.take (pos R k) ++ (k, v) :: R.drop (pos R k + 1) := by
      have h2 : R[pos R k] = (k, v) := by rw [List.getElem?_eq_getElem hlt] at hk; injection hk
      rw [← h2, List.getElem_cons_drop, List.take_append_drop]
    conv => lhs; rw [e, List.mem_append, List.mem_cons]
    obtain ⟨x1, x2⟩ := x
    simp only [Prod.mk.injEq, Option.some.injEq]
    constructor
    · rintro (h | ⟨h1, h2⟩ | h)
      · exact .inl h
      · exact .inr (.inl ⟨h2.symm, h1⟩)
      · exact .inr (.inr h)
    · rintro (h | ⟨h1, h2⟩ | h)
      · exact .inl h
      · exact .inr (.inl ⟨h2, h1.symm⟩)
      · exact .inr (.inr h)
theorem take_lt {R : List (α × β)} {k : α} {x : α × β} (h : x ∈ R.take (pos R k)) : lt x.1 k = true := by
  obtain ⟨m, hm⟩ := List.getElem?_of_mem h
  rw [List.getElem?_take] at hm
  split at hm
  · rename_i h1
    exact pos_below h1 hm
  · cases hm
theorem past_gt {R : List (α × β)} (hu : Up R) {k : α} {x : α × β} (h : x ∈ past R k) : lt k x.1 = true := by
  unfold past at h
  obtain ⟨m, hm⟩ := List.getElem?_of_mem h
  rw [List.getElem?_drop] at hm
  cases hh : has R k with
  | false => exact has_not hu hh (by omega) hm
  | true =>
    obtain ⟨v, hk, _⟩ := has_at hu hh
    rw [hh, if_pos rfl] at hm
    exact hu.get (by omega) hk hm
theorem look_past {R : List (α × β)} (hu : Up R) {k j : α} (h : lt k j = true) : look (past R k) j = look R j := by
  refine look_ext (up_past hu k) fun v => ?_
  constructor
  · intro hm
    exact look_of_mem hu ((mem_split hu k _).2 (.inr (.inr hm)))
  · intro hl
    rcases (mem_split hu k _).1 (mem_of_look hl) with h1 | ⟨_, h1⟩ | h1
    · have := take_lt h1
      rw [asym h] at this
      cases this
    · simp only at h1
      rw [h1, irr] at h
      cases h
    · exact h1
theorem mem_mrg {A R : List (α × β)} (hA : Up A) (hR : Up R) (x : α × β) : x ∈ mrg A R ↔ x ∈ R ∨ (x ∈ A ∧ look R x.1 = none) := by
  induction A generalizing R with
  | nil => simp [mrg]
  | cons p A ih =>
    rw [mrg, List.mem_append, List.mem_cons, ih hA.tail (up_past hR p.1), mem_split hR p.1 x]
    constructor
    · rintro (h | h | h | ⟨h1, h2⟩)
      · exact .inl (.inl h)
      · subst h
        cases hl : look R p.1 with
        | none => exact .inr ⟨by simp, rfl⟩
        | some v => exact .inl (.inr (.inl ⟨by simp, rfl⟩))
      · exact .inl (.inr (.inr h))
      · rw [look_past hR (hA.head x h1)] at h2
        exact .inr ⟨by simp [h1], h2⟩
    · rintro ((h | ⟨h1, h2⟩ | h) | ⟨h1, h2⟩)
      · exact .inl h
      · refine .inr (.inl ?_)
        obtain ⟨x1, x2⟩ := x
        simp only at h1 h2
        rw [h1, h2]
        rfl
      · exact .inr (.inr (.inl h))
      · rcases List.mem_cons.1 h1 with rfl | h1
        · exact .inr (.inl (by rw [h2]; rfl))
        · exact .inr (.inr (.inr ⟨h1, by rw [look_past hR (hA.head x h1)]; exact h2⟩))
theorem up_mrg {A R : List (α × β)} (hA : Up A) (hR : Up R) : Up (mrg A R) := by
  induction A generalizing R with
  | nil => exact hR
  | cons p A ih =>
    rw [mrg]
    have hgt : ∀ q ∈ mrg A (past R p.1), lt p.1 q.1 = true := fun q hq => by
      rcases (mem_mrg hA.tail (up_past hR p.1) q).1 hq with h | ⟨h, _⟩
      · exact past_gt hR h
      · exact hA.head q h
    refine Up.append.2 ⟨hR.sub (List.take_sublist _ _), List.pairwise_cons.2 ⟨hgt, ih hA.tail (up_past hR p.1)⟩, fun x hx q hq => ?_⟩
    rcases List.mem_cons.1 hq with rfl | hq
    · exact take_lt hx
    · exact tr (take_lt hx) (hgt q hq)
theorem look_mrg {A R : List (α × β)} (hA : Up A) (hR : Up R) (k : α) : look (mrg A R) k = (look R k).or (look A k) := by
  refine look_ext (up_mrg hA hR) fun v => ?_
  rw [mem_mrg hA hR]
  constructor
  · rintro (h | ⟨h, h2⟩)
    · rw [look_of_mem hR h]; rfl
    · simp only at h2
      rw [h2, look_of_mem hA h]; rfl
  · intro h
    cases hl : look R k with
    | some u =>
      rw [hl] at h
      injection h with h
      subst h
      exact .inl (mem_of_look hl)
    | none =>
      rw [hl] at h
      exact .inr ⟨mem_of_look h, rfl⟩
theorem mrg_len (A R : List (α × β)) : (mrg A R).length ≤ A.length + R.length := by
  induction A generalizing R with
  | nil => simp [mrg]
  | cons p A ih =>
    rw [mrg]
    have := ih (past R p.1)
    have h2 : (past R p.1).length ≤ R.length - pos R p.1 := by unfold past; rw [List.length_drop]; omega
    have h3 := pos_le R p.1
    rw [List.length_append, List.length_take, List.length_cons, List.length_cons]
    omega
end Go.Proofs.YthmjjhjblokjeaaGreat.Srt

/-
  What changed between two states, in plain words: between, do, join: plain mathematics. No statement is proved here.
-/
namespace Go.Proofs.YthmjjhjblokjeaaGreat
open Go.RowKit Tot

theorem look_filter {α β : Type} [Tot α] {L : List (α × β)} (hu : Srt.Up L) (f : α × β → Bool) (k : α) : Srt.look (L.filter f) k = (Srt.look L k).bind fun v => if f (k, v) = true then some v else none := by
  refine Srt.look_ext (hu.sub (List.filter_sublist (l := L))) fun v => ?_
  rw [List.mem_filter]
  constructor
  · rintro ⟨h1, h2⟩
    rw [Srt.look_of_mem hu h1]
    simp [h2]
  · intro h
    cases hl : Srt.look L k with
    | none => rw [hl] at h; cases h
    | some u =>
      rw [hl] at h
      simp only [Option.bind_some] at h
      split at h
      · rename_i h1
        injection h with h
        subst h
        exact ⟨Srt.mem_of_look hl, h1⟩
      · cases h
/-- Each key with a value that hangs on it. -/
theorem look_keyed {α β γ : Type} [Tot α] (L : List (α × β)) (g : α → γ) (k : α) : Srt.look (L.map fun p => (p.1, g p.1)) k = (Srt.look L k).map fun _ => g k := by
  induction L with
  | nil => rfl
  | cons p r ih =>
    rw [List.map_cons, Srt.look_cons, Srt.look_cons, ih]
    simp only
    split
    · rename_i h
      rw [h]; rfl
    · rfl
theorem up_keyed {α β γ : Type} [Tot α] {L : List (α × β)} (h : Srt.Up L) (g : α × β → γ) : Srt.Up (L.map fun p => (p.1, g p)) := by
  unfold Srt.Up at h ⊢
  rw [List.pairwise_map]
  exact h

/-- A delta. -/
structure DltV where
  from_ : Int
  to_ : Int
  term : Int
  pairs : Prs
  sess : Sns
def noDelta : DltV := ⟨0, 0, 0, [], []⟩
def goneV : ByteArray × Bool := (noText, true)
/-- No pair is gone. -/
def Here (ps : Prs) : Prop := ∀ p ∈ ps, p.2.2 = false
theorem Here.look {ps : Prs} (h : Here ps) {k : ByteArray} {v : ByteArray × Bool} (hl : Srt.look ps k = some v) : v.2 = false := h _ (Srt.mem_of_look hl)

/-- What changed, key by key. -/
def betweenP (A B : Prs) : Prs := ((Srt.mrg A B).filter fun p => !decide (Srt.look A p.1 = Srt.look B p.1)).map fun p => (p.1, (Srt.look B p.1).getD goneV)
theorem up_between {A B : Prs} (hA : Srt.Up A) (hB : Srt.Up B) : Srt.Up (betweenP A B) :=
  up_keyed ((Srt.up_mrg hA hB).sub (List.filter_sublist (l := Srt.mrg A B))) (fun p => (Srt.look B p.1).getD goneV)
theorem look_between {A B : Prs} (hA : Srt.Up A) (hB : Srt.Up B) (k : ByteArray) : Srt.look (betweenP A B) k = if Srt.look A k = Srt.look B k then none else some ((Srt.look B k).getD goneV) := by
  unfold betweenP
  rw [look_keyed _ (fun k => (Srt.look B k).getD goneV), look_filter (Srt.up_mrg hA hB), Srt.look_mrg hA hB]
  by_cases h : Srt.look A k = Srt.look B k
  · rw [if_pos h]
    cases (Srt.look B k).or (Srt.look A k) <;> simp [h]
  · rw [if_neg h]
    have h' : (!decide (Srt.look A k = Srt.look B k)) = true := by simp [h]
    cases hb : Srt.look B k with
    | some v =>
      rw [hb] at h'
      simp only [Option.some_or, Option.bind_some]
      rw [hb, if_pos h']
      rfl
    | none =>
      rw [hb] at h h'
      cases ha : Srt.look A k with
      | none => rw [ha] at h; exact absurd rfl h
      | some u =>
        rw [ha] at h'
        simp only [Option.none_or, Option.bind_some]
        rw [ha, hb, if_pos h']
        rfl
theorem between_len (A B : Prs) : (betweenP A B).length ≤ A.length + B.length := by
  unfold betweenP
  rw [List.length_map]
  exact Nat.le_trans (List.length_filter_le _ _) (Srt.mrg_len A B)
theorem between_ok {A B : Prs} (hA : PairsOk A) (hB : PairsOk B) : PairsOk (betweenP A B) := by
  refine ⟨up_between hA.1 hB.1, fun p hp => ?_⟩
  have hl := Srt.look_of_mem (up_between hA.1 hB.1) (k := p.1) (v := p.2) hp
  rw [look_between hA.1 hB.1] at hl
  split at hl
  · cases hl
  · rename_i hne
    injection hl with hl
    cases hb : Srt.look B p.1 with
    | some v =>
      rw [hb] at hl
      have h1 := hB.2 _ (Srt.mem_of_look hb)
      obtain ⟨k, x⟩ := p
      simp only at hl
      subst hl
      exact h1
    | none =>
      rw [hb] at hl hne
      cases ha : Srt.look A p.1 with
      | none => exact absurd ha hne
      | some u =>
        have h1 := hA.2 _ (Srt.mem_of_look ha)
        obtain ⟨k, x⟩ := p
        simp only [Option.getD_none] at hl
        subst hl
        exact ⟨h1.1, h1.2.1, by show noText.size ≤ 16; decide, fun _ => rfl⟩
/-- Pairs behind a delta's. -/
def doP (S D : Prs) : Prs := (Srt.mrg S D).filter fun p => !p.2.2
theorem up_doP {S D : Prs} (hS : Srt.Up S) (hD : Srt.Up D) : Srt.Up (doP S D) := (Srt.up_mrg hS hD).sub (List.filter_sublist (l := Srt.mrg S D))
theorem here_doP (S D : Prs) : Here (doP S D) := fun p hp => by
  have := (List.mem_filter.1 hp).2
  simpa using this
theorem look_doP {S D : Prs} (hS : Srt.Up S) (hD : Srt.Up D) (k : ByteArray) : Srt.look (doP S D) k = ((Srt.look D k).or (Srt.look S k)).bind fun v => if v.2 = true then none else some v := by
  unfold doP
  rw [look_filter (Srt.up_mrg hS hD), Srt.look_mrg hS hD]
  cases (Srt.look D k).or (Srt.look S k) with
  | none => rfl
  | some v =>
    simp only [Option.bind_some]
    cases v.2 <;> simp
theorem do_between {A B : Prs} (hA : Srt.Up A) (hB : Srt.Up B) (gB : Here B) : doP A (betweenP A B) = B := by
  refine Srt.up_look_ext (up_doP hA (up_between hA hB)) hB fun k => ?_
  rw [look_doP hA (up_between hA hB), look_between hA hB]
  by_cases h : Srt.look A k = Srt.look B k
  · rw [if_pos h, Option.none_or, h]
    cases hb : Srt.look B k with
    | none => rfl
    | some v => simp [gB.look hb]
  · rw [if_neg h, Option.some_or]
    cases hb : Srt.look B k with
    | none => simp [goneV]
    | some v => simp [gB.look hb]
theorem do_join {S A B : Prs} (hS : Srt.Up S) (hA : Srt.Up A) (hB : Srt.Up B) : doP S (Srt.mrg A B) = doP (doP S A) B := by
  refine Srt.up_look_ext (up_doP hS (Srt.up_mrg hA hB)) (up_doP (up_doP hS hA) hB) fun k => ?_
  rw [look_doP hS (Srt.up_mrg hA hB), look_doP (up_doP hS hA) hB, look_doP hS hA, Srt.look_mrg hA hB]
  cases Srt.look B k with
  | some v => simp
  | none =>
    simp only [Option.none_or]
    cases (Srt.look A k).or (Srt.look S k) with
    | none => rfl
    | some v =>
      simp only [Option.bind_some]
      cases hv : v.2 <;> simp [hv]
theorem mrg_assoc {A B C : Prs} (hA : Srt.Up A) (hB : Srt.Up B) (hC : Srt.Up C) : Srt.mrg (Srt.mrg A B) C = Srt.mrg A (Srt.mrg B C) := by
  refine Srt.up_look_ext (Srt.up_mrg (Srt.up_mrg hA hB) hC) (Srt.up_mrg hA (Srt.up_mrg hB hC)) fun k => ?_
  rw [Srt.look_mrg (Srt.up_mrg hA hB) hC, Srt.look_mrg hA hB, Srt.look_mrg hA (Srt.up_mrg hB hC), Srt.look_mrg hB hC]
  cases Srt.look C k <;> cases Srt.look B k <;> cases Srt.look A k <;> rfl
theorem between_same (A : Prs) (hA : Srt.Up A) : betweenP A A = [] := by
  refine Srt.up_look_ext (up_between hA hA) List.Pairwise.nil fun k => ?_
  rw [look_between hA hA, if_pos rfl]
  rfl
theorem mrg_nil_right {α β : Type} [Tot α] (A : List (α × β)) (hA : Srt.Up A) : Srt.mrg A [] = A := by
  refine Srt.up_look_ext (Srt.up_mrg hA List.Pairwise.nil) hA fun k => ?_
  rw [Srt.look_mrg hA List.Pairwise.nil]
  rfl
theorem do_nil {A : Prs} (hA : Srt.Up A) (gA : Here A) : doP A [] = A := by
  unfold doP
  rw [mrg_nil_right A hA, List.filter_eq_self]
  intro p hp
  simp [gA p hp]
theorem mrg_ok {A B : Prs} (hA : PairsOk A) (hB : PairsOk B) : PairsOk (Srt.mrg A B) := by
  refine ⟨Srt.up_mrg hA.1 hB.1, fun p hp => ?_⟩
  rcases (Srt.mem_mrg hA.1 hB.1 p).1 hp with h | ⟨h, _⟩
  · exact hB.2 p h
  · exact hA.2 p h
theorem do_ok {S D : Prs} (hS : PairsOk S) (hD : PairsOk D) : PairsOk (doP S D) :=
  ⟨up_doP hS.1 hD.1, fun p hp => (mrg_ok hS hD).2 p (List.mem_filter.1 hp).1⟩

/-- The operations, with what is told. -/
def betweenV (a b : StV) : DltV × Int := if b.index < a.index ∨ b.term < a.term then (noDelta, 8) else (⟨a.index, b.index, b.term, betweenP a.pairs b.pairs, b.sess⟩, 0)
def applyD (s : StV) (d : DltV) : StV × Int :=
  if s.index ≠ d.from_ ∨ d.term < s.term then (noState, 8) else if 64 < (doP s.pairs d.pairs).length then (noState, 4) else (⟨d.to_, d.term, doP s.pairs d.pairs, d.sess⟩, 0)
def joinV (a b : DltV) : DltV × Int :=
  if a.to_ ≠ b.from_ ∨ b.term < a.term then (noDelta, 8) else if 512 < (Srt.mrg a.pairs b.pairs).length then (noDelta, 4) else (⟨a.from_, b.to_, b.term, Srt.mrg a.pairs b.pairs, b.sess⟩, 0)
def DltV.Right (d : DltV) : Prop := (0 ≤ d.from_ ∧ d.from_ ≤ d.to_ ∧ d.to_ ≤ 1048576) ∧ (0 ≤ d.term ∧ d.term ≤ 1048576) ∧ RowsOk d.pairs d.sess 512
instance (d : DltV) : Decidable d.Right := by unfold DltV.Right; infer_instance
def DltV.bytes (d : DltV) : List UInt8 := be8 d.from_ ++ (be8 d.to_ ++ (be8 d.term ++ rowsB d.pairs d.sess))
theorem StV.Right.here {s : StV} (h : s.Right) : Here s.pairs := h.2.2.2
theorem StV.Right.pok {s : StV} (h : s.Right) : PairsOk s.pairs := h.2.2.1.2.1
theorem StV.Right.sok {s : StV} (h : s.Right) : SesssOk s.sess := h.2.2.1.2.2
theorem between_right {a b : StV} (ha : a.Right) (hb : b.Right) (hi : a.index ≤ b.index) : DltV.Right ⟨a.index, b.index, b.term, betweenP a.pairs b.pairs, b.sess⟩ := by
  have h1 := between_len a.pairs b.pairs
  have h2 := ha.len
  have h3 := hb.len
  exact ⟨⟨ha.1.1, hi, hb.1.2⟩, hb.2.1, by show ((betweenP a.pairs b.pairs).length : Int) ≤ 512; omega, between_ok ha.pok hb.pok, hb.sok⟩
/-- A state behind what changed is the later one. -/
theorem applyD_between {a b : StV} (ha : a.Right) (hb : b.Right) (hi : a.index ≤ b.index) (ht : a.term ≤ b.term) : betweenV a b = (⟨a.index, b.index, b.term, betweenP a.pairs b.pairs, b.sess⟩, 0) ∧ applyD a ⟨a.index, b.index, b.term, betweenP a.pairs b.pairs, b.sess⟩ = (b, 0) := by
  have h1 := do_between ha.up hb.up hb.here
  refine ⟨by unfold betweenV; rw [if_neg (by omega)], ?_⟩
  unfold applyD
  simp only
  rw [if_neg (by omega), h1, if_neg (by have := hb.len; omega)]
end Go.Proofs.YthmjjhjblokjeaaGreat
