/-
  States in plain words: what an entry does to one, which are right, and their bytes: plain mathematics. No statement is proved here.
-/
import Derived.Test.YtjijdkdpmbfdmaaSrt
import Derived.Test.YtjijdkdpmbfdmaaEntK
namespace Go.Proofs.Ytjijdkdpmbfdmaa
open Go.RowKit Tot

instance : Tot ByteArray :=
  ⟨fun a b => Op.bytesLess a.toList b.toList, fun _ => less_irr _, fun h1 h2 => less_tr h1 h2, fun h1 h2 => (toList_inj _ _).1 (less_tot h1 h2), inferInstance⟩

/-- What is told. -/
structure RepV where
  err : Int
  value : ByteArray
  deriving DecidableEq
/-- Pairs: a key, its value, whether it is gone. Sessions: a client, its number, what it was told. -/
abbrev Prs := List (ByteArray × (ByteArray × Bool))
abbrev Sns := List (Int × (Int × RepV))
/-- A state. -/
structure StV where
  index : Int
  term : Int
  pairs : Prs
  sess : Sns
def noText : ByteArray := ⟨#[]⟩
def told (n : Int) : RepV := ⟨n, noText⟩
def noState : StV := ⟨0, 0, [], []⟩

/-- What a command does to the pairs, and what is told. -/
def doV (ps : Prs) (c : CmdV) : Prs × RepV :=
  match Srt.look ps c.key with
  | none => if c.op ≠ 1 then (ps, told 6) else if 64 ≤ ps.length then (ps, told 4) else (Srt.put ps c.key (c.value, false), told 0)
  | some v => if c.op = 3 ∧ v.1 ≠ c.old then (ps, ⟨11, v.1⟩) else if c.op = 2 then (Srt.del ps c.key, ⟨0, v.1⟩) else (Srt.put ps c.key (c.value, v.2), ⟨0, v.1⟩)
def actV (s : StV) (c : CmdV) : StV × RepV := ({ s with pairs := (doV s.pairs c).1, sess := Srt.put s.sess c.client (c.seq, (doV s.pairs c).2) }, (doV s.pairs c).2)
def onceV (s : StV) (c : CmdV) : StV × RepV :=
  match Srt.look s.sess c.client with
  | none => actV s c
  | some q => if q.1 = c.seq then (s, q.2) else if c.seq < q.1 then (s, told 12) else actV s c
def stepV (s : StV) (e : EntryV) : StV × RepV :=
  if ¬ e.Right then (s, told 14)
  else if e.index ≠ s.index + 1 ∨ e.term < s.term then (s, told 8)
  else if e.cmd.op = 0 then ({ s with index := e.index, term := e.term }, told 0)
  else onceV { s with index := e.index, term := e.term } e.cmd
def foldV (s : StV) (es : List EntryV) : StV := es.foldl (fun s e => (stepV s e).1) s
theorem foldV_append (s : StV) (a b : List EntryV) : foldV s (a ++ b) = foldV (foldV s a) b := by unfold foldV; rw [List.foldl_append]
theorem foldV_snoc (s : StV) (a : List EntryV) (e : EntryV) : foldV s (a ++ [e]) = (stepV (foldV s a) e).1 := by rw [foldV_append]; rfl

/-- Which pairs, sessions, rows and states are right. -/
def PairOk (p : ByteArray × (ByteArray × Bool)) : Prop := 1 ≤ p.1.size ∧ p.1.size ≤ 8 ∧ p.2.1.size ≤ 16 ∧ (p.2.2 = true → p.2.1.size = 0)
instance (p : ByteArray × (ByteArray × Bool)) : Decidable (PairOk p) := by unfold PairOk; infer_instance
def SessOk (x : Int × (Int × RepV)) : Prop := 0 ≤ x.1 ∧ x.1 ≤ 3 ∧ 0 ≤ x.2.1 ∧ x.2.1 ≤ 1048576 ∧ 0 ≤ x.2.2.err ∧ x.2.2.err ≤ 14 ∧ x.2.2.value.size ≤ 16
instance (x : Int × (Int × RepV)) : Decidable (SessOk x) := by unfold SessOk; infer_instance
instance {α β : Type} [Tot α] (L : List (α × β)) : Decidable (Srt.Up L) := by unfold Srt.Up; infer_instance
def PairsOk (ps : Prs) : Prop := Srt.Up ps ∧ ∀ p ∈ ps, PairOk p
def SesssOk (xs : Sns) : Prop := Srt.Up xs ∧ ∀ x ∈ xs, SessOk x
instance (ps : Prs) : Decidable (PairsOk ps) := by unfold PairsOk; infer_instance
instance (xs : Sns) : Decidable (SesssOk xs) := by unfold SesssOk; infer_instance
def RowsOk (ps : Prs) (xs : Sns) (most : Int) : Prop := (ps.length : Int) ≤ most ∧ PairsOk ps ∧ SesssOk xs
instance (ps : Prs) (xs : Sns) (most : Int) : Decidable (RowsOk ps xs most) := by unfold RowsOk; infer_instance
def StV.Right (s : StV) : Prop := (0 ≤ s.index ∧ s.index ≤ 1048576) ∧ (0 ≤ s.term ∧ s.term ≤ 1048576) ∧ RowsOk s.pairs s.sess 64 ∧ ∀ p ∈ s.pairs, p.2.2 = false
instance (s : StV) : Decidable s.Right := by unfold StV.Right; infer_instance
theorem noState_right : noState.Right := ⟨by unfold noState; simp, by unfold noState; simp, ⟨by unfold noState; simp, ⟨List.Pairwise.nil, by unfold noState; simp⟩, ⟨List.Pairwise.nil, by unfold noState; simp⟩⟩, by unfold noState; simp⟩

section
variable {α β : Type} [Tot α]
theorem up_snoc (l : List (α × β)) (p : α × β) : Srt.Up (l ++ [p]) ↔ Srt.Up l ∧ ∀ q, l.getLast? = some q → lt q.1 p.1 = true := by
  rw [Srt.Up.append]
  constructor
  · rintro ⟨h1, _, h3⟩
    exact ⟨h1, fun q hq => h3 q (List.mem_of_getLast? hq) p (by simp)⟩
  · rintro ⟨h1, h2⟩
    refine ⟨h1, List.pairwise_singleton _ _, fun q hq r hr => ?_⟩
    obtain rfl : r = p := by simpa using hr
    obtain ⟨i, hi⟩ := List.getElem?_of_mem hq
    have hil := (List.getElem?_eq_some_iff.1 hi).1
    have hl : l.getLast? = some (l[l.length - 1]'(by omega)) := by rw [List.getLast?_eq_getElem?, List.getElem?_eq_getElem (by omega)]
    have h3 := h2 _ hl
    rcases Nat.lt_or_ge i (l.length - 1) with h | h
    · exact tr (h1.get h hi (List.getElem?_eq_getElem (by omega))) h3
    · have : i = l.length - 1 := by omega
      subst this
      rw [List.getElem?_eq_getElem (by omega)] at hi
      injection hi with hi
      rw [hi] at h3
      exact h3
end
theorem sess_len {xs : Sns} (h : SesssOk xs) : xs.length ≤ 4 := by
  have aux : ∀ (L : Sns) (a : Int), Srt.Up L → (∀ x ∈ L, a ≤ x.1 ∧ x.1 ≤ 3) → a ≤ 4 → (L.length : Int) ≤ 4 - a := by
    intro L
    induction L with
    | nil => intro a _ _ h; simp; omega
    | cons p r ih =>
      intro a hu hb ha
      have h0 := hb p (by simp)
      have h1 := ih (p.1 + 1) hu.tail (fun x hx => ⟨by have h9 := hu.head x hx; have h9 : p.1 < x.1 := by simpa [lt] using h9
                                                       omega, (hb x (by simp [hx])).2⟩) (by omega)
      simp only [List.length_cons]
      omega
  have := aux xs 0 h.1 (fun x hx => ⟨(h.2 x hx).1, (h.2 x hx).2.1⟩) (by omega)
  omega

/-- All that entries do leaves a state right. -/
theorem doV_right {ps : Prs} {c : CmdV} (hc : c.May) (h0 : c.op ≠ 0) (hp : PairsOk ps) (hl : ps.length ≤ 64) (hg : ∀ p ∈ ps, p.2.2 = false) :
    PairsOk (doV ps c).1 ∧ (doV ps c).1.length ≤ 64 ∧ (∀ p ∈ (doV ps c).1, p.2.2 = false) ∧ 0 ≤ (doV ps c).2.err ∧ (doV ps c).2.err ≤ 14 ∧ (doV ps c).2.value.size ≤ 16 := by
  have hm : 1 ≤ c.key.size ∧ c.key.size ≤ 8 ∧ c.value.size ≤ 16 := by
    unfold CmdV.May at hc
    rcases hc with h | h
    · exact absurd h.1 h0
    · exact ⟨h.2.2.2.2.2.2.1, h.2.2.2.2.2.2.2.1, h.2.2.2.2.2.2.2.2.1⟩
  have z0 : noText.size = 0 := rfl
  unfold doV
  cases hk : Srt.look ps c.key with
  | none =>
    simp only
    split
    · exact ⟨hp, hl, hg, by simp [told], by simp [told], by show noText.size ≤ 16; omega⟩
    · split
      · exact ⟨hp, hl, hg, by simp [told], by simp [told], by show noText.size ≤ 16; omega⟩
      · rename_i h64
        have hno : Srt.has ps c.key = false := (Srt.has_false _ _).2 hk
        refine ⟨⟨Srt.up_put hp.1 _ _, fun p h => ?_⟩, ?_, fun p h => ?_, by simp [told], by simp [told], by show noText.size ≤ 16; omega⟩
        · rcases (Srt.mem_put hp.1 _ _ p).1 h with rfl | ⟨h, _⟩
          · exact ⟨hm.1, hm.2.1, hm.2.2, by simp⟩
          · exact hp.2 p h
        · rw [Srt.put_len, if_neg (by rw [hno]; simp)]
          omega
        · rcases (Srt.mem_put hp.1 _ _ p).1 h with rfl | ⟨h, _⟩
          · rfl
          · exact hg p h
  | some v =>
    have hmem := Srt.mem_of_look hk
    have hv := hp.2 _ hmem
    have hv2 := hg _ hmem
    have hyes : Srt.has ps c.key = true := (Srt.has_iff _ _).2 ⟨_, hk⟩
    simp only
    split
    · exact ⟨hp, hl, hg, by simp, by simp, hv.2.2.1⟩
    · split
      · refine ⟨⟨Srt.up_del hp.1 _, fun p h => hp.2 p ((Srt.mem_del hp.1 _ p).1 h).1⟩, ?_, fun p h => hg p ((Srt.mem_del hp.1 _ p).1 h).1, by simp, by simp, hv.2.2.1⟩
        rw [Srt.del_len hp.1]
        omega
      · refine ⟨⟨Srt.up_put hp.1 _ _, fun p h => ?_⟩, ?_, fun p h => ?_, by simp, by simp, hv.2.2.1⟩
        · rcases (Srt.mem_put hp.1 _ _ p).1 h with rfl | ⟨h, _⟩
          · exact ⟨hm.1, hm.2.1, hm.2.2, fun h => by rw [show v.2 = false from hv2] at h; cases h⟩
          · exact hp.2 p h
        · rw [Srt.put_len, if_pos hyes]
          omega
        · rcases (Srt.mem_put hp.1 _ _ p).1 h with rfl | ⟨h, _⟩
          · exact hv2
          · exact hg p h
theorem actV_right {s : StV} {c : CmdV} (hs : s.Right) (hc : c.May) (h0 : c.op ≠ 0) : (actV s c).1.Right := by
  obtain ⟨hi, ht, ⟨hl, hp, hx⟩, hg⟩ := hs
  obtain ⟨d1, d2, d3, d4, d5, d6⟩ := doV_right hc h0 hp (by omega) hg
  have hm : 0 ≤ c.client ∧ c.client ≤ 3 ∧ 0 ≤ c.seq ∧ c.seq ≤ 1048576 := by
    unfold CmdV.May at hc
    omega
  refine ⟨hi, ht, ⟨by show ((doV s.pairs c).1.length : Int) ≤ 64; omega, d1, Srt.up_put hx.1 _ _, fun x h => ?_⟩, d3⟩
  rcases (Srt.mem_put hx.1 _ _ x).1 h with rfl | ⟨h, _⟩
  · exact ⟨hm.1, hm.2.1, hm.2.2.1, hm.2.2.2, d4, d5, d6⟩
  · exact hx.2 x h
theorem onceV_right {s : StV} {c : CmdV} (hs : s.Right) (hc : c.May) (h0 : c.op ≠ 0) : (onceV s c).1.Right := by
  unfold onceV
  cases Srt.look s.sess c.client with
  | none => exact actV_right hs hc h0
  | some q =>
    simp only
    split
    · exact hs
    · split
      · exact hs
      · exact actV_right hs hc h0
theorem stepV_right {s : StV} (hs : s.Right) (e : EntryV) : (stepV s e).1.Right := by
  unfold stepV
  split
  · exact hs
  · rename_i hr
    have hr : e.Right := by simpa using hr
    split
    · exact hs
    · have hs' : StV.Right { s with index := e.index, term := e.term } := ⟨⟨by have := hr.1; show 0 ≤ e.index; omega, hr.2.1⟩, ⟨hr.2.2.1, hr.2.2.2.1⟩, hs.2.2⟩
      split
      · exact hs'
      · rename_i h0
        exact onceV_right hs' hr.2.2.2.2 h0
theorem foldV_right {s : StV} (hs : s.Right) (es : List EntryV) : (foldV s es).Right := by
  induction es generalizing s with
  | nil => exact hs
  | cons e r ih => exact ih (stepV_right hs e)
theorem StV.Right.up {s : StV} (h : s.Right) : Srt.Up s.pairs := h.2.2.1.2.1.1
theorem StV.Right.ups {s : StV} (h : s.Right) : Srt.Up s.sess := h.2.2.1.2.2.1
theorem StV.Right.len {s : StV} (h : s.Right) : s.pairs.length ≤ 64 := by have := h.2.2.1.1; omega
theorem StV.Right.lens {s : StV} (h : s.Right) : s.sess.length ≤ 4 := sess_len h.2.2.1.2.2

/-- The bytes of pairs, sessions and states. -/
def prB (p : ByteArray × (ByteArray × Bool)) : List UInt8 := tx p.1 ++ (tx p.2.1 ++ [if p.2.2 = true then 1 else 0])
def snB (x : Int × (Int × RepV)) : List UInt8 := be8 x.1 ++ (be8 x.2.1 ++ (be8 x.2.2.err ++ tx x.2.2.value))
def rowsB (ps : Prs) (xs : Sns) : List UInt8 := be8 ps.length ++ (ps.flatMap prB ++ (be8 xs.length ++ xs.flatMap snB))
def StV.bytes (s : StV) : List UInt8 := be8 s.index ++ (be8 s.term ++ rowsB s.pairs s.sess)
end Go.Proofs.Ytjijdkdpmbfdmaa
