/-
  Files, edits and lists of files in plain words: what an edit does to a list, : plain mathematics. No statement is proved here.
-/
import Derived.Test.YtollmkkbeeeccaaByt
import Derived.Test.YtollmkkbeeeccaaLie
namespace Go.Proofs.Ytollmkkbeeeccaa
open Go.RowKit Tot

/-- A file. -/
structure RefV where
  name : ByteArray
  kind : Int
  from_ : Int
  to_ : Int
  deriving DecidableEq
/-- An edit. -/
structure EditV where
  add : List RefV
  drop : List ByteArray
  floor : Int
/-- The files of a list, by their names. -/
abbrev Fls := List (ByteArray × RefV)
def RefV.cells (r : RefV) : List Value := [.string r.name, .int .i64 r.kind, .int .i64 r.from_, .int .i64 r.to_]
def RefV.val (r : RefV) : Value := .agg #[.string r.name, .int .i64 r.kind, .int .i64 r.from_, .int .i64 r.to_]
def noRef : RefV := ⟨⟨#[]⟩, 0, 0, 0⟩
def noEdit : EditV := ⟨[], [], 0⟩
/-- Which files may be listed. -/
def RefV.May (r : RefV) : Prop := 1 ≤ r.name.size ∧ r.name.size ≤ 16 ∧ 0 ≤ r.kind ∧ r.kind < 3 ∧ 0 ≤ r.from_ ∧ r.from_ ≤ r.to_ ∧ r.to_ ≤ 1048576 ∧ (r.kind = 0 → r.from_ = r.to_)
instance (r : RefV) : Decidable r.May := by unfold RefV.May; infer_instance

/-- The files without some; 'none', if one is not there. -/
def dropV : Fls → List ByteArray → Option Fls
  | N, [] => some N
  | N, k :: r => if Srt.has N k = true then dropV (Srt.del N k) r else none
/-- The files and some more, and what is told. -/
def addV : Fls → List RefV → Fls × Int
  | N, [] => (N, 0)
  | N, r :: l => if ¬ r.May then (N, 14) else if Srt.has N r.name = true then (N, 5) else addV (Srt.put N r.name r) l
/-- The files behind an edit, and what is told. -/
def doE (N : Fls) (f : Int) (e : EditV) : Fls × Int :=
  match dropV N e.drop with
  | none => ([], 6)
  | some M => if (addV M e.add).2 ≠ 0 then ([], (addV M e.add).2) else if f ≤ e.floor ∧ e.floor ≤ 1048576 then ((addV M e.add).1, 0) else ([], 8)

/-- Files that rise, each by its own name, that may be listed. -/
structure Good (N : Fls) : Prop where
  up : Srt.Up N
  named : ∀ p ∈ N, p.1 = p.2.name
  may : ∀ p ∈ N, p.2.May
theorem Good.nil : Good [] := ⟨List.Pairwise.nil, fun _ h => (by cases h), fun _ h => (by cases h)⟩
theorem Good.put {N : Fls} (h : Good N) {r : RefV} (hr : r.May) : Good (Srt.put N r.name r) := by
  refine ⟨Srt.up_put h.up _ _, fun p hp => ?_, fun p hp => ?_⟩
  · rcases (Srt.mem_put h.up _ _ p).1 hp with rfl | ⟨hp, _⟩
    · rfl
    · exact h.named p hp
  · rcases (Srt.mem_put h.up _ _ p).1 hp with rfl | ⟨hp, _⟩
    · exact hr
    · exact h.may p hp
theorem Good.del {N : Fls} (h : Good N) (k : ByteArray) : Good (Srt.del N k) := by
  refine ⟨Srt.up_del h.up _, fun p hp => ?_, fun p hp => ?_⟩
  · exact h.named p ((Srt.mem_del h.up _ p).1 hp).1
  · exact h.may p ((Srt.mem_del h.up _ p).1 hp).1
theorem dropV_good {ns : List ByteArray} : ∀ {N M : Fls}, Good N → dropV N ns = some M → Good M := by
  induction ns with
  | nil => intro N M h e; injection e with e; exact e ▸ h
  | cons k r ih =>
    intro N M h e
    unfold dropV at e
    split at e
    · exact ih (h.del k) e
    · cases e
theorem addV_good {l : List RefV} : ∀ {N : Fls}, Good N → Good (addV N l).1 := by
  induction l with
  | nil => intro N h; exact h
  | cons r l ih =>
    intro N h
    unfold addV
    split
    · exact h
    · rename_i hr
      split
      · exact h
      · exact ih (h.put (Decidable.not_not.1 hr))
theorem doE_good {N : Fls} {f : Int} {e : EditV} (h : Good N) : Good (doE N f e).1 := by
  unfold doE
  split
  · exact Good.nil
  · rename_i M hM
    have hM := dropV_good h hM
    split
    · exact Good.nil
    · split
      · exact addV_good hM
      · exact Good.nil
theorem doE_floor {N : Fls} {f : Int} {e : EditV} (h : (doE N f e).2 = 0) : f ≤ e.floor ∧ e.floor ≤ 1048576 := by
  unfold doE at h
  split at h
  · simp at h
  · split at h
    · rename_i hn; exact absurd h hn
    · split at h
      · assumption
      · simp at h
theorem doE_fail {N : Fls} {f : Int} {e : EditV} (h : (doE N f e).2 ≠ 0) : (doE N f e).1 = [] := by
  unfold doE at h ⊢
  split
  · rfl
  · rename_i hd
    rw [hd] at h
    simp only at h
    split
    · rfl
    · rename_i h1
      rw [if_neg h1] at h
      split
      · rename_i h2
        rw [if_pos h2] at h
        exact absurd rfl h
      · rfl
theorem dropV_len {ns : List ByteArray} : ∀ {N M : Fls}, Srt.Up N → dropV N ns = some M → M.length ≤ N.length ∧ Srt.Up M := by
  induction ns with
  | nil => intro N M h e; injection e with e; subst e; exact ⟨Nat.le_refl _, h⟩
  | cons k r ih =>
    intro N M h e
    unfold dropV at e
    split at e
    · obtain ⟨h1, h2⟩ := ih (Srt.up_del h k) e
      refine ⟨Nat.le_trans h1 ?_, h2⟩
      rw [Srt.del_len h]
      exact Nat.sub_le _ _
    · cases e
theorem addV_len {l : List RefV} : ∀ {N : Fls}, (addV N l).1.length ≤ N.length + l.length := by
  induction l with
  | nil => intro N; exact Nat.le_refl _
  | cons r l ih =>
    intro N
    unfold addV
    split
    · simp
    · split
      · simp
      · refine Nat.le_trans ih ?_
        rw [Srt.put_len, List.length_cons]
        split <;> omega
theorem doE_len {N : Fls} {f : Int} {e : EditV} (h : Srt.Up N) : (doE N f e).1.length ≤ N.length + e.add.length := by
  unfold doE
  split
  · simp
  · rename_i M hM
    have hM := (dropV_len h hM).1
    split
    · simp
    · split
      · have := addV_len (N := M) (l := e.add)
        simp only
        omega
      · simp

/-- A key behind all others. -/
theorem put_last {N : Fls} {k : ByteArray} {v : RefV} (h : Srt.Up (N ++ [(k, v)])) : Srt.put N k v = N ++ [(k, v)] ∧ Srt.has N k = false := by
  obtain ⟨h1, h2, h3⟩ := Srt.Up.append.1 h
  have hn : ∀ p ∈ N, p.1 ≠ k := fun p hp => Srt.ne_of_lt (h3 p hp (k, v) (by simp))
  refine ⟨Srt.up_ext (Srt.up_put h1 k v) h fun p => ?_, (Srt.has_false N k).2 (Srt.look_none_of hn)⟩
  rw [Srt.mem_put h1, List.mem_append, List.mem_singleton]
  constructor
  · rintro (h | ⟨h, _⟩)
    · exact .inr h
    · exact .inl h
  · rintro (h | h)
    · exact .inr ⟨h, hn p h⟩
    · exact .inl h
theorem addV_rest {M : Fls} : ∀ {N : Fls}, Good (N ++ M) → addV N (M.map (·.2)) = (N ++ M, 0) := by
  induction M with
  | nil => intro N _; simp [addV]
  | cons p r ih =>
    intro N h
    have e : N ++ p :: r = (N ++ [p]) ++ r := by simp
    have hp : p.1 = p.2.name := h.named p (by simp)
    have hm : p.2.May := h.may p (by simp)
    rw [e] at h ⊢
    have hu := (Srt.Up.append.1 h.up).1
    obtain ⟨k, v⟩ := p
    simp only at hp hm
    subst hp
    obtain ⟨h1, h2⟩ := put_last hu
    rw [List.map_cons]
    unfold addV
    simp only
    rw [if_neg (Decidable.not_not.2 hm), h2, if_neg (by simp), h1]
    exact ih h
/-- The edit that makes a list. -/
def allE (N : Fls) (f : Int) : EditV := ⟨N.map (·.2), [], f⟩
theorem doE_all {N : Fls} {f : Int} (h : Good N) (h0 : 0 ≤ f) (h1 : f ≤ 1048576) : doE [] 0 (allE N f) = (N, 0) := by
  unfold doE allE
  simp only [dropV]
  have e := addV_rest (N := []) (M := N) (by simpa using h)
  rw [List.nil_append] at e
  rw [e]
  simp [h0, h1]

/-- Rows of files, as cells. -/
theorem ref_len (r : RefV) : r.cells.length = 4 := rfl
def refCells (l : List RefV) : List Value := l.flatMap RefV.cells
theorem refCells_append (a b : List RefV) : refCells (a ++ b) = refCells a ++ refCells b := by simp [refCells]
theorem refCells_length (l : List RefV) : (refCells l).length = l.length * 4 := by
  induction l with
  | nil => rfl
  | cons e r ih => simp only [refCells, List.flatMap_cons, List.length_append, ref_len, List.length_cons] at ih ⊢; omega

end Go.Proofs.Ytollmkkbeeeccaa
