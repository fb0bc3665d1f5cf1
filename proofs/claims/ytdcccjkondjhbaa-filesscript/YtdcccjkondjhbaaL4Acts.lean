/-
  Deeds of a disk: what they tell, and deeds as an argument. No statement is proved here.
-/
import Derived.Test.YtdcccjkondjhbaaL4Do
namespace Go.Proofs.Ytdcccjkondjhbaa
open Go.RowKit Go.Maps

/-- What a counted call tells, and does. -/
def Tells (S : St) (v : Nat) (r : Nat × St) : Prop :=
  r.2.vol ≤ S.vol + v ∧ ((r.1 = 0 ∧ r.2.calls = S.calls + 1) ∨ (r.1 = 7 ∧ r.2.calls = S.calls + 1 ∧ r.2.down = true) ∨ (r.1 ≠ 0 ∧ r.1 ≠ 7 ∧ r.2 = S))
theorem tells_count (S : St) (v : Nat) : Tells S v S.count := by
  refine ⟨by rw [S.count_vol]; omega, ?_⟩
  unfold St.count
  split
  · exact .inl ⟨rfl, rfl⟩
  · split
    · exact .inl ⟨rfl, rfl⟩
    · exact .inr (.inl ⟨rfl, rfl, rfl⟩)
theorem tells_same (S : St) (v e : Nat) (h0 : e ≠ 0) (h7 : e ≠ 7) : Tells S v (e, S) := ⟨Nat.le_add_right _ _, .inr (.inr ⟨h0, h7, rfl⟩)⟩
theorem tells_step (S : St) (v : Nat) (x : Chg) : Tells S v (S.step x) := by
  unfold St.step
  split
  · exact ⟨by show S.count.2.vol ≤ _; rw [S.count_vol]; omega, .inl ⟨rfl, S.count_calls⟩⟩
  · exact tells_count S v
theorem tells_on (S : St) (v : Nat) (hd : S.down = false) (s : List UInt8) (k : Nat → Nat × St) (h : ∀ f, Tells S v (k f)) : Tells S v (S.on s k) := by
  unfold St.on
  rw [if_neg (by rw [hd]; simp)]
  split
  · exact tells_same S v 6 (by decide) (by decide)
  · exact h _
theorem tells_do (S : St) (hd : S.down = false) (x : ActV) (f : Nat) (b : List UInt8) : Tells S b.length (S.do_ x f b) := by
  have hcr : ∀ s, Tells S b.length (S.create s f) := fun s => by
    unfold St.create
    rw [if_neg (by rw [hd]; simp)]
    split
    · exact tells_same S _ 5 (by decide) (by decide)
    · split
      · exact tells_same S _ 4 (by decide) (by decide)
      · exact tells_step (S.setFl f ⟨[], 0⟩) b.length _ |> fun t => ⟨t.1, by
          rcases t.2 with h | h | h
          · exact .inl h
          · exact .inr (.inl h)
          · exfalso
            have h2 := h
            unfold St.step at h2
            split at h2
            · exact h2.1 rfl
            · rename_i he
              rcases (S.setFl f ⟨[], 0⟩).count_err with h3 | h3
              · exact he h3
              · exact h2.2.1 h3⟩
  have hap : Tells S b.length (S.append (nm x.name) b) := by
    refine tells_on S _ hd _ _ fun g => ?_
    unfold St.appendAt
    split
    · exact tells_same S _ 4 (by decide) (by decide)
    · have t := tells_count (S.app g b) 0
      refine ⟨by rw [(S.app g b).count_vol]; show S.vol + b.length ≤ _; omega, ?_⟩
      rcases t.2 with h | h | h
      · exact .inl h
      · exact .inr (.inl h)
      · exfalso
        rcases (S.app g b).count_err with h3 | h3
        · exact h.1 h3
        · exact h.2.1 h3
  have hset : ∀ (g : Nat) (l : Fl), Tells S b.length (if S.count.1 = 0 then (0, S.count.2.setFl g l) else S.count) := fun g l => by
    split
    · exact ⟨by show S.count.2.vol ≤ _; rw [S.count_vol]; omega, .inl ⟨rfl, S.count_calls⟩⟩
    · exact tells_count S _
  unfold St.do_
  split
  · exact hcr _
  · exact hcr _
  · refine tells_on S _ hd _ _ fun g => ?_
    unfold St.cutAt
    split
    · exact tells_same S _ 14 (by decide) (by decide)
    · exact hset _ _
  · exact tells_on S _ hd _ _ fun g => hset _ _
  · unfold St.syncDir
    rw [if_neg (by rw [hd]; simp)]
    split
    · exact ⟨by show S.count.2.vol ≤ _; rw [S.count_vol]; omega, .inl ⟨rfl, S.count_calls⟩⟩
    · exact tells_count S _
  · refine tells_on S _ hd _ _ fun g => ?_
    split
    · exact tells_same S _ 14 (by decide) (by decide)
    · exact tells_step S _ _
  · exact tells_on S _ hd _ _ fun g => hset _ _
  · exact tells_on S _ hd _ _ fun g => tells_step S _ _
  · exact tells_on S _ hd _ _ fun g => tells_step S _ _
  · exact hap
theorem do_down (S : St) (hd : S.down = true) (x : ActV) (f : Nat) (b : List UInt8) : S.do_ x f b = (7, S) := by
  have hon : ∀ s k, S.on s k = (7, S) := fun s k => by unfold St.on; rw [if_pos hd]
  unfold St.do_
  split
  · unfold St.create; rw [if_pos hd]
  · unfold St.create; rw [if_pos hd]
  · exact hon _ _
  · exact hon _ _
  · unfold St.syncDir; rw [if_pos hd]
  · exact hon _ _
  · exact hon _ _
  · exact hon _ _
  · exact hon _ _
  · exact hon _ _
theorem create_calm (S : St) (s : List UInt8) (f : Nat) (hd : S.down = false) (ha : S.armed = false) : (S.create s f).1 ≠ 7 := by
  unfold St.create
  rw [if_neg (by rw [hd]; simp)]
  split
  · show (5 : Nat) ≠ 7
    decide
  · split
    · show (4 : Nat) ≠ 7
      decide
    · have hc : (S.setFl f ⟨[], 0⟩).count.1 = 0 := by unfold St.count; rw [if_pos (by exact ha)]
      unfold St.step
      rw [if_pos hc]
      show (0 : Nat) ≠ 7
      decide

def actCells (xs : List ActV) : List Value := xs.flatMap ActV.cells
theorem actCells_len (xs : List ActV) : (actCells xs).length = xs.length * 5 := by
  induction xs with
  | nil => rfl
  | cons c r ih =>
    unfold actCells at *
    simp only [List.flatMap_cons, List.length_append, ih, List.length_cons]
    simp [ActV.cells]
    omega
theorem actCells_at (xs : List ActV) {k : Nat} {c : ActV} (h : xs[k]? = some c) (j : Nat) (hj : j < 5) : (actCells xs)[5 * k + j]? = c.cells[j]? := by
  induction xs generalizing k with
  | nil => simp at h
  | cons x r ih =>
    cases k with
    | zero =>
      have : x = c := by simpa using h
      subst this
      unfold actCells
      simp only [List.flatMap_cons]
      rw [List.getElem?_append_left (by simp [ActV.cells]; omega)]
      simp
    | succ k =>
      have h' : r[k]? = some c := by simpa using h
      have := ih h'
      unfold actCells at *
      simp only [List.flatMap_cons]
      rw [List.getElem?_append_right (by simp [ActV.cells]; omega)]
      rw [← this]
      congr 1
      simp [ActV.cells]
      omega
/-- A deed's bytes lie in blocks of F. -/
structure ActV.lies (F : Nat → Prop) (w : World) (x : ActV) : Prop where
  cells : Lies w F x.A (x.row.map bv)
  cap : x.row.length ≤ x.c
  lo : -32768 ≤ x.num
  hi : x.num ≤ 32767
  big : x.row.length ≤ 9223372036854775807

end Go.Proofs.Ytdcccjkondjhbaa
