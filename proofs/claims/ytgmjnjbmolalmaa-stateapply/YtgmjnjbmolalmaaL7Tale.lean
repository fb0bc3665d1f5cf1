/-
  The entries of says, and others behind them, as one statement draws them: plain mathematics. No statement is proved here.
-/
import Derived.Test.YtgmjnjbmolalmaaL7Plain
namespace Go.Proofs.Ytgmjnjbmolalmaa
open Go.RowKit Tot

/-- The term behind entries. -/
def lastT (es : List EntryV) (t : Int) : Int := es.foldl (fun _ e => e.term) t
theorem rowB_append (a b : List EntryV) (i t : Int) : rowB (a ++ b) i t = (rowB a i t && rowB b (i + a.length) (lastT a t)) := by
  induction a generalizing i t with
  | nil => simp [rowB_nil, lastT]
  | cons e r ih =>
    rw [List.cons_append, rowB_cons, rowB_cons, ih, List.length_cons]
    have : i + 1 + (r.length : Int) = i + ((r.length + 1 : Nat) : Int) := by omega
    rw [this, Bool.and_assoc]
    rfl
theorem lastT_ents (ss : List SayV) (i t : Int) : lastT (entsOf ss i t) t ≤ t + ss.length := by
  have aux : ∀ (ss : List SayV) (i t t0 : Int), t0 ≤ t → lastT (entsOf ss i t) t0 ≤ t + ss.length := by
    intro ss
    induction ss with
    | nil => intro i t t0 h; simp [entsOf, lastT]; exact h
    | cons s r ih =>
      intro i t t0 h
      have hb := bump_bounds s t
      have := ih (i + 1) (bump s t) (bump s t) (Int.le_refl _)
      show lastT (entsOf r (i + 1) (bump s t)) (bump s t) ≤ _
      rw [List.length_cons]
      omega
  exact aux ss i t t (Int.le_refl _)
/-- An entry behind them. -/
def tailE (L k : Nat) : EntryV := ⟨(L : Int) + k + 1, 90, ⟨1, 3, 100 + k, str [UInt8.ofNat (33 + k)], ⟨#[120]⟩, ⟨#[]⟩⟩⟩
theorem tailE_right {L k : Nat} (hL : L ≤ 80) (hk : k < 70) : (tailE L k).Right := by
  refine ⟨by show 1 ≤ (L : Int) + k + 1; omega, by show (L : Int) + k + 1 ≤ 1048576; omega, by show (0 : Int) ≤ 90; omega, by show (90 : Int) ≤ 1048576; omega, .inr ?_⟩
  refine ⟨by show (1 : Int) ≤ 1; omega, by show (1 : Int) ≤ 3; omega, by show (0 : Int) ≤ 3; omega, by show (3 : Int) ≤ 3; omega, by show 0 ≤ 100 + (k : Int); omega, by show 100 + (k : Int) ≤ 1048576; omega, ?_, ?_, ?_, ?_⟩
  · show 1 ≤ (str [UInt8.ofNat (33 + k)]).size
    rw [str_size]; simp
  · show (str [UInt8.ofNat (33 + k)]).size ≤ 8
    rw [str_size]; simp
  · show (1 : Nat) ≤ 16
    omega
  · show (0 : Nat) ≤ 16
    omega
theorem rowB_tail (L : Nat) (hL : L ≤ 80) (n k : Nat) (t : Int) (hk : k + n ≤ 70) (ht : t ≤ 90) : rowB ((List.range' k n).map (tailE L)) ((L : Int) + k + 1) t = true := by
  induction n generalizing k t with
  | zero => rfl
  | succ n ih =>
    rw [List.range'_succ, List.map_cons, rowB_cons]
    have h1 : (tailE L k).Right ∧ (tailE L k).index = (L : Int) + k + 1 ∧ t ≤ (tailE L k).term := ⟨tailE_right hL (by omega), rfl, ht⟩
    rw [decide_eq_true h1, Bool.true_and]
    have := ih (k + 1) 90 (by omega) (by omega)
    rw [show (L : Int) + ((k + 1 : Nat) : Int) + 1 = (L : Int) + k + 1 + 1 by omega] at this
    exact this
/-- All entries. -/
def allE (ss : List SayV) (k : Nat) : List EntryV := entsS ss ++ (List.range k).map (tailE (entsS ss).length)
theorem allE_length (ss : List SayV) (k : Nat) : (allE ss k).length = (entsS ss).length + k := by simp [allE]
theorem allE_zero (ss : List SayV) : allE ss 0 = entsS ss := by simp [allE]
theorem allE_succ (ss : List SayV) (k : Nat) : allE ss (k + 1) = allE ss k ++ [tailE (entsS ss).length k] := by simp [allE, List.range_succ]
theorem allE_row (ss : List SayV) (k : Nat) (hk : k ≤ 70) : rowB (allE ss k) 1 0 = true := by
  have hl : (ss.take 80).length ≤ 80 := by rw [List.length_take]; omega
  have h0 := entsS_length ss
  unfold allE
  rw [rowB_append]
  have h1 : rowB (entsS ss) 1 0 = true := rowB_ents (ss.take 80) 1 0 0 (Int.le_refl _) (by omega) (by omega) (by omega) (by omega)
  have h2 : lastT (entsS ss) 0 ≤ 90 := by
    have := lastT_ents (ss.take 80) 1 0
    unfold entsS
    omega
  rw [h1, Bool.true_and, List.range_eq_range']
  have := rowB_tail (entsS ss).length h0 k 0 (lastT (entsS ss) 0) (by omega) h2
  rw [show ((entsS ss).length : Int) + ((0 : Nat) : Int) + 1 = 1 + ((entsS ss).length : Int) by omega] at this
  exact this
/-- Each of a row's entries is the next one of the state behind those ahead of it. -/
theorem row_next {es : List EntryV} {s : StV} (h : rowB es (s.index + 1) s.term = true) {k : Nat} {e : EntryV} (he : es[k]? = some e) : NextE (foldV s (es.take k)) e := by
  induction es generalizing s k with
  | nil => simp at he
  | cons e0 r ih =>
    rw [rowB_cons, Bool.and_eq_true, decide_eq_true_eq] at h
    obtain ⟨⟨h1, h2, h3⟩, h4⟩ := h
    have hn : NextE s e0 := ⟨h1, h2, h3⟩
    cases k with
    | zero =>
      obtain rfl : e0 = e := by simpa using he
      exact hn
    | succ k =>
      obtain ⟨i1, i2⟩ := stepV_head hn
      have := ih (s := (stepV s e0).1) (by rw [i1, i2, h2]; exact h4) (by simpa using he)
      exact this
end Go.Proofs.Ytgmjnjbmolalmaa
