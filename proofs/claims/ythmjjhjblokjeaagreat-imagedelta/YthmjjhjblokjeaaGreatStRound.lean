/-
  What was laid is read again: plain mathematics. No statement is proved here.
-/
import Derived.Test.YthmjjhjblokjeaaGreatStReadS
namespace Go.Proofs.YthmjjhjblokjeaaGreat
open Go.RowKit Tot

def Fit (n : Int) : Prop := -9223372036854775808 ≤ n ∧ n ≤ 9223372036854775807
theorem rdPair_prB (p : ByteArray × (ByteArray × Bool)) (r : List UInt8) (h1 : p.1.size ≤ 9223372036854775807) (h2 : p.2.1.size ≤ 9223372036854775807) : rdPair (prB p ++ r) false = (p, r, false) := by
  obtain ⟨k, v, g⟩ := p
  simp only at h1 h2
  unfold rdPair prB
  simp only [List.append_assoc]
  rw [rText_tx _ _ h1]
  simp only
  rw [rText_tx _ _ h2]
  simp only
  rw [rByte_one]
  simp only
  rw [str_of, str_of]
  cases g <;> rfl
theorem rdSess_snB (x : Int × (Int × RepV)) (r : List UInt8) (h1 : Fit x.1) (h2 : Fit x.2.1) (h3 : Fit x.2.2.err) (h4 : x.2.2.value.size ≤ 9223372036854775807) : rdSess (snB x ++ r) false = (x, r, false) := by
  obtain ⟨a, b, c, v⟩ := x
  simp only at h1 h2 h3 h4
  unfold rdSess snB
  simp only [List.append_assoc]
  rw [rNum_be8 _ _ h1.1 h1.2]
  simp only
  rw [rNum_be8 _ _ h2.1 h2.2]
  simp only
  rw [rNum_be8 _ _ h3.1 h3.2]
  simp only
  rw [rText_tx _ _ h4]
  simp only
  rw [str_of]
theorem rdList_flat {α : Type} {rd : List UInt8 → Bool → α × List UInt8 × Bool} {f : α → List UInt8} (L : List α) (r : List UInt8) (h : ∀ x ∈ L, ∀ r, rd (f x ++ r) false = (x, r, false)) : rdList rd L.length (L.flatMap f ++ r) false = (L, r, false) := by
  induction L with
  | nil => rfl
  | cons x q ih =>
    rw [List.flatMap_cons, List.append_assoc, List.length_cons]
    unfold rdList
    rw [if_neg (by simp), h x (by simp)]
    simp only
    rw [ih (fun y hy => h y (by simp [hy]))]
theorem rdRow_flat {α : Type} {rd : List UInt8 → Bool → α × List UInt8 × Bool} {f : α → List UInt8} (L : List α) (r : List UInt8) (h : ∀ x ∈ L, ∀ r, rd (f x ++ r) false = (x, r, false)) (hl : L.length ≤ 9223372036854775807) : rdRow rd (be8 L.length ++ (L.flatMap f ++ r)) false = (L, r, false) := by
  unfold rdRow
  rw [rNum_be8 _ _ (by omega) (by omega)]
  simp only
  rw [Int.toNat_natCast, rdList_flat L r h]
def PairFit (p : ByteArray × (ByteArray × Bool)) : Prop := p.1.size ≤ 9223372036854775807 ∧ p.2.1.size ≤ 9223372036854775807
def SessFit (x : Int × (Int × RepV)) : Prop := Fit x.1 ∧ Fit x.2.1 ∧ Fit x.2.2.err ∧ x.2.2.value.size ≤ 9223372036854775807
theorem rr3 (l : List UInt8) (ps : Prs) (m : List UInt8) (h : rdRow rdPair l false = (ps, m, false)) : rdPs l false = ps := by
  unfold rdPs
  rw [h]
theorem rr4 (l : List UInt8) (ps : Prs) (m r : List UInt8) (xs : Sns) (h : rdRow rdPair l false = (ps, m, false)) (h2 : rdRow rdSess m false = (xs, r, false)) : rdXs l false = xs := by
  unfold rdXs
  rw [h, h2]
theorem rr5 (l : List UInt8) (ps : Prs) (m r : List UInt8) (xs : Sns) (h : rdRow rdPair l false = (ps, m, false)) (h2 : rdRow rdSess m false = (xs, r, false)) : rdEnd l false = (r, false) := by
  unfold rdEnd
  rw [h, h2]
theorem rr2 (xs : Sns) (r : List UInt8) (h2 : ∀ x ∈ xs, SessFit x) (hm : xs.length ≤ 9223372036854775807) : rdRow rdSess (be8 xs.length ++ (xs.flatMap snB ++ r)) false = (xs, r, false) := rdRow_flat xs r (fun x hx r => rdSess_snB x r (h2 x hx).1 (h2 x hx).2.1 (h2 x hx).2.2.1 (h2 x hx).2.2.2) hm
theorem rr1 (ps : Prs) (xs : Sns) (r : List UInt8) (h1 : ∀ p ∈ ps, PairFit p) (hn : ps.length ≤ 9223372036854775807) : rdRow rdPair (rowsB ps xs ++ r) false = (ps, be8 xs.length ++ (xs.flatMap snB ++ r), false) := by
    have e : rowsB ps xs ++ r = be8 ps.length ++ (ps.flatMap prB ++ (be8 xs.length ++ (xs.flatMap snB ++ r))) := by
      unfold rowsB
      simp only [List.append_assoc]
    rw [e]
    exact rdRow_flat ps _ (fun p hp r => rdPair_prB p r (h1 p hp).1 (h1 p hp).2) hn
theorem rows_round (ps : Prs) (xs : Sns) (r : List UInt8) (h1 : ∀ p ∈ ps, PairFit p) (h2 : ∀ x ∈ xs, SessFit x) (hn : ps.length ≤ 9223372036854775807) (hm : xs.length ≤ 9223372036854775807) :
    rdPs (rowsB ps xs ++ r) false = ps ∧ rdXs (rowsB ps xs ++ r) false = xs ∧ rdEnd (rowsB ps xs ++ r) false = (r, false) :=
  ⟨rr3 _ _ _ (rr1 ps xs r h1 hn), rr4 _ _ _ _ _ (rr1 ps xs r h1 hn) (rr2 xs r h2 hm), rr5 _ _ _ _ _ (rr1 ps xs r h1 hn) (rr2 xs r h2 hm)⟩
theorem right_pairs {s : StV} (h : s.Right) : ∀ p ∈ s.pairs, PairFit p := fun p hp => by
  have := h.2.2.1.2.1.2 p hp
  unfold PairOk at this
  exact ⟨by omega, by omega⟩
theorem right_sess {s : StV} (h : s.Right) : ∀ x ∈ s.sess, SessFit x := fun x hx => by
  have := h.2.2.1.2.2.2 x hx
  unfold SessOk at this
  exact ⟨⟨by omega, by omega⟩, ⟨by omega, by omega⟩, ⟨by omega, by omega⟩, by omega⟩
theorem rdState_bytes {s : StV} (h : s.Right) : rdState s.bytes = s := by
  have h1 := h.1
  have h2 := h.2.1
  obtain ⟨r1, r2, _⟩ := rows_round s.pairs s.sess [] (right_pairs h) (right_sess h) (by have := h.len; omega) (by have := h.lens; omega)
  rw [List.append_nil] at r1 r2
  unfold rdState StV.bytes
  rw [rNum_be8 _ _ (by omega) (by omega)]
  simp only
  rw [rNum_be8 _ _ (by omega) (by omega)]
  simp only
  rw [r1, r2]
/-- A right state is read of its bytes. -/
theorem got_bytes {s : StV} (h : s.Right) : gotS s.bytes = s ∧ gotT s.bytes = true := by
  have e := rdState_bytes h
  unfold gotS gotT
  rw [e]
  exact ⟨if_pos ⟨h, rfl⟩, decide_eq_true ⟨h, rfl⟩⟩
end Go.Proofs.YthmjjhjblokjeaaGreat
