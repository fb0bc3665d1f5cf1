/-
  What is read step by step; rows that are read. No statement is proved here.
-/
import Derived.Test.YtjijdkdpmbfdmaaEntK
namespace Go.Proofs.Ytjijdkdpmbfdmaa
open Go.RowKit

/-- While something is read: a Reader at b, what is read so far at B, the answer's place at R. -/
structure Rdg (w0 w : World) (F : Nat → Prop) (R b B : Nat) (t : TypeId) (l : List UInt8) (bad : Bool) (cs zs : Array Value) : Prop where
  kept : Kept (fun k => k = b) w0 w
  rd : Rd w F b l bad
  out : w.heap[R]? = some (.cells zs t (0, 0))
  at_ : w.heap[B]? = some (.cells cs t (0, 0))
  nR : ¬ F R
  nB : ¬ F B
  ne : R ≠ B
  lB : w0.heap.size ≤ B
  lR : w0.heap.size ≤ R
section
variable {w0 w w' : World} {F : Nat → Prop} {R b B : Nat} {t : TypeId} {l l' : List UInt8} {bad bad' : Bool} {cs zs : Array Value}
theorem Rdg.next (h : Rdg w0 w F R b B t l bad cs zs) (h2 : Rd w' F b l' bad') (k2 : Kept (fun k => k = b) w w') : Rdg w0 w' F R b B t l' bad' cs zs :=
  ⟨h.kept.step k2, h2, k2.blk h.out (fun hr => h.nR (hr ▸ h2.foot)), k2.blk h.at_ (fun hr => h.nB (hr ▸ h2.foot)), h.nR, h.nB, h.ne, h.lB, h.lR⟩
theorem Rdg.set (h : Rdg w0 w F R b B t l bad cs zs) (j : Nat) (v : Value) : Rdg w0 (w.setCell ⟨B, j, none⟩ v) F R b B t l bad (cs.setIfInBounds j v) zs := by
  have k : Kept (fun k => k = B) w (w.setCell ⟨B, j, none⟩ v) := Kept.setCell w (by rfl) v
  exact ⟨h.kept.trans k (fun i hi hb => by have := h.lB; omega), h.rd.keep k (fun i hi hb => h.nB (hb ▸ hi)), k.blk h.out h.ne, heap_setCell_same w B j _ t v h.at_, h.nR, h.nB, h.ne, h.lB, h.lR⟩
theorem Rdg.froz (h : Rdg w0 w F R b B t l bad cs zs) (j : Nat) : w.frozen? ⟨B, j, none⟩ = false := frozen_of_row _ _ _ _ _ h.at_
theorem Rdg.cell (h : Rdg w0 w F R b B t l bad cs zs) (j : Nat) (v : Value) (hv : cs[j]? = some v) : w.cell? ⟨B, j, none⟩ = some v := by rw [cell_of_row _ _ _ _ _ _ h.at_]; exact hv
end
theorem Lies.lt {w : World} {F : Nat → Prop} {a : Option Addr} {xs : List Value} (h : Lies w F a xs) : Lies w (fun i => i < w.heap.size) a xs := fun hx => by
  obtain ⟨ad, e, _, hc⟩ := h hx
  refine ⟨ad, e, ?_, hc⟩
  cases xs with
  | nil => exact absurd rfl hx
  | cons x r =>
    have := World.block_lt_of_cell? w _ (hc 0 x rfl)
    rw [block_add] at this
    exact this
theorem Lies.of_rows {w : World} {F : Nat → Prop} {base n c size : Nat} {t : TypeId} {a : Option Addr} {xs : List Value} (h : w.ownsRow base t size (.slice a n c) n xs) (hF : ∀ k, (Value.slice a n c).ownBlock = some k → F k) : Lies w F a xs := fun hx => by
  rcases h.2 with ⟨_, rfl⟩ | ⟨g, cap, cur, e, _, hg, _, _, _, htk⟩
  · have := h.1
    rw [Nat.zero_mul] at this
    exact absurd (List.eq_nil_of_length_eq_zero this) hx
  · injection e with e
    subst e
    refine ⟨⟨g, 0, none⟩, rfl, hF g rfl, fun j u hu => ?_⟩
    rw [add_plain, Nat.zero_add, cell_of_row _ _ _ _ _ _ hg]
    rw [← htk, List.getElem?_take] at hu
    split at hu
    · simpa using hu
    · cases hu
theorem Kept.to {S : Nat → Prop} {w w' : World} (k : Kept noBlock w w') : Kept S w w' := k.mono (fun _ _ h => h.elim)
theorem rnum_r {w : World} {F : Nat → Prop} {b : Nat} {l l' : List UInt8} {bad bad' : Bool} {n : Int} (h : Rd w F b l bad) (hq : rNum l bad = (n, l', bad')) :
    Calls Try.prog 41 #[.pointer (some ⟨b, 0, none⟩)] w (Read w F b (.int .i64 n) (l', bad')) := by
  have := rnum_any b F l bad w h
  rw [hq] at this
  exact this
theorem rbyte_r {w : World} {F : Nat → Prop} {b : Nat} {l l' : List UInt8} {bad bad' : Bool} {n : UInt8} (h : Rd w F b l bad) (hq : rByte l bad = (n, l', bad')) :
    Calls Try.prog 57 #[.pointer (some ⟨b, 0, none⟩)] w (Read w F b (.int .u8 (n.toNat : Int)) (l', bad')) := by
  have := rbyte_any b F l bad w h
  rw [hq] at this
  exact this
theorem rtext_r {w : World} {F : Nat → Prop} {b : Nat} {l l' n : List UInt8} {bad bad' : Bool} (h : Rd w F b l bad) (hq : rText l bad = (n, l', bad')) :
    Calls Try.prog 44 #[.pointer (some ⟨b, 0, none⟩)] w (Read w F b (.string (str n)) (l', bad')) := by
  have := rtext_any b F l bad w h
  rw [hq] at this
  exact this
/-- A call that read something. -/
def ReadP (w : World) (F : Nat → Prop) (b : Nat) (v : Value) (q : List UInt8 × Bool) (e : Ending) (w' : World) : Prop := e = .returned v ∧ Rd w' F b q.1 q.2 ∧ Kept (fun k => k = b) w w'
def Fit (n : Int) : Prop := -9223372036854775808 ≤ n ∧ n ≤ 9223372036854775807
/-- What is read as a row. -/
def rdList {α : Type} (rd : List UInt8 → Bool → α × List UInt8 × Bool) : Nat → List UInt8 → Bool → List α × List UInt8 × Bool
  | 0, l, bad => ([], l, bad)
  | n + 1, l, bad => if bad = true then ([], l, bad) else ((rd l bad).1 :: (rdList rd n (rd l bad).2.1 (rd l bad).2.2).1, (rdList rd n (rd l bad).2.1 (rd l bad).2.2).2)
def rdRow {α : Type} (rd : List UInt8 → Bool → α × List UInt8 × Bool) (l : List UInt8) (bad : Bool) : List α × List UInt8 × Bool := rdList rd (rNum l bad).1.toNat (rNum l bad).2.1 (rNum l bad).2.2
theorem rdList_bad {α : Type} (rd : List UInt8 → Bool → α × List UInt8 × Bool) (n : Nat) (l : List UInt8) : rdList rd n l true = ([], l, true) := by cases n <;> simp [rdList]
theorem rNum_le (l : List UInt8) (bad : Bool) : (rNum l bad).2.1.length ≤ l.length := by
  unfold rNum
  split
  · exact Nat.le_refl _
  · simp
theorem rByte_le (l : List UInt8) (bad : Bool) : (rByte l bad).2.1.length ≤ l.length := by
  cases hb : (rByte l bad).2.2 with
  | false =>
    obtain ⟨_, e⟩ := rByte_inv (x := (rByte l bad).1) (r := (rByte l bad).2.1) (by rw [← hb])
    have := congrArg List.length e
    simp only [List.length_append, List.length_singleton] at this
    omega
  | true =>
    unfold rByte at hb ⊢
    split
    · exact Nat.le_refl _
    · rename_i h; rw [if_neg h] at hb; simp at hb
theorem rText_le (l : List UInt8) (bad : Bool) : (rText l bad).2.1.length ≤ l.length := by
  have h1 := rNum_le l bad
  obtain ⟨⟨n, l', b'⟩, hq⟩ : ∃ q, rNum l bad = q := ⟨_, rfl⟩
  unfold rText
  rw [hq] at h1 ⊢
  simp only at h1 ⊢
  split
  · exact h1
  · refine Nat.le_trans ?_ h1
    simp
section
variable {α : Type} {rd : List UInt8 → Bool → α × List UInt8 × Bool}
theorem rdList_le (hle : ∀ l bad, (rd l bad).2.1.length ≤ l.length) (n : Nat) : ∀ (l : List UInt8) (bad : Bool), (rdList rd n l bad).2.1.length ≤ l.length := by
  induction n with
  | zero => exact fun l _ => Nat.le_refl _
  | succ n ih =>
    intro l bad
    unfold rdList
    split
    · exact Nat.le_refl _
    · exact Nat.le_trans (ih _ _) (hle _ _)
theorem rdRow_le (hle : ∀ l bad, (rd l bad).2.1.length ≤ l.length) (l : List UInt8) (bad : Bool) : (rdRow rd l bad).2.1.length ≤ l.length := Nat.le_trans (rdList_le hle _ _ _) (rNum_le _ _)
theorem rdList_count (hrd : ∀ l x l', rd l false = (x, l', false) → l'.length + 1 ≤ l.length) (n : Nat) : ∀ (l : List UInt8) (bad : Bool), (rdList rd n l bad).1.length ≤ l.length + 1 := by
  induction n with
  | zero => intro l bad; simp [rdList]
  | succ n ih =>
    intro l bad
    unfold rdList
    split
    · simp
    · rename_i hb
      have hb : bad = false := by simpa using hb
      subst hb
      generalize hq : rd l false = q
      obtain ⟨x, l', b'⟩ := q
      simp only [List.length_cons]
      cases b' with
      | true => rw [rdList_bad]; simp
      | false =>
        have h1 := ih l' false
        have h2 := hrd l x l' hq
        omega
theorem rdRow_count (hrd : ∀ l x l', rd l false = (x, l', false) → l'.length + 1 ≤ l.length) (l : List UInt8) (bad : Bool) : (rdRow rd l bad).1.length ≤ l.length + 1 := Nat.le_trans (rdList_count hrd _ _ _) (Nat.succ_le_succ (rNum_le _ _))
end
theorem rdList_flat {α : Type} {rd : List UInt8 → Bool → α × List UInt8 × Bool} {f : α → List UInt8} (L : List α) (r : List UInt8) (h : ∀ x ∈ L, ∀ r, rd (f x ++ r) false = (x, r, false)) : rdList rd L.length (L.flatMap f ++ r) false = (L, r, false) := by
  induction L with
  | nil => rfl
  | cons x q ih =>
    rw [List.flatMap_cons, List.append_assoc, List.length_cons]
    unfold rdList
    rw [if_neg (by simp), h x (by simp)]
    simp only
    rw [ih (fun y hy => h y (by simp [hy]))]
theorem rdRow_flat {α : Type} {rd : List UInt8 → Bool → α × List UInt8 × Bool} {f : α → List UInt8} (L : List α) (r : List UInt8) (h : ∀ x ∈ L, ∀ r, rd (f x ++ r) false = (x, r, false)) (hl : L.length ≤ 9223372036854775807) : rdRow rd (be8 L.length ++ (L.flatMap f ++ r)) false = (L, r, false) := by
  unfold rdRow
  rw [rNum_be8 _ _ (by omega) (by omega)]
  simp only
  rw [Int.toNat_natCast, rdList_flat L r h]
end Go.Proofs.Ytjijdkdpmbfdmaa
