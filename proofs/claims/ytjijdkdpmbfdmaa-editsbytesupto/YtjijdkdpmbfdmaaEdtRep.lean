/-
  Lists of files that frames of edits make: plain mathematics. No statement is proved here.
-/
import Derived.Test.YtjijdkdpmbfdmaaCrcK
import Derived.Test.YtjijdkdpmbfdmaaEdt
namespace Go.Proofs.Ytjijdkdpmbfdmaa
open Go.RowKit Tot

theorem parted_one {b : List UInt8} {rs rs' : List (List UInt8)} {t t' : List UInt8} (h : Parted b rs t) (ht : (rd t).2.2 ≠ 0) (h' : Parted b rs' t') (ht' : (rd t').2.2 ≠ 0) : rs = rs' := by
  obtain ⟨m, e1, _⟩ := Parted.first ht h h'
  obtain ⟨m', e1', _⟩ := Parted.first ht' h' h
  have l1 := congrArg List.length e1
  have l2 := congrArg List.length e1'
  rw [List.length_append] at l1 l2
  obtain rfl : m = [] := List.eq_nil_of_length_eq_zero (by omega)
  rw [e1, List.append_nil]
theorem parted_exists (n : Nat) : ∀ b : List UInt8, b.length ≤ n → ∃ rs t, Parted b rs t ∧ (rd t).2.2 ≠ 0 := by
  induction n with
  | zero =>
    intro b hb
    obtain rfl : b = [] := List.eq_nil_of_length_eq_zero (by omega)
    exact ⟨[], [], ⟨rfl, fun _ h => by cases h⟩, by rw [rd_nil]; decide⟩
  | succ n ih =>
    intro b hb
    by_cases h0 : (rd b).2.2 = 0
    · obtain ⟨h1, h2, h3⟩ := rd_ok h0
      obtain ⟨rs, t, hp, ht⟩ := ih (b.drop (rd b).2.1) (by rw [List.length_drop]; omega)
      refine ⟨(rd b).1 :: rs, t, ⟨?_, fun r hr => ?_⟩, ht⟩
      · rw [joined_cons, List.append_assoc, ← hp.is]
        exact h3
      · rcases List.mem_cons.1 hr with rfl | hr
        · exact h1
        · exact hp.fit r hr
    · exact ⟨[], b, ⟨rfl, fun _ h => by cases h⟩, h0⟩
/-- One edit more, that bytes have. -/
def replS (N : Fls) (f : Int) (r : List UInt8) : Option (Fls × Int) := if gotEB r = true ∧ (doE N f (gotE r)).2 = 0 then some ((doE N f (gotE r)).1, (gotE r).floor) else none
/-- The list that rows of bytes make, if they are edits', and can be done. -/
def replV : Fls → Int → List (List UInt8) → Option (Fls × Int)
  | N, f, [] => some (N, f)
  | N, f, r :: rs => (replS N f r).bind fun q => replV q.1 q.2 rs
theorem replV_append (a b : List (List UInt8)) : ∀ (N : Fls) (f : Int), replV N f (a ++ b) = (replV N f a).bind fun q => replV q.1 q.2 b := by
  induction a with
  | nil => intro N f; rfl
  | cons r a ih =>
    intro N f
    simp only [List.cons_append, replV]
    cases replS N f r with
    | none => rfl
    | some q => exact ih q.1 q.2
theorem replV_snoc (a : List (List UInt8)) (r : List UInt8) (N : Fls) (f : Int) : replV N f (a ++ [r]) = (replV N f a).bind fun q => replS q.1 q.2 r := by
  rw [replV_append]
  congr 1
  funext q
  simp only [replV]
  cases replS q.1 q.2 r <;> rfl
theorem replS_good {N : Fls} {f : Int} {r : List UInt8} {q : Fls × Int} (h : Good N) (hq : replS N f r = some q) : Good q.1 := by
  unfold replS at hq
  split at hq
  · injection hq with hq
    subst hq
    exact doE_good h
  · cases hq
/-- What bytes make. -/
def replR (rs : List (List UInt8)) : (Fls × Int) × (Nat × Int) :=
  match replV [] 0 rs with
  | some q => (q, ((joined rs).length, 0))
  | none => (([], 0), (0, 10))
/-- What was read of a frame's bytes is short. -/
theorem rd_fits {r : List UInt8} (h : gotEB r = true) (hr : r.length ≤ 16384) : 24 + (gotE r).add.length + (gotE r).drop.length ≤ r.length ∧ ∀ k ∈ (gotE r).drop, k.size ≤ maxLen := by
  obtain ⟨_, h2⟩ := gotEB_true h
  have h3 := congrArg List.length h2
  rw [EditV.bytes_length] at h3
  have h4 : ∀ l : List RefV, l.length ≤ (l.flatMap refB).length := fun l => by
    induction l with
    | nil => simp
    | cons p q ih => rw [List.flatMap_cons, List.length_append, refB_length, List.length_cons]; omega
  have h5 : ∀ l : List ByteArray, l.length ≤ (l.flatMap tx).length ∧ ∀ k ∈ l, k.size ≤ (l.flatMap tx).length := fun l => by
    induction l with
    | nil => simp
    | cons p q ih =>
      rw [List.flatMap_cons, List.length_append, tx_length, List.length_cons]
      refine ⟨by omega, fun k hk => ?_⟩
      rcases List.mem_cons.1 hk with rfl | hk
      · omega
      · have := ih.2 k hk; omega
  have h6 := h4 (gotE r).add
  have h7 := h5 (gotE r).drop
  refine ⟨by omega, fun k hk => ?_⟩
  have := h7.2 k hk
  unfold maxLen
  omega
theorem rText_sz (l : List UInt8) (bad : Bool) : (rText l bad).1.length ≤ l.length := by
  have h1 := rNum_le l bad
  obtain ⟨⟨n, l', b'⟩, hq⟩ : ∃ q, rNum l bad = q := ⟨_, rfl⟩
  unfold rText
  rw [hq] at h1 ⊢
  simp only at h1 ⊢
  split
  · simp
  · rw [List.length_take]; omega
section
variable {α : Type} {rd' : List UInt8 → Bool → α × List UInt8 × Bool} {g : α → Nat}
theorem rdList_all (hle : ∀ l bad, (rd' l bad).2.1.length ≤ l.length) (hg : ∀ l bad, g (rd' l bad).1 ≤ l.length) (n : Nat) : ∀ (l : List UInt8) (bad : Bool), ∀ x ∈ (rdList rd' n l bad).1, g x ≤ l.length := by
  induction n with
  | zero => intro l bad x hx; simp [rdList] at hx
  | succ n ih =>
    intro l bad x hx
    unfold rdList at hx
    split at hx
    · simp at hx
    · simp only [List.mem_cons] at hx
      rcases hx with rfl | hx
      · exact hg l bad
      · exact Nat.le_trans (ih _ _ x hx) (hle l bad)
theorem rdRow_all (hle : ∀ l bad, (rd' l bad).2.1.length ≤ l.length) (hg : ∀ l bad, g (rd' l bad).1 ≤ l.length) (l : List UInt8) (bad : Bool) : ∀ x ∈ (rdRow rd' l bad).1, g x ≤ l.length := fun x hx => Nat.le_trans (rdList_all hle hg _ _ _ x hx) (rNum_le _ _)
end
theorem rdRef_le (l : List UInt8) (bad : Bool) : (rdRef l bad).2.1.length ≤ l.length := by
  unfold rdRef
  simp only
  exact Nat.le_trans (rNum_le _ _) (Nat.le_trans (rNum_le _ _) (Nat.le_trans (rByte_le _ _) (rText_le _ _)))
theorem rdRef_sz (l : List UInt8) (bad : Bool) : (rdRef l bad).1.name.size ≤ l.length := by
  unfold rdRef
  simp only
  rw [str_size]
  exact rText_sz l bad
theorem rdName_le (l : List UInt8) (bad : Bool) : (rdName l bad).2.1.length ≤ l.length := rText_le l bad
theorem rdName_sz (l : List UInt8) (bad : Bool) : (rdName l bad).1.size ≤ l.length := by
  unfold rdName
  simp only
  rw [str_size]
  exact rText_sz l bad
theorem rdRef_len {l l' : List UInt8} {x : RefV} (h : rdRef l false = (x, l', false)) : l'.length + 25 ≤ l.length := by
  revert h
  unfold rdRef
  simp only
  generalize hq1 : rText l false = q1
  obtain ⟨n1, l1, b1⟩ := q1
  generalize hq2 : rByte l1 b1 = q2
  obtain ⟨n2, l2, b2⟩ := q2
  generalize hq3 : rNum l2 b2 = q3
  obtain ⟨n3, l3, b3⟩ := q3
  generalize hq4 : rNum l3 b3 = q4
  obtain ⟨n4, l4, b4⟩ := q4
  intro h
  simp only [Prod.mk.injEq] at h
  obtain ⟨_, rfl, rfl⟩ := h
  obtain ⟨rfl, rfl⟩ := rNum_inv hq4
  obtain ⟨rfl, rfl⟩ := rNum_inv hq3
  obtain ⟨rfl, rfl⟩ := rByte_inv hq2
  obtain ⟨_, rfl⟩ := rText_inv hq1
  simp only [List.length_append, tx_length, be8_length, List.length_singleton]
  omega
theorem rdName_len {l l' : List UInt8} {x : ByteArray} (h : rdName l false = (x, l', false)) : l'.length + 8 ≤ l.length := by
  revert h
  unfold rdName
  generalize hq1 : rText l false = q1
  obtain ⟨n1, l1, b1⟩ := q1
  intro h
  simp only [Prod.mk.injEq] at h
  obtain ⟨_, rfl, rfl⟩ := h
  obtain ⟨_, rfl⟩ := rText_inv hq1
  simp only [List.length_append, tx_length]
  omega
theorem flatMap_cap {α : Type} (f : α → List UInt8) (c : Nat) (L : List α) (h : ∀ x ∈ L, (f x).length ≤ c) : (L.flatMap f).length ≤ L.length * c := by
  induction L with
  | nil => simp
  | cons x r ih =>
    rw [List.flatMap_cons, List.length_append, List.length_cons, Nat.add_mul, Nat.one_mul]
    have h1 := h x (by simp)
    have h2 := ih (fun y hy => h y (by simp [hy]))
    omega
/-- What is read of short bytes is not great. -/
theorem rdEdit_bound (l : List UInt8) (n : Nat) (hl : l.length = n) (hn : n ≤ 4000000) : (rdEdit l).add.length ≤ 1000000000000 ∧ (rdEdit l).drop.length ≤ 1000000000000 ∧ (rdEdit l).bytes.length ≤ 140737488355328 := by
  have e1 : (rdEdit l).add = (rdRow rdRef (rNum l false).2.1 (rNum l false).2.2).1 := rfl
  have e2 : (rdEdit l).drop = (rdRow rdName (rdRow rdRef (rNum l false).2.1 (rNum l false).2.2).2.1 (rdRow rdRef (rNum l false).2.1 (rNum l false).2.2).2.2).1 := rfl
  have h1 := rNum_le l false
  generalize (rNum l false).2.1 = l1 at e1 e2 h1
  generalize (rNum l false).2.2 = b1 at e1 e2
  have h2 := rdRow_le rdRef_le l1 b1
  have h3 := rdRow_count (fun l x l' h => by have := rdRef_len (l := l) (l' := l') (x := x) h; omega) l1 b1
  have h4 := rdRow_all (g := fun r : RefV => r.name.size) rdRef_le rdRef_sz l1 b1
  rw [← e1] at h3 h4
  generalize (rdRow rdRef l1 b1).2.1 = l2 at e2 h2
  generalize (rdRow rdRef l1 b1).2.2 = b2 at e2
  have h5 := rdRow_count (fun l x l' h => by have := rdName_len (l := l) (l' := l') (x := x) h; omega) l2 b2
  have h6 := rdRow_all (g := fun r : ByteArray => r.size) rdName_le rdName_sz l2 b2
  rw [← e2] at h5 h6
  have h7 := flatMap_cap refB (25 + n) (rdEdit l).add (fun x hx => by rw [refB_length]; have := h4 x hx; omega)
  have h8 := flatMap_cap tx (8 + n) (rdEdit l).drop (fun x hx => by rw [tx_length]; have := h6 x hx; omega)
  refine ⟨by omega, by omega, ?_⟩
  rw [EditV.bytes_length]
  have h9 : (rdEdit l).add.length * (25 + n) ≤ 4000001 * 4000025 := Nat.mul_le_mul (by omega) (by omega)
  have h10 : (rdEdit l).drop.length * (8 + n) ≤ 4000001 * 4000008 := Nat.mul_le_mul (by omega) (by omega)
  omega
end Go.Proofs.Ytjijdkdpmbfdmaa
