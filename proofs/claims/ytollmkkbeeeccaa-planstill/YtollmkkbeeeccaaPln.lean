/-
  Files in order, and restore plans, in plain words: plain mathematics. No statement is proved here.
-/
import Derived.Test.YtollmkkbeeeccaaEdt
namespace Go.Proofs.Ytollmkkbeeeccaa
open Go.RowKit Tot

instance : Inhabited RefV := ⟨noRef⟩
/-- How two files stand: by From, then by To. -/
def cmpI (a b : Int) : Int := if a < b then -1 else if b < a then 1 else 0
def cmpR (a b : RefV) : Int := if cmpI a.from_ b.from_ = 0 then cmpI a.to_ b.to_ else cmpI a.from_ b.from_
def ltR (a b : RefV) : Bool := decide (cmpR a b < 0)
theorem ltR_iff (a b : RefV) : ltR a b = true ↔ a.from_ < b.from_ ∨ a.from_ = b.from_ ∧ a.to_ < b.to_ := by
  unfold ltR cmpR cmpI
  rw [decide_eq_true_iff]
  split <;> split <;> (try split) <;> (try split) <;> omega
theorem ltR_false (a b : RefV) : ltR a b = false ↔ b.from_ < a.from_ ∨ a.from_ = b.from_ ∧ b.to_ ≤ a.to_ := by
  rw [← Bool.not_eq_true, ltR_iff]
  omega
theorem cmpR_pos (a b : RefV) : 0 < cmpR a b ↔ b.from_ < a.from_ ∨ a.from_ = b.from_ ∧ b.to_ < a.to_ := by
  unfold cmpR cmpI
  split <;> split <;> (try split) <;> (try split) <;> omega
theorem cmpR_ge (a b : RefV) : 0 ≤ cmpR a b ↔ ltR a b = false := by
  rw [ltR, decide_eq_false_iff_not, Int.not_lt]

/-- A file laid into files that fall: ahead of all that are not behind it. -/
def insR (x : RefV) : List RefV → List RefV
  | [] => [x]
  | y :: r => if ltR x y = true then y :: insR x r else x :: y :: r
def ordR (l : List RefV) : List RefV := l.foldl (fun a x => insR x a) []
/-- The files in order. -/
def ordV (l : List RefV) : List RefV := (ordR l).reverse
def ofK (k : Int) (l : List RefV) : List RefV := l.filter (fun r => decide (r.kind = k))
def ordK (k : Int) (l : List RefV) : List RefV := ordV (ofK k l)
theorem ordR_snoc (l : List RefV) (x : RefV) : ordR (l ++ [x]) = insR x (ordR l) := by unfold ordR; rw [List.foldl_append]; rfl
theorem insR_len (x : RefV) : ∀ l, (insR x l).length = l.length + 1
  | [] => rfl
  | y :: r => by
    unfold insR
    split
    · rw [List.length_cons, insR_len x r, List.length_cons]
    · rfl
theorem ordR_len (l : List RefV) : (ordR l).length = l.length := by
  induction l using rev_ind with
  | h0 => rfl
  | h1 l a ih => rw [ordR_snoc, insR_len, ih, List.length_append]; rfl
theorem ordV_len (l : List RefV) : (ordV l).length = l.length := by unfold ordV; rw [List.length_reverse, ordR_len]
theorem mem_insR (x r : RefV) : ∀ l, r ∈ insR x l ↔ r = x ∨ r ∈ l
  | [] => by unfold insR; simp
  | y :: t => by
    unfold insR
    split
    · rw [List.mem_cons, mem_insR x r t, List.mem_cons]
      constructor
      · rintro (h | h | h)
        · exact .inr (.inl h)
        · exact .inl h
        · exact .inr (.inr h)
      · rintro (h | h | h)
        · exact .inr (.inl h)
        · exact .inl h
        · exact .inr (.inr h)
    · rw [List.mem_cons]
theorem mem_ordR (l : List RefV) (r : RefV) : r ∈ ordR l ↔ r ∈ l := by
  induction l using rev_ind with
  | h0 => simp [ordR]
  | h1 l a ih => rw [ordR_snoc, mem_insR, ih, List.mem_append, List.mem_singleton]; exact Or.comm
theorem mem_ordV (l : List RefV) (r : RefV) : r ∈ ordV l ↔ r ∈ l := by unfold ordV; rw [List.mem_reverse, mem_ordR]
theorem mem_ordK {k : Int} {l : List RefV} {r : RefV} : r ∈ ordK k l ↔ r ∈ l ∧ r.kind = k := by unfold ordK ofK; rw [mem_ordV, List.mem_filter, decide_eq_true_iff]
/-- Files that fall. -/
def Falls (l : List RefV) : Prop := l.Pairwise (fun a b => ltR a b = false)
theorem insR_falls (x : RefV) : ∀ {l}, Falls l → Falls (insR x l)
  | [], _ => List.pairwise_singleton _ _
  | y :: t, h => by
    obtain ⟨h1, h2⟩ := List.pairwise_cons.1 h
    unfold insR
    split
    · rename_i hlt
      refine List.pairwise_cons.2 ⟨fun b hb => ?_, insR_falls x h2⟩
      rcases (mem_insR x b t).1 hb with rfl | hb
      · rw [ltR_iff] at hlt
        rw [ltR_false]
        omega
      · exact h1 b hb
    · rename_i hlt
      have hlt := (Bool.not_eq_true _).mp hlt
      refine List.pairwise_cons.2 ⟨fun b hb => ?_, h⟩
      rcases List.mem_cons.1 hb with rfl | hb
      · exact hlt
      · have h3 := h1 b hb
        rw [ltR_false] at hlt h3 ⊢
        omega
theorem ordR_falls (l : List RefV) : Falls (ordR l) := by
  induction l using rev_ind with
  | h0 => exact List.Pairwise.nil
  | h1 l a ih => rw [ordR_snoc]; exact insR_falls a ih
/-- Files that rise. -/
def Rises (l : List RefV) : Prop := l.Pairwise (fun a b => ltR b a = false)
theorem ordV_rises (l : List RefV) : Rises (ordV l) := List.pairwise_reverse.2 (ordR_falls l)
theorem Rises.from_le {l : List RefV} (h : Rises l) {i j : Nat} {a b : RefV} (hij : i < j) (ha : l[i]? = some a) (hb : l[j]? = some b) : a.from_ ≤ b.from_ := by
  obtain ⟨h1, e1⟩ := List.getElem?_eq_some_iff.1 ha
  obtain ⟨h2, e2⟩ := List.getElem?_eq_some_iff.1 hb
  have := List.pairwise_iff_getElem.1 h i j h1 h2 hij
  rw [e1, e2, ltR_false] at this
  omega
theorem insR_filter (p : RefV → Bool) (x : RefV) : ∀ {l}, Falls l → (insR x l).filter p = if p x = true then insR x (l.filter p) else l.filter p
  | [], _ => by
    unfold insR
    by_cases hp : p x = true
    · simp [hp]
    · simp [hp]
  | y :: t, h => by
    obtain ⟨h1, h2⟩ := List.pairwise_cons.1 h
    have ih := insR_filter p x h2
    by_cases hlt : ltR x y = true
    · rw [insR, if_pos hlt]
      by_cases hy : p y = true
      · rw [List.filter_cons_of_pos hy, List.filter_cons_of_pos hy, ih]
        split
        · rw [insR, if_pos hlt]
        · rfl
      · rw [List.filter_cons_of_neg hy, List.filter_cons_of_neg hy, ih]
    · rw [insR, if_neg hlt]
      have hlt := (Bool.not_eq_true _).mp hlt
      by_cases hx : p x = true
      · rw [List.filter_cons_of_pos hx, if_pos hx]
        cases hf : (y :: t).filter p with
        | nil => rfl
        | cons z r =>
          have hz : z ∈ y :: t := (List.mem_filter.1 (by rw [hf]; exact List.mem_cons_self : z ∈ (y :: t).filter p)).1
          have hxz : ltR x z = false := by
            rcases List.mem_cons.1 hz with rfl | hz
            · exact hlt
            · have h3 := h1 z hz
              rw [ltR_false] at hlt h3 ⊢
              omega
          rw [insR, hxz, if_neg (by simp)]
      · rw [List.filter_cons_of_neg hx, if_neg hx]
theorem ordR_filter (p : RefV → Bool) (l : List RefV) : ordR (l.filter p) = (ordR l).filter p := by
  induction l using rev_ind with
  | h0 => rfl
  | h1 l a ih =>
    rw [ordR_snoc, insR_filter p a (ordR_falls l), List.filter_append]
    by_cases hp : p a = true
    · rw [if_pos hp, List.filter_cons_of_pos hp, List.filter_nil, ordR_snoc, ih]
    · rw [if_neg hp, List.filter_cons_of_neg hp, List.filter_nil, List.append_nil, ih]
theorem ordV_filter (p : RefV → Bool) (l : List RefV) : ordV (l.filter p) = (ordV l).filter p := by unfold ordV; rw [ordR_filter, List.filter_reverse]
theorem ordK_filter (p : RefV → Bool) (k : Int) (l : List RefV) : ordK k (l.filter p) = (ordK k l).filter p := by
  unfold ordK ofK
  rw [List.filter_filter, show (fun a => decide (RefV.kind a = k) && p a) = (fun a => p a && decide (RefV.kind a = k)) from funext fun a => Bool.and_comm _ _, ← List.filter_filter, ordV_filter]

/-- The last full file up to an index. -/
def fullV (l : List RefV) (i : Int) : Option RefV := l.foldl (fun a r => if r.to_ ≤ i then some r else a) none
def toV : Option RefV → Int
  | none => 0
  | some r => r.to_
/-- Deltas that lead on. -/
def dltS (i : Int) (a : List RefV × Int) (r : RefV) : List RefV × Int := if r.from_ = a.2 ∧ a.2 < r.to_ ∧ r.to_ ≤ i then (a.1 ++ [r], r.to_) else a
def dltV (l : List RefV) (p i : Int) : List RefV × Int := l.foldl (dltS i) ([], p)
/-- Where parts end. -/
def endsV (n : Int) : List RefV → List (RefV × Int)
  | [] => []
  | [r] => [(r, max r.to_ n)]
  | r :: s :: l => (r, r.to_) :: endsV n (s :: l)
/-- Parts that lead on. -/
def prtS (i : Int) (a : List RefV × Int) (r : RefV × Int) : List RefV × Int := if a.2 < i ∧ r.1.from_ ≤ a.2 ∧ a.2 < r.2 then (a.1 ++ [r.1], r.2) else a
def prtV (l : List RefV) (p n i : Int) : List RefV × Int := (endsV n l).foldl (prtS i) ([], p)
/-- A plan. -/
structure PlnV where
  full : Option RefV
  deltas : List RefV
  parts : List RefV
def noPln : PlnV := ⟨none, [], []⟩
def posF (L : List RefV) (i : Int) : Int := toV (fullV (ordK 0 L) i)
def posD (L : List RefV) (i : Int) : List RefV × Int := dltV (ordK 1 L) (posF L i) i
def posP (L : List RefV) (n i : Int) : List RefV × Int := prtV (ordK 2 L) (posD L i).2 n i
def planV (L : List RefV) (f n i : Int) : PlnV × Int :=
  if i < f ∨ n < i then (noPln, 9) else if (posP L n i).2 < i then (noPln, 9) else (⟨fullV (ordK 0 L) i, (posD L i).1, (posP L n i).1⟩, 0)

theorem endsV_len (n : Int) : ∀ l, (endsV n l).length = l.length
  | [] => rfl
  | [r] => rfl
  | r :: s :: l => by rw [endsV, List.length_cons, endsV_len n (s :: l)]; rfl
theorem endsV_at (n : Int) : ∀ (l : List RefV) (k : Nat) (r : RefV), l[k]? = some r → (endsV n l)[k]? = some (r, if k + 1 = l.length then max r.to_ n else r.to_)
  | [], k, r, h => by cases h
  | [x], k, r, h => by
    cases k with
    | zero => injection h with h; subst h; rfl
    | succ k => simp at h
  | x :: s :: l, k, r, h => by
    cases k with
    | zero =>
      injection h with h
      subst h
      rw [endsV, List.getElem?_cons_zero, if_neg (by simp)]
    | succ k =>
      rw [endsV, List.getElem?_cons_succ, endsV_at n (s :: l) k r (by simpa using h)]
      simp only [List.length_cons, Nat.add_right_cancel_iff]

/-- The place of the last part, and which it is. -/
def lastS (a : Option (Nat × RefV)) (x : RefV × Nat) : Option (Nat × RefV) :=
  if x.1.kind = 2 then (match a with | none => some (x.2, x.1) | some (_, c) => if ltR x.1 c = true then a else some (x.2, x.1)) else a
def lastV (L : List RefV) : Option (Nat × RefV) := L.zipIdx.foldl lastS none
theorem lastV_snoc (L : List RefV) (x : RefV) : lastV (L ++ [x]) = lastS (lastV L) (x, L.length) := by
  unfold lastV
  rw [List.zipIdx_append, List.foldl_append]
  simp
theorem lastV_at (L : List RefV) : ∀ k r, lastV L = some (k, r) → L[k]? = some r ∧ r.kind = 2 := by
  induction L using rev_ind with
  | h0 => intro k r h; cases h
  | h1 L a ih =>
    intro k r h
    rw [lastV_snoc] at h
    have hold : lastV L = some (k, r) → (L ++ [a])[k]? = some r ∧ r.kind = 2 := fun h => by
      obtain ⟨h1, h2⟩ := ih k r h
      refine ⟨?_, h2⟩
      rw [List.getElem?_append_left (List.getElem?_eq_some_iff.1 h1).1]
      exact h1
    have hnew : a.kind = 2 → some (L.length, a) = some (k, r) → (L ++ [a])[k]? = some r ∧ r.kind = 2 := fun h2 h => by
      injection h with h
      injection h with h3 h4
      subst h3; subst h4
      exact ⟨by simp, h2⟩
    unfold lastS at h
    simp only at h
    split at h
    · rename_i h2
      split at h
      · exact hnew h2 h
      · rename_i he
        split at h
        · exact hold (by rw [he] at h; rw [he]; exact h)
        · exact hnew h2 h
    · exact hold h
theorem lastV_ord (L : List RefV) : (lastV L).map (·.2) = (ordR (ofK 2 L)).head? := by
  induction L using rev_ind with
  | h0 => rfl
  | h1 L a ih =>
    rw [lastV_snoc]
    unfold ofK at ih ⊢
    rw [List.filter_append]
    unfold lastS
    simp only
    by_cases h2 : a.kind = 2
    · rw [if_pos h2, List.filter_cons_of_pos (by simpa using h2), List.filter_nil, ordR_snoc]
      cases he : lastV L with
      | none =>
        rw [he] at ih
        cases hl : ordR (L.filter fun r => decide (r.kind = 2)) with
        | nil => simp [insR]
        | cons y t => rw [hl] at ih; simp at ih
      | some q =>
        obtain ⟨k, c⟩ := q
        rw [he] at ih
        cases hl : ordR (L.filter fun r => decide (r.kind = 2)) with
        | nil => rw [hl] at ih; simp at ih
        | cons y t =>
          rw [hl] at ih
          simp only [Option.map_some, List.head?_cons, Option.some.injEq] at ih
          subst ih
          simp only
          rw [insR]
          split <;> simp
    · rw [if_neg h2, List.filter_cons_of_neg (by simpa using h2), List.filter_nil, List.append_nil]
      exact ih
/-- From where each index is restored. -/
def baseS (f : Int) (b : Int) (r : RefV) : Int := if r.kind = 0 ∧ r.to_ ≤ f then max b r.to_ else b
def aheadV (r : RefV) (b : Int) : Bool := if r.kind = 0 then decide (r.to_ < b) else decide (r.to_ ≤ b) && decide (r.from_ < b)
/-- Where full files end, up to a floor. -/
def tosV (L : List RefV) (f : Int) : List Int := (L.filter (fun r => decide (r.kind = 0 ∧ r.to_ ≤ f))).map (·.to_)
def maxV : List Int → Int
  | [] => -1
  | x :: l => l.foldl max x
def baseV (L : List RefV) (f : Int) : Int := maxV (tosV L f)
/-- The names of what is not needed. -/
def unnV (L : List RefV) (f : Int) : List ByteArray := ((L.zipIdx).filter (fun x => decide ((lastV L).map (·.1) ≠ some x.2) && aheadV x.1 (baseV L f))).map (·.1.name)
/-- Two deltas that may be joined. -/
def fromV (l : List RefV) (p : Int) : Option Nat := l.findIdx? (fun y => decide (y.from_ = p ∧ p < y.to_))
def pairS (l : List RefV) : List RefV → Option (RefV × RefV)
  | [] => none
  | x :: t => match fromV l x.to_ with
    | none => pairS l t
    | some k => some (x, l[k]?.getD noRef)
def pairV (L : List RefV) : Option (RefV × RefV) := pairS (ordK 1 L) (ordK 1 L)
end Go.Proofs.Ytollmkkbeeeccaa
