/-
  Keys that rise, as lists: where a key stands, what a key has, putting, taking away, and two rows that are one. No statement is proved here.
-/
import GoSem.Op.String
namespace Go.Proofs.Ytollmkkbeeeccaa

/-- An order in which two that are not the same are apart. -/
class Tot (α : Type) where
  lt : α → α → Bool
  irr : ∀ a, lt a a = false
  tr : ∀ {a b c}, lt a b = true → lt b c = true → lt a c = true
  tot : ∀ {a b}, lt a b = false → lt b a = false → a = b
  eqd : DecidableEq α
instance {α : Type} [Tot α] : DecidableEq α := Tot.eqd
instance : Tot Int := ⟨fun a b => decide (a < b), by simp, by intro a b c h1 h2; simp at *; omega, by intro a b h1 h2; simp at *; omega, inferInstance⟩

theorem less_irr : ∀ l : List UInt8, Op.bytesLess l l = false
  | [] => rfl
  | a :: r => by simp [Op.bytesLess, less_irr r]
theorem less_tr : ∀ {a b c : List UInt8}, Op.bytesLess a b = true → Op.bytesLess b c = true → Op.bytesLess a c = true
  | _, [], _, h, _ => by simp [Op.bytesLess] at h
  | _, _ :: _, [], _, h => by simp [Op.bytesLess] at h
  | [], _ :: _, _ :: _, _, _ => rfl
  | x :: a, y :: b, z :: c, h1, h2 => by
    simp only [Op.bytesLess, Bool.or_eq_true, Bool.and_eq_true, decide_eq_true_eq, beq_iff_eq] at h1 h2 ⊢
    rcases h1 with h1 | ⟨rfl, h1⟩ <;> rcases h2 with h2 | ⟨rfl, h2⟩
    · exact .inl (by rw [UInt8.lt_iff_toNat_lt] at *; omega)
    · exact .inl h1
    · exact .inl h2
    · exact .inr ⟨rfl, less_tr h1 h2⟩
theorem less_tot : ∀ {a b : List UInt8}, Op.bytesLess a b = false → Op.bytesLess b a = false → a = b
  | [], [], _, _ => rfl
  | [], _ :: _, h, _ => by simp [Op.bytesLess] at h
  | _ :: _, [], _, h => by simp [Op.bytesLess] at h
  | x :: a, y :: b, h1, h2 => by
    simp only [Op.bytesLess, Bool.or_eq_false_iff, Bool.and_eq_false_iff, decide_eq_false_iff_not, beq_eq_false_iff_ne] at h1 h2
    have e : x = y := by
      have h3 := h1.1
      have h4 := h2.1
      rw [UInt8.lt_iff_toNat_lt] at h3 h4
      exact UInt8.toNat_inj.1 (by omega)
    subst e
    rw [less_tot (h1.2.resolve_left (by simp)) (h2.2.resolve_left (by simp))]
instance : Tot (List UInt8) := ⟨Op.bytesLess, less_irr, less_tr, less_tot, inferInstance⟩

namespace Srt
variable {α β : Type} [Tot α]
open Tot

theorem asym {a b : α} (h : lt a b = true) : lt b a = false := by
  cases hb : lt b a with
  | false => rfl
  | true => have := tr h hb; rw [irr] at this; cases this
theorem ne_of_lt {a b : α} (h : lt a b = true) : a ≠ b := fun e => by rw [e, irr] at h; cases h
theorem lt_of_ne {a b : α} (h : lt a b = false) (hn : a ≠ b) : lt b a = true := by
  cases hb : lt b a with
  | true => rfl
  | false => exact absurd (tot h hb) hn

/-- The keys rise. -/
def Up (L : List (α × β)) : Prop := L.Pairwise fun p q => lt p.1 q.1 = true
/-- How many keys are ahead of k. -/
def pos (L : List (α × β)) (k : α) : Nat := (L.takeWhile fun p => lt p.1 k).length
def look (L : List (α × β)) (k : α) : Option β := (L.find? fun p => decide (p.1 = k)).map (·.2)
def has (L : List (α × β)) (k : α) : Bool := (look L k).isSome
def put (L : List (α × β)) (k : α) (v : β) : List (α × β) := if has L k = true then L.set (pos L k) (k, v) else L.take (pos L k) ++ (k, v) :: L.drop (pos L k)
def del (L : List (α × β)) (k : α) : List (α × β) := if has L k = true then L.take (pos L k) ++ L.drop (pos L k + 1) else L

theorem Up.tail {p : α × β} {r : List (α × β)} (h : Up (p :: r)) : Up r := (List.pairwise_cons.1 h).2
theorem Up.head {p : α × β} {r : List (α × β)} (h : Up (p :: r)) : ∀ q ∈ r, lt p.1 q.1 = true := (List.pairwise_cons.1 h).1
theorem pos_le (L : List (α × β)) (k : α) : pos L k ≤ L.length := by unfold pos; exact (List.takeWhile_sublist _).length_le
theorem pos_cons (p : α × β) (r : List (α × β)) (k : α) : pos (p :: r) k = if lt p.1 k = true then pos r k + 1 else 0 := by
  unfold pos
  rw [List.takeWhile_cons]
  split <;> simp_all
theorem look_cons (p : α × β) (r : List (α × β)) (k : α) : look (p :: r) k = if p.1 = k then some p.2 else look r k := by
  unfold look
  rw [List.find?_cons]
  by_cases h : p.1 = k <;> simp [h]
theorem look_nil (k : α) : look ([] : List (α × β)) k = none := rfl
theorem look_none_of {L : List (α × β)} {k : α} (h : ∀ p ∈ L, p.1 ≠ k) : look L k = none := by
  induction L with
  | nil => rfl
  | cons p r ih =>
    rw [look_cons, if_neg (h p (by simp)), ih (fun q hq => h q (by simp [hq]))]
theorem mem_of_look {L : List (α × β)} {k : α} {v : β} (h : look L k = some v) : (k, v) ∈ L := by
  induction L with
  | nil => cases h
  | cons p r ih =>
    rw [look_cons] at h
    split at h
    · rename_i e
      injection h with h
      subst e h
      simp
    · simp [ih h]
theorem look_of_mem {L : List (α × β)} (hu : Up L) {k : α} {v : β} (h : (k, v) ∈ L) : look L k = some v := by
  induction L with
  | nil => cases h
  | cons p r ih =>
    rw [look_cons]
    rcases List.mem_cons.1 h with e | h
    · subst e; simp
    · rw [if_neg (ne_of_lt (hu.head _ h)), ih hu.tail h]
theorem has_iff (L : List (α × β)) (k : α) : has L k = true ↔ ∃ v, look L k = some v := by unfold has; rw [Option.isSome_iff_exists]
theorem has_false (L : List (α × β)) (k : α) : has L k = false ↔ look L k = none := by unfold has; simp
/-- Below its place all keys are ahead of k. -/
theorem pos_below {L : List (α × β)} {k : α} {m : Nat} {p : α × β} (hm : m < pos L k) (hp : L[m]? = some p) : lt p.1 k = true := by
  induction L generalizing m with
  | nil => simp at hp
  | cons q r ih =>
    rw [pos_cons] at hm
    by_cases hq : lt q.1 k = true
    · rw [if_pos hq] at hm
      cases m with
      | zero => simp at hp; subst hp; exact hq
      | succ m => exact ih (Nat.lt_of_succ_lt_succ hm) (by simpa using hp)
    · rw [if_neg hq] at hm
      exact absurd hm (Nat.not_lt_zero _)
theorem pos_at {L : List (α × β)} {k : α} {p : α × β} (hp : L[pos L k]? = some p) : lt p.1 k = false := by
  induction L with
  | nil => simp at hp
  | cons q r ih =>
    rw [pos_cons] at hp
    split at hp
    · exact ih (by simpa using hp)
    · rename_i h
      simp at hp
      subst hp
      simpa using h
/-- From its place on no key is. -/
theorem Up.get {L : List (α × β)} (hu : Up L) {i j : Nat} {p q : α × β} (hij : i < j) (hp : L[i]? = some p) (hq : L[j]? = some q) : lt p.1 q.1 = true := by
  obtain ⟨hi, e1⟩ := List.getElem?_eq_some_iff.1 hp
  obtain ⟨hj, e2⟩ := List.getElem?_eq_some_iff.1 hq
  have := List.pairwise_iff_getElem.1 hu i j hi hj hij
  rw [e1, e2] at this
  exact this
theorem pos_above {L : List (α × β)} (hu : Up L) {k : α} {m : Nat} {p : α × β} (hm : pos L k ≤ m) (hp : L[m]? = some p) : lt p.1 k = false := by
  rcases Nat.lt_or_ge (pos L k) m with h | h
  · have hlt : pos L k < L.length := Nat.lt_trans h (List.getElem?_eq_some_iff.1 hp).1
    have h1 := pos_at (List.getElem?_eq_getElem hlt)
    have h2 := hu.get h (List.getElem?_eq_getElem hlt) hp
    cases h3 : lt p.1 k with
    | false => rfl
    | true => rw [tr h2 h3] at h1; cases h1
  · have : m = pos L k := by omega
    subst this
    exact pos_at hp
theorem pos_eq {L : List (α × β)} {k : α} {i : Nat} (hi : i ≤ L.length) (h1 : ∀ m p, m < i → L[m]? = some p → lt p.1 k = true) (h2 : ∀ p, L[i]? = some p → lt p.1 k = false) : pos L k = i := by
  rcases Nat.lt_trichotomy (pos L k) i with h | h | h
  · have hlt : pos L k < L.length := by omega
    have a := h1 _ _ h (List.getElem?_eq_getElem hlt)
    rw [pos_at (List.getElem?_eq_getElem hlt)] at a
    cases a
  · exact h
  · have hlt : i < L.length := Nat.lt_of_lt_of_le h (pos_le L k)
    have a := pos_below h (List.getElem?_eq_getElem hlt)
    rw [h2 _ (List.getElem?_eq_getElem hlt)] at a
    cases a
/-- What stands at a key's place. -/
theorem look_at {L : List (α × β)} (hu : Up L) (k : α) : look L k = (L[pos L k]?).bind fun p => if p.1 = k then some p.2 else none := by
  induction L with
  | nil => rfl
  | cons p r ih =>
    rw [look_cons, pos_cons]
    by_cases h : lt p.1 k = true
    · rw [if_pos h, if_neg (ne_of_lt h), ih hu.tail]
      simp
    · rw [if_neg h]
      simp only [List.getElem?_cons_zero, Option.bind_some]
      by_cases e : p.1 = k
      · rw [if_pos e, if_pos e]
      · rw [if_neg e, if_neg e]
        refine look_none_of fun q hq e2 => ?_
        have h3 := lt_of_ne (by simpa using h) e
        rw [← e2] at h3
        have := tr h3 (hu.head q hq)
        rw [irr] at this
        cases this
theorem has_at {L : List (α × β)} (hu : Up L) {k : α} (h : has L k = true) : ∃ v, L[pos L k]? = some (k, v) ∧ look L k = some v := by
  obtain ⟨v, hv⟩ := (has_iff L k).1 h
  have h2 := hv
  rw [look_at hu] at h2
  cases hp : L[pos L k]? with
  | none => rw [hp] at h2; cases h2
  | some p =>
    rw [hp] at h2
    simp only [Option.bind_some] at h2
    split at h2
    · rename_i e
      injection h2 with h2
      subst e
      exact ⟨p.2, rfl, by rw [hv, h2]⟩
    · cases h2
theorem has_lt {L : List (α × β)} (hu : Up L) {k : α} (h : has L k = true) : pos L k < L.length := by
  obtain ⟨v, hv, _⟩ := has_at hu h
  exact (List.getElem?_eq_some_iff.1 hv).1
theorem has_not {L : List (α × β)} (hu : Up L) {k : α} (h : has L k = false) {m : Nat} {p : α × β} (hm : pos L k ≤ m) (hp : L[m]? = some p) : lt k p.1 = true := by
  have h1 := pos_above hu hm hp
  refine lt_of_ne h1 fun e => ?_
  have := look_of_mem hu (k := k) (v := p.2) (by rw [← e]; exact List.mem_of_getElem? hp)
  rw [(has_false L k).1 h] at this
  cases this

theorem put_len (L : List (α × β)) (k : α) (v : β) : (put L k v).length = L.length + if has L k = true then 0 else 1 := by
  unfold put
  have := pos_le L k
  split
  · simp
  · simp [List.length_take, List.length_drop]; omega
theorem del_len {L : List (α × β)} (hu : Up L) (k : α) : (del L k).length = L.length - if has L k = true then 1 else 0 := by
  unfold del
  split
  · rename_i h
    have := has_lt hu h
    simp [List.length_take, List.length_drop]; omega
  · simp
theorem up_iff (L : List (α × β)) : Up L ↔ ∀ (i j : Nat) (p q : α × β), i < j → L[i]? = some p → L[j]? = some q → lt p.1 q.1 = true := by
  refine ⟨fun h i j p q hij hp hq => h.get hij hp hq, fun h => List.pairwise_iff_getElem.2 fun i j hi hj hij => h i j _ _ hij (List.getElem?_eq_getElem hi) (List.getElem?_eq_getElem hj)⟩
theorem Up.sub {L M : List (α × β)} (h : Up L) (hs : List.Sublist M L) : Up M := List.Pairwise.sublist hs h
theorem Up.append {L M : List (α × β)} : Up (L ++ M) ↔ Up L ∧ Up M ∧ ∀ p ∈ L, ∀ q ∈ M, lt p.1 q.1 = true := by unfold Up; rw [List.pairwise_append]
theorem up_put {L : List (α × β)} (hu : Up L) (k : α) (v : β) : Up (put L k v) := by
  unfold put
  split
  · rename_i h
    obtain ⟨u, hk, _⟩ := has_at hu h
    refine (up_iff _).2 fun i j p q hij hp hq => ?_
    rw [List.getElem?_set] at hp hq
    have aux : ∀ (m : Nat) (x : α × β), (if pos L k = m then if pos L k < L.length then some (k, v) else none else L[m]?) = some x → ∃ y, L[m]? = some y ∧ y.1 = x.1 := by
      intro m x hx
      split at hx
      · rename_i e
        subst e
        split at hx
        · injection hx with hx
          subst hx
          exact ⟨_, hk, rfl⟩
        · cases hx
      · exact ⟨x, hx, rfl⟩
    obtain ⟨p', h1, e1⟩ := aux i p hp
    obtain ⟨q', h2, e2⟩ := aux j q hq
    rw [← e1, ← e2]
    exact hu.get hij h1 h2
  · rename_i h
    have h : has L k = false := by simpa using h
    have hsplit : Up (L.take (pos L k) ++ L.drop (pos L k)) := by rw [List.take_append_drop]; exact hu
    obtain ⟨h1, h2, h3⟩ := Up.append.1 hsplit
    refine Up.append.2 ⟨h1, List.pairwise_cons.2 ⟨fun q hq => ?_, h2⟩, fun p hp q hq => ?_⟩
    · obtain ⟨m, hm⟩ := List.getElem?_of_mem hq
      rw [List.getElem?_drop] at hm
      exact has_not hu h (Nat.le_add_right _ _) hm
    · rcases List.mem_cons.1 hq with rfl | hq
      · obtain ⟨m, hm⟩ := List.getElem?_of_mem hp
        rw [List.getElem?_take] at hm
        split at hm
        · rename_i hlt
          exact pos_below hlt hm
        · cases hm
      · exact h3 p hp q hq
theorem up_del {L : List (α × β)} (hu : Up L) (k : α) : Up (del L k) := by
  unfold del
  split
  · refine hu.sub ?_
    conv => rhs; rw [← List.take_append_drop (pos L k) L]
    exact List.Sublist.append (List.Sublist.refl _) (List.drop_sublist_drop_left _ (Nat.le_succ _))
  · exact hu
theorem mem_put {L : List (α × β)} (hu : Up L) (k : α) (v : β) (p : α × β) : p ∈ put L k v ↔ p = (k, v) ∨ (p ∈ L ∧ p.1 ≠ k) := by
  have key : ∀ q ∈ L, q.1 = k → has L k = true ∧ L[pos L k]? = some q := by
    intro q hq e
    have hl := look_of_mem hu (k := k) (v := q.2) (by rw [← e]; exact hq)
    have hh : has L k = true := (has_iff L k).2 ⟨_, hl⟩
    obtain ⟨u, hk, hu2⟩ := has_at hu hh
    rw [hl] at hu2
    injection hu2 with hu2
    refine ⟨hh, ?_⟩
    rw [hk, ← hu2, ← e]
  unfold put
  split
  · rename_i h
    have hlt := has_lt hu h
    obtain ⟨u, hk, _⟩ := has_at hu h
    constructor
    · intro hp
      obtain ⟨m, hm⟩ := List.getElem?_of_mem hp
      rw [List.getElem?_set] at hm
      split at hm
      · first | rw [if_pos (by omega)] at hm | skip
        injection hm with hm
        exact .inl hm.symm
      · rename_i hne
        refine .inr ⟨List.mem_of_getElem? hm, fun e => hne ?_⟩
        rcases Nat.lt_trichotomy (pos L k) m with hc | hc | hc
        · have := hu.get hc hk hm
          rw [e, irr] at this; cases this
        · exact hc
        · have := hu.get hc hm hk
          rw [e, irr] at this; cases this
    · rintro (rfl | ⟨hp, hne⟩)
      · exact List.mem_set hlt _ |> fun h => by simpa using h
      · obtain ⟨m, hm⟩ := List.getElem?_of_mem hp
        refine List.mem_of_getElem? (i := m) ?_
        rw [List.getElem?_set, if_neg, hm]
        intro e
        subst e
        rw [hk] at hm
        injection hm with hm
        exact hne (by rw [← hm])
  · rename_i h
    have hno : ∀ q ∈ L, q.1 ≠ k := fun q hq e => h (key q hq e).1
    rw [List.mem_append, List.mem_cons]
    have hm : p ∈ L ↔ p ∈ L.take (pos L k) ∨ p ∈ L.drop (pos L k) := by rw [← List.mem_append, List.take_append_drop]
    constructor
    · rintro (h1 | h1 | h1)
      · have := hm.2 (.inl h1); exact .inr ⟨this, hno p this⟩
      · exact .inl h1
      · have := hm.2 (.inr h1); exact .inr ⟨this, hno p this⟩
    · rintro (h1 | ⟨h1, _⟩)
      · exact .inr (.inl h1)
      · rcases hm.1 h1 with h2 | h2
        · exact .inl h2
        · exact .inr (.inr h2)
theorem mem_del {L : List (α × β)} (hu : Up L) (k : α) (p : α × β) : p ∈ del L k ↔ p ∈ L ∧ p.1 ≠ k := by
  unfold del
  split
  · rename_i h
    obtain ⟨u, hk, _⟩ := has_at hu h
    have hlt := has_lt hu h
    constructor
    · intro hp
      rcases List.mem_append.1 hp with hp | hp
      · refine ⟨List.mem_of_mem_take hp, ?_⟩
        obtain ⟨m, hm⟩ := List.getElem?_of_mem hp
        rw [List.getElem?_take] at hm
        split at hm
        · rename_i hml
          exact ne_of_lt (pos_below hml hm)
        · cases hm
      · refine ⟨List.mem_of_mem_drop hp, ?_⟩
        obtain ⟨m, hm⟩ := List.getElem?_of_mem hp
        rw [List.getElem?_drop] at hm
        have := hu.get (by omega : pos L k < pos L k + 1 + m) hk hm
        exact (ne_of_lt this).symm
    · rintro ⟨hp, hne⟩
      obtain ⟨m, hm⟩ := List.getElem?_of_mem hp
      rw [List.mem_append]
      rcases Nat.lt_trichotomy (pos L k) m with hc | hc | hc
      · right
        refine List.mem_of_getElem? (i := m - (pos L k + 1)) ?_
        rw [List.getElem?_drop, show pos L k + 1 + (m - (pos L k + 1)) = m by omega]
        exact hm
      · subst hc
        rw [hk] at hm
        injection hm with hm
        exact absurd (by rw [← hm]) hne
      · left
        refine List.mem_of_getElem? (i := m) ?_
        rw [List.getElem?_take, if_pos hc]
        exact hm
  · rename_i h
    refine ⟨fun hp => ⟨hp, fun e => h ?_⟩, fun hp => hp.1⟩
    exact (has_iff L k).2 ⟨_, look_of_mem hu (k := k) (v := p.2) (by rw [← e]; exact hp)⟩
theorem look_ext {L : List (α × β)} (hu : Up L) {k : α} {o : Option β} (h : ∀ v, (k, v) ∈ L ↔ o = some v) : look L k = o := by
  cases hl : look L k with
  | some v => rw [(h v).1 (mem_of_look hl)]
  | none =>
    cases o with
    | none => rfl
    | some v => rw [look_of_mem hu ((h v).2 rfl)] at hl; cases hl
theorem look_put {L : List (α × β)} (hu : Up L) (k : α) (v : β) (j : α) : look (put L k v) j = if j = k then some v else look L j := by
  refine look_ext (up_put hu k v) fun u => ?_
  rw [mem_put hu]
  by_cases e : j = k
  · subst e
    rw [if_pos rfl]
    simp
    exact eq_comm
  · rw [if_neg e]
    constructor
    · rintro (h | ⟨h, _⟩)
      · injection h with h; exact absurd h e
      · exact look_of_mem hu h
    · intro h
      exact .inr ⟨mem_of_look h, e⟩
theorem look_del {L : List (α × β)} (hu : Up L) (k : α) (j : α) : look (del L k) j = if j = k then none else look L j := by
  refine look_ext (up_del hu k) fun u => ?_
  rw [mem_del hu]
  by_cases e : j = k
  · rw [if_pos e]; simp [e]
  · rw [if_neg e]
    exact ⟨fun h => look_of_mem hu h.1, fun h => ⟨mem_of_look h, e⟩⟩
theorem up_ext {L M : List (α × β)} (hL : Up L) (hM : Up M) (h : ∀ p, p ∈ L ↔ p ∈ M) : L = M := by
  induction L generalizing M with
  | nil =>
    cases M with
    | nil => rfl
    | cons q s => have := (h q).2 (by simp); cases this
  | cons p r ih =>
    cases M with
    | nil => have := (h p).1 (by simp); cases this
    | cons q s =>
      have e : p = q := by
        rcases List.mem_cons.1 ((h p).1 (by simp)) with h1 | h1
        · exact h1
        · rcases List.mem_cons.1 ((h q).2 (by simp)) with h2 | h2
          · exact h2.symm
          · have a := hM.head p h1
            have b := hL.head q h2
            rw [asym a] at b
            cases b
      subst e
      congr 1
      refine ih hL.tail hM.tail fun x => ⟨fun hx => ?_, fun hx => ?_⟩
      · rcases List.mem_cons.1 ((h x).1 (by simp [hx])) with e | h1
        · subst e; have := hL.head x hx; rw [irr] at this; cases this
        · exact h1
      · rcases List.mem_cons.1 ((h x).2 (by simp [hx])) with e | h1
        · subst e; have := hM.head x hx; rw [irr] at this; cases this
        · exact h1
/-- Rows with the same keys are as long. -/
theorem up_look_ext {L M : List (α × β)} (hL : Up L) (hM : Up M) (h : ∀ k, look L k = look M k) : L = M :=
  up_ext hL hM fun p => ⟨fun hp => mem_of_look (k := p.1) (v := p.2) ((h p.1).symm.trans (look_of_mem hL hp)), fun hp => mem_of_look (k := p.1) (v := p.2) ((h p.1).trans (look_of_mem hM hp))⟩
end Srt
end Go.Proofs.Ytollmkkbeeeccaa
