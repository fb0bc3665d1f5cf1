/-
  What StateSwap needs of states: plain mathematics. No statement is proved here.
-/
import Derived.Test.YtgmjnjbmolalmaaL7Plain
namespace Go.Proofs.Ytgmjnjbmolalmaa
open Go.RowKit Tot

theorem foldV_keys (P : ByteArray → Prop) (es : List EntryV) : ∀ (s : StV), s.Right → (∀ p ∈ s.pairs, P p.1) → (∀ e ∈ es, e.cmd.op ≠ 0 → P e.cmd.key) → ∀ p ∈ (foldV s es).pairs, P p.1 := by
  induction es with
  | nil => exact fun s _ h _ => h
  | cons e r ih =>
    intro s hs h he
    refine ih (stepV s e).1 (stepV_right hs e) ?_ (fun x hx => he x (by simp [hx]))
    have hdo : e.cmd.op ≠ 0 → ∀ p ∈ (doV s.pairs e.cmd).1, P p.1 := fun h0 p hp => by
      have hk := he e (by simp) h0
      unfold doV at hp
      cases hl : Srt.look s.pairs e.cmd.key with
      | none =>
        rw [hl] at hp
        simp only at hp
        split at hp
        · exact h p hp
        · split at hp
          · exact h p hp
          · rcases (Srt.mem_put hs.up _ _ p).1 hp with rfl | ⟨h1, _⟩
            · exact hk
            · exact h p h1
      | some v =>
        rw [hl] at hp
        simp only at hp
        split at hp
        · exact h p hp
        · split at hp
          · exact h p ((Srt.mem_del hs.up _ p).1 hp).1
          · rcases (Srt.mem_put hs.up _ _ p).1 hp with rfl | ⟨h1, _⟩
            · exact hk
            · exact h p h1
    unfold stepV
    split
    · exact h
    · split
      · exact h
      · split
        · exact h
        · rename_i h0
          unfold onceV
          cases Srt.look s.sess e.cmd.client with
          | none => exact hdo h0
          | some q =>
            simp only
            split
            · exact h
            · split
              · exact h
              · exact hdo h0
theorem entsOf_cmd (ss : List SayV) (i t : Int) : ∀ e ∈ entsOf ss i t, ∃ s ∈ ss, e.cmd = s.cmd := by
  induction ss generalizing i t with
  | nil => intro e he; cases he
  | cons q r ih =>
    intro e he
    rcases List.mem_cons.1 he with rfl | he
    · exact ⟨q, by simp, rfl⟩
    · obtain ⟨s, hs, e1⟩ := ih _ _ e he
      exact ⟨s, by simp [hs], e1⟩
theorem keyText_mod (k : Nat) : keyText k = keyText (k % 8) := by unfold keyText; rw [Nat.mod_mod]
theorem key_lt : ∀ i j : Fin 8, Op.bytesLess (keyText i.val).data.toList (keyText j.val).data.toList = true → i.val < j.val := by decide
theorem keys_len (L : Prs) (hu : Srt.Up L) (h : ∀ p ∈ L, ∃ j, j < 8 ∧ p.1 = keyText j) : L.length ≤ 8 := by
  have aux : ∀ (L : Prs) (a : Nat), Srt.Up L → (∀ p ∈ L, ∃ j, a ≤ j ∧ j < 8 ∧ p.1 = keyText j) → a ≤ 8 → L.length ≤ 8 - a := by
    intro L
    induction L with
    | nil => intro a _ _ _; simp
    | cons p r ih =>
      intro a hu hb ha
      obtain ⟨j, h1, h2, h3⟩ := hb p (by simp)
      have h4 := ih (j + 1) hu.tail (fun x hx => by
        obtain ⟨i, i1, i2, i3⟩ := hb x (by simp [hx])
        have h9 := hu.head x hx
        rw [h3, i3] at h9
        have h10 : Op.bytesLess (keyText j).data.toList (keyText i).data.toList = true := by rw [← ByteArray.toList_eq, ← ByteArray.toList_eq]; exact h9
        have := key_lt ⟨j, h2⟩ ⟨i, i2⟩ h10
        exact ⟨i, this, i2, i3⟩) (by omega)
      simp only [List.length_cons]
      omega
  have := aux L 0 hu (fun p hp => by obtain ⟨j, h1, h2⟩ := h p hp; exact ⟨j, Nat.zero_le _, h1, h2⟩) (by omega)
  omega
theorem someV_pairs (ss : List SayV) : (someV ss).pairs.length ≤ 8 := by
  refine keys_len _ (someV_right ss).up (fun p hp => ?_)
  refine foldV_keys (fun k => ∃ j, j < 8 ∧ k = keyText j) (entsS ss) noState noState_right (by unfold noState; simp) (fun e he h0 => ?_) p hp
  obtain ⟨s, _, e1⟩ := entsOf_cmd _ _ _ e he
  refine ⟨s.key.toNat % 8, Nat.mod_lt _ (by omega), ?_⟩
  rw [← keyText_mod, e1]
  rw [e1] at h0
  unfold SayV.cmd at h0 ⊢
  split
  · rename_i h; rw [if_pos h] at h0; exact absurd rfl h0
  · rfl
/-- The values that StateSwap puts. -/
def xText (k : Nat) : ByteArray := (⟨#[120]⟩ : ByteArray) ++ (⟨#[48, 49, 50, 51, 52, 53, 54, 55, 56, 57]⟩ : ByteArray).extract (k % 10) (k % 10 + 1)
def newText : ByteArray := ⟨#[110, 101, 119]⟩
theorem xText_inj' : ∀ i j : Fin 10, (xText i.val).data.toList = (xText j.val).data.toList → i = j := by decide
theorem xText_eq (i j : Nat) : xText i = xText j ↔ i % 10 = j % 10 := by
  constructor
  · intro h
    have e1 : xText i = xText (i % 10) := by unfold xText; rw [Nat.mod_mod]
    have e2 : xText j = xText (j % 10) := by unfold xText; rw [Nat.mod_mod]
    rw [e1, e2] at h
    have := xText_inj' ⟨i % 10, Nat.mod_lt _ (by omega)⟩ ⟨j % 10, Nat.mod_lt _ (by omega)⟩ (by rw [h])
    exact congrArg Fin.val this
  · intro h
    unfold xText
    rw [h]
theorem xText_size (k : Nat) : (xText k).size = 2 := by
  unfold xText
  rw [ByteArray.size_append, ByteArray.size_extract]
  have : (⟨#[48, 49, 50, 51, 52, 53, 54, 55, 56, 57]⟩ : ByteArray).size = 10 := rfl
  have h1 : (⟨#[120]⟩ : ByteArray).size = 1 := rfl
  omega

/-- The put, then the swap. -/
structure SwapV (s t u : StV) (k x y : ByteArray) (o1 o2 : RepV) (e1 e2 : EntryV) : Prop where
  st1 : stepV s e1 = (t, o1)
  st2 : stepV t e2 = (u, o2)
  tr : t.Right
  ur : u.Right
  ti : t.index = s.index + 1
  tt : t.term = s.term
  out : o2 = if x = y then ⟨0, x⟩ else ⟨11, x⟩
  get : getV u.pairs k = ⟨0, if x = y then newText else x⟩
theorem swap_all (ss : List SayV) (kk v w : Nat) (s : StV) (hs : s = someV ss) : ∃ t u o1 o2, SwapV s t u (keyText kk) (xText v) (xText w) o1 o2 ⟨s.index + 1, s.term, ⟨1, 1, 500, keyText kk, xText v, noText⟩⟩ ⟨t.index + 1, t.term, ⟨3, 1, 501, keyText kk, newText, xText w⟩⟩ := by
  have hr : s.Right := by rw [hs]; exact someV_right ss
  obtain ⟨f1, f2, f3, f4⟩ := someV_facts ss
  have hl := entsS_length ss
  have hp := someV_pairs ss
  rw [← hs] at f1 f2 f3 f4 hp
  have z0 : noText.size = 0 := rfl
  have z1 : newText.size = 3 := rfl
  have hk := keyText_size kk
  have hx := xText_size v
  have hy := xText_size w
  have m1 : CmdV.May ⟨1, 1, 500, keyText kk, xText v, noText⟩ := by unfold CmdV.May; simp only; omega
  have m2 : CmdV.May ⟨3, 1, 501, keyText kk, newText, xText w⟩ := by unfold CmdV.May; simp only; omega
  have n1 : NextE s ⟨s.index + 1, s.term, ⟨1, 1, 500, keyText kk, xText v, noText⟩⟩ := ⟨⟨by show 1 ≤ s.index + 1; omega, by show s.index + 1 ≤ 1048576; omega, f2, by show s.term ≤ 1048576; omega, m1⟩, rfl, Int.le_refl _⟩
  have s1 := stepV_new n1 (by show (1 : Int) ≠ 0; decide) (fun x hx => by have := f4 x hx; show x.2.1 < 500; omega)
  obtain ⟨g, hg⟩ : ∃ g, (doV s.pairs ⟨1, 1, 500, keyText kk, xText v, noText⟩).1 = Srt.put s.pairs (keyText kk) (xText v, g) := by
    unfold doV
    cases hl : Srt.look s.pairs (keyText kk) with
    | none => exact ⟨false, by simp only; rw [if_neg (by simp), if_neg (by omega)]⟩
    | some q => exact ⟨q.2, by simp only; rw [if_neg (by simp), if_neg (by simp)]⟩
  obtain ⟨t, ht⟩ : ∃ t, t = (stepV s ⟨s.index + 1, s.term, ⟨1, 1, 500, keyText kk, xText v, noText⟩⟩).1 := ⟨_, rfl⟩
  have tr : t.Right := by rw [ht]; exact stepV_right hr _
  have tp : t.pairs = Srt.put s.pairs (keyText kk) (xText v, g) := by rw [ht, s1]; exact hg
  have ti : t.index = s.index + 1 := by rw [ht, s1]
  have tt : t.term = s.term := by rw [ht, s1]
  have tq : ∀ x ∈ t.sess, x.2.1 < 501 := by
    rw [ht, s1]
    intro x hx
    rcases (Srt.mem_put hr.ups _ _ x).1 hx with rfl | ⟨h1, _⟩
    · show (500 : Int) < 501; decide
    · have := f4 x h1; omega
  have tl : Srt.look t.pairs (keyText kk) = some (xText v, g) := by rw [tp]; exact look_put hr.up _ _
  have n2 : NextE t ⟨t.index + 1, t.term, ⟨3, 1, 501, keyText kk, newText, xText w⟩⟩ := ⟨⟨by show 1 ≤ t.index + 1; omega, by show t.index + 1 ≤ 1048576; omega, by show 0 ≤ t.term; omega, by show t.term ≤ 1048576; omega, m2⟩, rfl, Int.le_refl _⟩
  have s2 := stepV_new n2 (by show (3 : Int) ≠ 0; decide) tq
  have hd : doV t.pairs ⟨3, 1, 501, keyText kk, newText, xText w⟩ = if xText v = xText w then (Srt.put t.pairs (keyText kk) (newText, g), ⟨0, xText v⟩) else (t.pairs, ⟨11, xText v⟩) := by
    unfold doV
    simp only [tl]
    by_cases h : xText v = xText w
    · rw [if_neg (by simp [h]), if_neg (by decide), if_pos h]
    · rw [if_pos (by simp [h]), if_neg h]
  refine ⟨t, (stepV t ⟨t.index + 1, t.term, ⟨3, 1, 501, keyText kk, newText, xText w⟩⟩).1, (stepV s ⟨s.index + 1, s.term, ⟨1, 1, 500, keyText kk, xText v, noText⟩⟩).2, (stepV t ⟨t.index + 1, t.term, ⟨3, 1, 501, keyText kk, newText, xText w⟩⟩).2, ⟨by rw [ht], rfl, tr, stepV_right tr _, ti, tt, ?_, ?_⟩⟩
  · rw [s2, hd]
    split <;> rfl
  · rw [s2, hd]
    split
    · unfold getV
      simp only [look_put tr.up]
    · unfold getV
      simp only [tl]
end Go.Proofs.Ytgmjnjbmolalmaa
