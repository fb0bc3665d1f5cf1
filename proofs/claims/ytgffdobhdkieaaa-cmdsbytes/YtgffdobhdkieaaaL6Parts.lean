/-
  CmdsParts: what it does with whatever says. No statement is proved here.
-/
import Derived.Test.YtgffdobhdkieaaaL6Awake
import Derived.Test.YtgffdobhdkieaaaL6Ents
namespace Go.Proofs.Ytgffdobhdkieaaa
open Go.RowKit

theorem rowB_head {e : EntryV} {r : List EntryV} {i t : Int} (h : rowB (e :: r) i t = true) : (e.Right ∧ e.index = i ∧ t ≤ e.term) ∧ rowB r (i + 1) e.term = true := by
  rw [rowB_cons, Bool.and_eq_true, decide_eq_true_eq] at h
  exact h
theorem rowB_mk {e : EntryV} {r : List EntryV} {i t : Int} (h : e.Right ∧ e.index = i ∧ t ≤ e.term) (h2 : rowB r (i + 1) e.term = true) : rowB (e :: r) i t = true := by
  rw [rowB_cons, Bool.and_eq_true, decide_eq_true_eq]
  exact ⟨h, h2⟩
theorem rowB_weak {es : List EntryV} {i t t' : Int} (h : rowB es i t = true) (ht : t' ≤ t) : rowB es i t' = true := by
  cases es with
  | nil => rfl
  | cons e r =>
    obtain ⟨⟨h1, h2, h3⟩, h4⟩ := rowB_head h
    exact rowB_mk ⟨h1, h2, by omega⟩ h4
theorem rowB_take {es : List EntryV} {i t : Int} (h : rowB es i t = true) (k : Nat) : rowB (es.take k) i t = true := by
  induction es generalizing i t k with
  | nil => simp [rowB]
  | cons e r ih =>
    cases k with
    | zero => rfl
    | succ k =>
      obtain ⟨h1, h2⟩ := rowB_head h
      exact rowB_mk h1 (ih h2 k)
theorem rowB_drop {es : List EntryV} {i t : Int} (h : rowB es i t = true) (ht : 0 ≤ t) (k : Nat) : rowB (es.drop k) (i + k) 0 = true := by
  induction es generalizing i t k with
  | nil => simp [rowB]
  | cons e r ih =>
    cases k with
    | zero => simpa using rowB_weak h ht
    | succ k =>
      obtain ⟨⟨h1, _, _⟩, h2⟩ := rowB_head h
      have h3 := ih h2 (by have := h1.2.2.1; omega) k
      rw [List.drop_succ_cons, show i + ((k + 1 : Nat) : Int) = i + 1 + (k : Int) by omega]
      exact h3
theorem rowB_off {es : List EntryV} {i t : Int} (h : rowB es i 0 = true) (hne : es ≠ []) : rowB es (i + 1) t = false := by
  cases es with
  | nil => exact absurd rfl hne
  | cons e r =>
    obtain ⟨⟨_, h1, _⟩, _⟩ := rowB_head h
    rw [rowB_cons, decide_eq_false (fun h => by omega)]
    rfl
/-- A row of a call's own, whatever its elements' size. -/
theorem lies_own {w : World} {F : Nat → Prop} {base size n c : Nat} {e : TypeId} {a : Option Addr} {xs : List Value} (h : w.ownsRow base e size (.slice a n c) n xs) (hF : ∀ k, (Value.slice a n c).ownBlock = some k → F k) : Lies w F a xs := fun hx => by
  have hl := h.1
  rcases h.2 with ⟨_, hn⟩ | ⟨g, cap, cur, hv, _, _, _⟩
  · subst hn
    exact absurd (List.eq_nil_of_length_eq_zero (by rw [hl, Nat.zero_mul])) hx
  · have hA : a = some ⟨g, 0, none⟩ := by injection hv
    subst hA
    exact ⟨_, rfl, hF g rfl, h.cells (g := g) rfl⟩
/-- The rest of a row of entries. -/
theorem ents_drop {w : World} {F : Nat → Prop} {a : Option Addr} {es : List EntryV} (h : Lies w F a (entCells es)) (k c : Nat) (hc : es.length ≤ c) : Lies w F (if c = k then a else a.map (·.add (k * 8))) (entCells (es.drop k)) := by
  by_cases hk : k < es.length
  · rw [if_neg (by omega)]
    intro _
    have hne : entCells es ≠ [] := by
      intro e
      have := entCells_length es
      rw [e] at this
      simp at this
      omega
    obtain ⟨ad, rfl, hf, hcell⟩ := h hne
    refine ⟨ad.add (k * 8), rfl, by rw [block_add]; exact hf, fun j u hu => ?_⟩
    rw [add_add]
    refine hcell _ u ?_
    rw [← hu, entCells_drop, List.getElem?_drop]
  · rw [List.drop_eq_nil_of_le (by omega)]
    exact Lies.nil _ _ _

set_option maxHeartbeats 2000000 in
theorem parts_walk (F : Nat → Prop) (a : Option Addr) (n c : Nat) (ss : List SayV) (cut from_ : UInt8) (w : World) (h : Lies w F a (sayCells ss)) (hl : ss.length = n) (hnc : n ≤ c) :
    Calls Try.prog 9 #[.slice a n c, .int .u8 (cut.toNat : Int), .int .u8 (from_.toNat : Int)] w fun e w' => e = .returned (.bool true) ∧ Kept noBlock w w' := by
  obtain ⟨es, hes⟩ : ∃ es, es = entsOf (ss.take 80) ((from_.toNat : Int) + 1) 0 := ⟨_, rfl⟩
  obtain ⟨m, hm⟩ : ∃ m, es.length = m := ⟨_, rfl⟩
  have hf := from_.toNat_lt
  have hm80 : m ≤ 80 := by rw [← hm, hes, entsOf_length, List.length_take]; omega
  have R1 : Hid (rowB es ((from_.toNat : Int) + 1) 0 = true) := by
    unfold Hid
    rw [hes]
    have := List.length_take_le 80 ss
    exact rowB_ents _ _ _ _ (by omega) (by omega) (by omega) (by omega) (by omega)
  have hcu := cut.toNat_lt
  obtain ⟨k, hk⟩ : ∃ k, k = cut.toNat % (m + 1) := ⟨_, rfl⟩
  have hkm : k ≤ m := by have := Nat.mod_lt cut.toNat (show 0 < m + 1 by omega); omega
  have t1 : ((cut.toNat : Int)).tmod ((m : Int) + 1) = (k : Int) := by rw [hk]; exact tmod_nat _ (m + 1)
  have HE := Lib.hid hes
  have HM := Lib.hid hm
  clear hes hm hk
  go_enter Try.func9, Try.ntmps9
  go_wp2_with fail
  refine (awake_any w).mono ?_
  rintro e w1 ⟨rfl, k1⟩
  go_wp2_with fail
  refine (ents_any F a n c _ _ ss es w1 (h.keep k1 (fun _ _ h => h)) hl hnc HE.out (by omega) (by omega) (by omega) (by omega)).mono ?_
  rw [HM.out]
  rintro e w2 ⟨A, cc, rfl, h2, k2⟩
  have hcc : m ≤ cc := by obtain ⟨_, _, e, hle⟩ := own_form h2; injection e with _ _ e; omega
  have hl2 : Lies w2 (fun _ => True) A (entCells es) := lies_own h2 (fun _ _ => trivial)
  have L2 := Lib.hid hl2
  have K2 := Lib.hid (k1.step k2)
  have R2 := Lib.hid (rowB_take R1.out k)
  have R3 := Lib.hid (rowB_drop R1.out (by omega) k)
  have hlt := es.length_take_le k
  clear h2 k1 k2 hl2 h hl
  go_wp2_with fail
  refine (row_any (fun _ => True) A m cc _ es w2 L2.out HM.out (by omega) (by omega)).mono ?_
  rw [R1.out]
  rintro e w3 ⟨rfl, k3⟩
  have L3 := Lib.hid (L2.out.keep k3 (fun _ _ h => h))
  have K3 := Lib.hid (K2.out.step k3)
  clear k3
  go_wp2_with fail
  refine (row_any (fun _ => True) A k cc _ (es.take k) w3 (by rw [entCells_take]; exact L3.out.take _) (by rw [List.length_take, HM.out]; omega) (by omega) (by omega)).mono ?_
  rw [R2.out]
  rintro e w4 ⟨rfl, k4⟩
  have L4 := Lib.hid (L3.out.keep k4 (fun _ _ h => h))
  have K4 := Lib.hid (K3.out.step k4)
  clear k4
  have D4 := Lib.hid (ents_drop L4.out k cc (by rw [HM.out]; exact hcc))
  have DL := Lib.hid (show (es.drop k).length = m - k by rw [List.length_drop, HM.out])
  clear hlt
  by_cases hck : cc = k
  · have hmk : m = k := by omega
    have d4 := D4.out
    rw [if_pos hck] at d4
    have D5 := Lib.hid d4
    clear d4 D4
    subst hck
    subst hmk
    go_wp2_with fail
    refine (row_any (fun _ => True) A 0 0 _ (es.drop m) w4 D5.out (by rw [DL.out, Nat.sub_self]) (by omega) (by omega)).mono ?_
    rw [R3.out]
    rintro e w5 ⟨rfl, k5⟩
    have K5 := Lib.hid (K4.out.step k5)
    clear k5
    go_wp2
    go_ret
    exact ⟨rfl, K5.out⟩
  · have d4 := D4.out
    rw [if_neg hck] at d4
    have D5 := Lib.hid d4
    clear d4 D4
    go_wp2_with fail
    refine (row_any (fun _ => True) _ (m - k) _ _ (es.drop k) w4 D5.out DL.out (by omega) (by omega)).mono ?_
    rw [R3.out]
    rintro e w5 ⟨rfl, k5⟩
    have K5 := Lib.hid (K4.out.step k5)
    have D6 := Lib.hid (D5.out.keep k5 (fun _ _ h => h))
    clear k5
    by_cases hmk : m = k
    · have q1 : ((m : Int) == (k : Int)) = true := by simp; omega
      go_wp2
      go_ret
      exact ⟨rfl, K5.out⟩
    · have q1 : ((m : Int) == (k : Int)) = false := by simp; omega
      have R4 := Lib.hid (rowB_off (t := 0) R3.out (fun e => by have := DL.out; rw [e] at this; simp at this; omega))
      have e2 : (from_.toNat : Int) + 1 + (k : Int) + 1 = (from_.toNat : Int) + 2 + (k : Int) := by omega
      rw [e2] at R4
      clear e2
      go_wp2_with fail
      refine (row_any (fun _ => True) _ (m - k) _ _ (es.drop k) w5 D6.out DL.out (by omega) (by omega)).mono ?_
      rw [R4.out]
      rintro e w6 ⟨rfl, k6⟩
      have K6 := Lib.hid (K5.out.step k6)
      clear k6
      go_wp2
      go_ret
      exact ⟨rfl, K6.out⟩

end Go.Proofs.Ytgffdobhdkieaaa
