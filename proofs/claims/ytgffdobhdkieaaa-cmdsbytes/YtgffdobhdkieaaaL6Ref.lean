/-
  Which commands and entries may be as the statements of layer 6 say it. No statement is proved here.
-/
import Derived.Test.YtgffdobhdkieaaaCmds
namespace Go.Proofs.Ytgffdobhdkieaaa
open Go.RowKit

theorem toList_nil (s : ByteArray) : s.toList = [] ↔ s.size = 0 := by
  rw [ByteArray.toList_eq]
  have := data_length s
  constructor
  · intro h; rw [h] at this; simpa using this.symm
  · intro h; exact List.eq_nil_of_length_eq_zero (by omega)
theorem toList_empty (s : ByteArray) : s.toList.isEmpty = decide (s.size = 0) := by
  by_cases h : s.size = 0
  · rw [(toList_nil s).2 h, decide_eq_true h]; rfl
  · rw [decide_eq_false h]
    cases h2 : s.toList with
    | nil => exact absurd ((toList_nil s).1 h2) h
    | cons _ _ => rfl

set_option maxHeartbeats 1000000 in
theorem ref_may (c : CmdV) (w : World) : Calls Try.prog 13 #[c.val] w (Says w (decide c.May)) := by
  obtain ⟨op, client, seq, key, value, old⟩ := c
  have ans : ∀ (w : World) (o : Obj) (b : Bool), b = decide (CmdV.May ⟨op, client, seq, key, value, old⟩) → Says w (decide (CmdV.May ⟨op, client, seq, key, value, old⟩)) (.returned (.bool b)) (w.alloc o) := fun _ _ _ h => ⟨by rw [h], Kept.alloc _ _ _⟩
  have ANS := Lib.hid ans; clear ans
  unfold CmdV.val
  simp only
  go_enter Try.func13, Try.ntmps13
  by_cases h1 : op < 0
  · go_wp2
    go_ret
    refine ANS.out _ _ _ (decide_eq_false fun hm => ?_).symm
    unfold CmdV.May at hm
    simp only at hm
    omega
  by_cases h2 : 3 < op
  · go_wp2
    go_ret
    refine ANS.out _ _ _ (decide_eq_false fun hm => ?_).symm
    unfold CmdV.May at hm
    simp only at hm
    omega
  by_cases h3 : (16 : Int) < value.size
  · go_wp2
    go_ret
    refine ANS.out _ _ _ (decide_eq_false fun hm => ?_).symm
    unfold CmdV.May at hm
    simp only at hm
    omega
  by_cases h4 : (16 : Int) < old.size
  · go_wp2
    go_ret
    refine ANS.out _ _ _ (decide_eq_false fun hm => ?_).symm
    unfold CmdV.May at hm
    simp only at hm
    omega
  by_cases h5 : op = 0
  · subst h5
    by_cases q1 : client = 0
    · subst q1
      by_cases q2 : seq = 0
      · subst q2
        by_cases q3 : key.toList = []
        · have z3 := Lib.hid ((toList_nil key).1 q3)
          by_cases q4 : value.toList = []
          · have z4 := Lib.hid ((toList_nil value).1 q4)
            go_wp2
            go_ret
            refine ANS.out _ _ _ ?_
            show old.toList.isEmpty = _
            rw [toList_empty]
            refine decide_eq_decide.2 ?_
            constructor
            · intro h
              exact .inl ⟨rfl, rfl, rfl, z3.out, z4.out, h⟩
            · intro h
              rcases h with h | h
              · exact h.2.2.2.2.2
              · exact absurd h.1 (by show ¬ (1 : Int) ≤ 0; decide)
          · have z4 := Lib.hid (mt (toList_nil value).2 q4)
            go_wp2
            go_ret
            have z4' := z4.out
            refine ANS.out _ _ _ (decide_eq_false fun hm => ?_).symm
            unfold CmdV.May at hm
            simp only at hm
            omega
        · have z3 := Lib.hid (mt (toList_nil key).2 q3)
          go_wp2
          go_ret
          have z3' := z3.out
          refine ANS.out _ _ _ (decide_eq_false fun hm => ?_).symm
          unfold CmdV.May at hm
          simp only at hm
          omega
      · have q2' := Lib.hid q2
        go_wp2
        go_ret
        have := q2'.out
        refine ANS.out _ _ _ (decide_eq_false fun hm => ?_).symm
        unfold CmdV.May at hm
        simp only at hm
        omega
    · have q1' := Lib.hid q1
      go_wp2
      go_ret
      have := q1'.out
      refine ANS.out _ _ _ (decide_eq_false fun hm => ?_).symm
      unfold CmdV.May at hm
      simp only at hm
      omega
  have h5' := Lib.hid h5
  by_cases q1 : 0 ≤ client
  · by_cases q2 : client < 4
    · by_cases q3 : 0 ≤ seq
      · by_cases q4 : seq ≤ 1048576
        · by_cases q5 : (0 : Int) < key.size
          · go_wp2
            go_ret
            have := h5'.out
            refine ANS.out _ _ _ ?_
            show decide ((key.size : Int) < 9) = _
            refine decide_eq_decide.2 ?_
            unfold CmdV.May
            simp only
            constructor <;> intro <;> omega
          · have q5' := Lib.hid q5
            go_wp2
            go_ret
            have := q5'.out
            refine ANS.out _ _ _ (decide_eq_false fun hm => ?_).symm
            unfold CmdV.May at hm
            simp only at hm
            omega
        · go_wp2
          go_ret
          refine ANS.out _ _ _ (decide_eq_false fun hm => ?_).symm
          unfold CmdV.May at hm
          simp only at hm
          omega
      · go_wp2
        go_ret
        refine ANS.out _ _ _ (decide_eq_false fun hm => ?_).symm
        unfold CmdV.May at hm
        simp only at hm
        omega
    · go_wp2
      go_ret
      refine ANS.out _ _ _ (decide_eq_false fun hm => ?_).symm
      unfold CmdV.May at hm
      simp only at hm
      omega
  · go_wp2
    go_ret
    refine ANS.out _ _ _ (decide_eq_false fun hm => ?_).symm
    unfold CmdV.May at hm
    simp only at hm
    omega

set_option maxHeartbeats 1000000 in
theorem ref_right (x : EntryV) (w : World) : Calls Try.prog 15 #[x.val] w (Says w (decide x.Right)) := by
  obtain ⟨index, term, cmd⟩ := x
  have no : ∀ (w w' : World) (o : Obj), ¬ EntryV.Right ⟨index, term, cmd⟩ → Kept noBlock (w.alloc o) w' → Says w (decide (EntryV.Right ⟨index, term, cmd⟩)) (.returned (.bool false)) w' := fun _ _ _ h k => ⟨by rw [decide_eq_false h], (Kept.alloc _ _ _).step k⟩
  have NO := Lib.hid no; clear no
  have hm := fun w => ref_may cmd w
  obtain ⟨r, hr⟩ : ∃ r, decide cmd.May = r := ⟨_, rfl⟩
  rw [hr] at hm
  have fin : ∀ (w w' : World) (o : Obj), (1 ≤ index ∧ index ≤ 1048576) → (0 ≤ term ∧ term ≤ 1048576) → Kept noBlock (w.alloc o) w' → Says w (decide (EntryV.Right ⟨index, term, cmd⟩)) (.returned (.bool r)) w' := fun _ _ _ h1 h2 k => by
    refine ⟨?_, (Kept.alloc _ _ _).step k⟩
    rw [← hr]
    congr 2
    unfold EntryV.Right
    simp only [h1.1, h1.2, h2.1, h2.2, true_and]
  have FIN := Lib.hid fin; clear fin
  clear hr
  unfold EntryV.val
  unfold CmdV.val at hm
  simp only
  go_enter Try.func15, Try.ntmps15
  by_cases h1 : 0 < index
  · by_cases h2 : index ≤ 1048576
    · by_cases h3 : 0 ≤ term
      · by_cases h4 : term ≤ 1048576
        · go_wp2_with fail
          refine (hm _).mono ?_
          rintro e w' ⟨rfl, k⟩
          go_wp2
          go_ret
          exact FIN.out _ _ _ ⟨by omega, h2⟩ ⟨h3, h4⟩ k
        · go_wp2
          go_ret
          refine NO.out _ _ _ (fun hm => ?_) (Kept.refl _ _)
          unfold EntryV.Right at hm
          simp only at hm
          omega
      · go_wp2
        go_ret
        refine NO.out _ _ _ (fun hm => ?_) (Kept.refl _ _)
        unfold EntryV.Right at hm
        simp only at hm
        omega
    · go_wp2
      go_ret
      refine NO.out _ _ _ (fun hm => ?_) (Kept.refl _ _)
      unfold EntryV.Right at hm
      simp only at hm
      omega
  · go_wp2
    go_ret
    refine NO.out _ _ _ (fun hm => ?_) (Kept.refl _ _)
    unfold EntryV.Right at hm
    simp only at hm
    omega

end Go.Proofs.Ytgffdobhdkieaaa
