/-
  The contracts of package cmds: which commands and entries may be. No statement is proved here.
-/
import Derived.Test.YtgmjnjbmolalmaaEnt
import Derived.Laws.StructEq
namespace Go.Proofs.Ytgmjnjbmolalmaa
open Go.RowKit

set_option maxRecDepth 100000 in
theorem cmd_equalIn (k : Nat) (w : World) (c d : CmdV) : (Op.equalIn (k + 1 + 1) 39 c.val d.val).run Try.prog w = .ok (c.same d) w := by
  have u3 := Try.underlying3
  have a3 := Try.isAgg3
  have z3 := Try.sizeOf3
  have u4 := Try.underlying36
  have a4 := Try.isAgg36
  have z4 := Try.sizeOf36
  have u5 := Try.underlying9
  have a5 := Try.isAgg9
  have z5 := Try.sizeOf9
  have hS : Try.prog.underlying 39 = some (.struct (Try.prog.fieldsOf 39)) := by kernel_rfl
  have hp : Try.prog.stoodInHeld 39 = false := by kernel_rfl
  unfold CmdV.val
  rw [run_equalIn_agg w (k + 1) 39 _ _ hS hp]
  simp only [Program.fieldsOf, Try.underlying39]
  go_simp
  unfold CmdV.same
  repeat' split
  all_goals simp_all
theorem cmd_eql (w : World) (c d : CmdV) : (binOp .eql 39 c.val d.val).run Try.prog w = .ok (.bool (c.same d)) w := by
  have h := cmd_equalIn 9998 w c d
  unfold CmdV.val at h ⊢
  rw [run_eql_struct, show (10000 : Nat) = 9998 + 1 + 1 from rfl, h]
  rfl
theorem cmd_neq (w : World) (c d : CmdV) : (binOp .neq 39 c.val d.val).run Try.prog w = .ok (.bool (!c.same d)) w := by
  have h := cmd_equalIn 9998 w c d
  unfold CmdV.val at h ⊢
  rw [run_neq_struct, show (10000 : Nat) = 9998 + 1 + 1 from rfl, h]
  rfl

set_option maxRecDepth 100000 in
theorem entry_equalIn (k : Nat) (w : World) (c d : EntryV) : (Op.equalIn (k + 1 + 1 + 1) 41 c.val d.val).run Try.prog w = .ok (c.same d) w := by
  have u3 := Try.underlying3
  have a3 := Try.isAgg3
  have z3 := Try.sizeOf3
  have u4 := Try.underlying36
  have a4 := Try.isAgg36
  have z4 := Try.sizeOf36
  have u5 := Try.underlying9
  have a5 := Try.isAgg9
  have z5 := Try.sizeOf9
  have a6 := Try.isAgg39
  have z6 := Try.sizeOf39
  have hS : Try.prog.underlying 41 = some (.struct (Try.prog.fieldsOf 41)) := by kernel_rfl
  have hp : Try.prog.stoodInHeld 41 = false := by kernel_rfl
  have hc := fun w => cmd_equalIn k w c.cmd d.cmd
  unfold CmdV.val at hc
  unfold EntryV.val
  rw [run_equalIn_agg w (k + 1 + 1) 41 _ _ hS hp]
  simp only [Program.fieldsOf, Try.underlying41]
  go_simp
  unfold EntryV.same
  repeat' split
  all_goals simp_all
theorem entry_eql (w : World) (c d : EntryV) : (binOp .eql 41 c.val d.val).run Try.prog w = .ok (.bool (c.same d)) w := by
  have h := entry_equalIn 9997 w c d
  unfold EntryV.val at h ⊢
  rw [run_eql_struct, show (10000 : Nat) = 9997 + 1 + 1 + 1 from rfl, h]
  rfl
theorem entry_neq (w : World) (c d : EntryV) : (binOp .neq 41 c.val d.val).run Try.prog w = .ok (.bool (!c.same d)) w := by
  have h := entry_equalIn 9997 w c d
  unfold EntryV.val at h ⊢
  rw [run_neq_struct, show (10000 : Nat) = 9997 + 1 + 1 + 1 from rfl, h]
  rfl

theorem within_yes (n a b : Int) (w : World) (h1 : a ≤ n) (h2 : n ≤ b) : Calls Try.prog 41 #[.int .i64 n, .int .i64 a, .int .i64 b] w fun e w' => e = .returned (.bool true) ∧ w = w' := by
  go_enter Try.func41, Try.ntmps41
  go_wp2
  go_ret
  exact ⟨rfl, rfl⟩
theorem within_no (n a b : Int) (w : World) (h : ¬ (a ≤ n ∧ n ≤ b)) : Calls Try.prog 41 #[.int .i64 n, .int .i64 a, .int .i64 b] w fun e w' => e = .returned (.bool false) ∧ w = w' := by
  by_cases h1 : a ≤ n
  · have h2 : ¬ n ≤ b := fun h2 => h ⟨h1, h2⟩
    clear h
    go_enter Try.func41, Try.ntmps41
    go_wp2
    go_ret
    exact ⟨rfl, rfl⟩
  · clear h
    go_enter Try.func41, Try.ntmps41
    go_wp2
    go_ret
    exact ⟨rfl, rfl⟩

/-- What a command's May answers. -/
def Says (w : World) (b : Bool) (e : Ending) (w' : World) : Prop := e = .returned (.bool b) ∧ Kept noBlock w w'

set_option maxHeartbeats 1000000 in
theorem may_any (c : CmdV) (w : World) : Calls Try.prog 42 #[c.val] w (Says w (decide c.May)) := by
  by_cases h0 : c.op = 0
  · have hq := fun w => cmd_eql w c noCmd
    have hd : c.same noCmd = decide c.May := by
      have h1 := CmdV.same_iff c noCmd
      by_cases h2 : c = noCmd
      · rw [h1.2 h2]
        symm
        refine decide_eq_true ?_
        subst h2
        exact .inl ⟨rfl, rfl, rfl, rfl, rfl, rfl⟩
      · have h3 : c.same noCmd = false := by
          cases h4 : c.same noCmd
          · rfl
          · exact absurd (h1.1 h4) h2
        rw [h3]
        symm
        refine decide_eq_false fun hm => h2 ?_
        rcases hm with ⟨_, m2, m3, m4, m5, m6⟩ | ⟨m1, _⟩
        · obtain ⟨op, client, seq, key, value, old⟩ := c
          simp only at h0 m2 m3 m4 m5 m6
          subst h0 m2 m3
          rw [size_zero m4, size_zero m5, size_zero m6]
          rfl
        · omega
    rw [hd] at hq
    have HD := Lib.hid hd
    clear hd
    obtain ⟨op, client, seq, key, value, old⟩ := c
    simp only at h0
    subst h0
    obtain ⟨r, hr⟩ : ∃ r, decide (CmdV.May ⟨0, client, seq, key, value, old⟩) = r := ⟨_, rfl⟩
    rw [hr] at hq ⊢
    unfold CmdV.val noCmd at hq
    unfold CmdV.val
    simp only at hq ⊢
    clear HD hr
    go_enter Try.func42, Try.ntmps42
    go_wp2
    go_ret
    exact ⟨rfl, Kept.alloc _ _ _⟩
  · obtain ⟨op, client, seq, key, value, old⟩ := c
    simp only at h0
    have ans : ∀ (w : World) (o : Obj) (b : Bool), b = decide (CmdV.May ⟨op, client, seq, key, value, old⟩) → Says w (decide (CmdV.May ⟨op, client, seq, key, value, old⟩)) (.returned (.bool b)) (w.alloc o) := fun _ _ _ h => ⟨by rw [h], Kept.alloc _ _ _⟩
    have ANS := Lib.hid ans; clear ans
    unfold CmdV.val
    simp only
    by_cases h1 : 0 < op
    · by_cases h2 : op < 4
      · go_enter Try.func42, Try.ntmps42
        go_wp2_with fail
        by_cases h3 : 0 ≤ client ∧ client ≤ 3
        · refine (within_yes _ _ _ _ h3.1 h3.2).mono ?_
          rintro e w' ⟨rfl, rfl⟩
          go_wp2_with fail
          by_cases h4 : 0 ≤ seq ∧ seq ≤ 1048576
          · refine (within_yes _ _ _ _ h4.1 h4.2).mono ?_
            rintro e w' ⟨rfl, rfl⟩
            go_wp2_with fail
            by_cases h5 : (1 : Int) ≤ key.size ∧ (key.size : Int) ≤ 8
            · refine (within_yes _ _ _ _ h5.1 h5.2).mono ?_
              rintro e w' ⟨rfl, rfl⟩
              by_cases h6 : (value.size : Int) ≤ 16
              · go_wp2
                go_ret
                refine ANS.out _ _ _ (decide_eq_decide.2 ?_)
                unfold CmdV.May
                simp only
                constructor <;> intro <;> omega
              · go_wp2
                go_ret
                refine ANS.out _ _ _ (decide_eq_false fun hm => ?_).symm
                unfold CmdV.May at hm
                simp only at hm
                omega
            · refine (within_no _ _ _ _ h5).mono ?_
              rintro e w' ⟨rfl, rfl⟩
              go_wp2
              go_ret
              refine ANS.out _ _ _ (decide_eq_false fun hm => ?_).symm
              unfold CmdV.May at hm
              simp only at hm
              omega
          · refine (within_no _ _ _ _ h4).mono ?_
            rintro e w' ⟨rfl, rfl⟩
            go_wp2
            go_ret
            refine ANS.out _ _ _ (decide_eq_false fun hm => ?_).symm
            unfold CmdV.May at hm
            simp only at hm
            omega
        · refine (within_no _ _ _ _ h3).mono ?_
          rintro e w' ⟨rfl, rfl⟩
          go_wp2
          go_ret
          refine ANS.out _ _ _ (decide_eq_false fun hm => ?_).symm
          unfold CmdV.May at hm
          simp only at hm
          omega
      · go_enter Try.func42, Try.ntmps42
        go_wp2
        go_ret
        refine ANS.out _ _ _ (decide_eq_false fun hm => ?_).symm
        unfold CmdV.May at hm
        simp only at hm
        omega
    · go_enter Try.func42, Try.ntmps42
      go_wp2
      go_ret
      refine ANS.out _ _ _ (decide_eq_false fun hm => ?_).symm
      unfold CmdV.May at hm
      simp only at hm
      omega

set_option maxHeartbeats 1000000 in
theorem right_any (x : EntryV) (w : World) : Calls Try.prog 19 #[x.val] w (Says w (decide x.Right)) := by
  obtain ⟨index, term, cmd⟩ := x
  have no : ∀ (w w' : World) (o : Obj), ¬ EntryV.Right ⟨index, term, cmd⟩ → Kept noBlock (w.alloc o) w' → Says w (decide (EntryV.Right ⟨index, term, cmd⟩)) (.returned (.bool false)) w' := fun _ _ _ h k => ⟨by rw [decide_eq_false h], (Kept.alloc _ _ _).step k⟩
  have NO := Lib.hid no; clear no
  have hm := fun w => may_any cmd w
  obtain ⟨r, hr⟩ : ∃ r, decide cmd.May = r := ⟨_, rfl⟩
  rw [hr] at hm
  have fin : ∀ (w w' : World) (o : Obj), (1 ≤ index ∧ index ≤ 1048576) → (0 ≤ term ∧ term ≤ 1048576) → Kept noBlock (w.alloc o) w' → Says w (decide (EntryV.Right ⟨index, term, cmd⟩)) (.returned (.bool r)) w' := fun _ _ _ h1 h2 k => by
    refine ⟨?_, (Kept.alloc _ _ _).step k⟩
    rw [← hr]
    congr 2
    unfold EntryV.Right
    simp only [h1.1, h1.2, h2.1, h2.2, true_and]
  have FIN := Lib.hid fin; clear fin
  clear hr
  unfold EntryV.val
  unfold CmdV.val at hm
  simp only
  go_enter Try.func19, Try.ntmps19
  go_wp2_with fail
  by_cases h1 : 1 ≤ index ∧ index ≤ 1048576
  · refine (within_yes _ _ _ _ h1.1 h1.2).mono ?_
    rintro e w' ⟨rfl, rfl⟩
    go_wp2_with fail
    by_cases h2 : 0 ≤ term ∧ term ≤ 1048576
    · refine (within_yes _ _ _ _ h2.1 h2.2).mono ?_
      rintro e w' ⟨rfl, rfl⟩
      go_wp2_with fail
      refine (hm _).mono ?_
      rintro e w' ⟨rfl, k⟩
      go_wp2
      go_ret
      exact FIN.out _ _ _ h1 h2 k
    · refine (within_no _ _ _ _ h2).mono ?_
      rintro e w' ⟨rfl, rfl⟩
      go_wp2
      go_ret
      refine NO.out _ _ _ (fun hm => ?_) (Kept.refl _ _)
      unfold EntryV.Right at hm
      simp only at hm
      omega
  · refine (within_no _ _ _ _ h1).mono ?_
    rintro e w' ⟨rfl, rfl⟩
    go_wp2
    go_ret
    refine NO.out _ _ _ (fun hm => ?_) (Kept.refl _ _)
    unfold EntryV.Right at hm
    simp only at hm
    omega

end Go.Proofs.Ytgmjnjbmolalmaa
