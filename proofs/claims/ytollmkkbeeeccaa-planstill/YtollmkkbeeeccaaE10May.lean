/-
  The contract of edits.May; files compared. No statement is proved here.
-/
import Derived.Test.YtollmkkbeeeccaaEdt
import Derived.Test.YtollmkkbeeeccaaProg
import Derived.Laws.StructEq
namespace Go.Proofs.Ytollmkkbeeeccaa
open Go.RowKit Tot

/-- Two files compared part by part. -/
def RefV.same (c d : RefV) : Bool := c.name.toList == d.name.toList && (c.kind == d.kind && (c.from_ == d.from_ && c.to_ == d.to_))
theorem RefV.same_iff (c d : RefV) : c.same d = true ↔ c = d := by
  obtain ⟨a1, a2, a3, a4⟩ := c
  obtain ⟨b1, b2, b3, b4⟩ := d
  simp only [RefV.same, Bool.and_eq_true, toList_inj, RefV.mk.injEq, beq_iff_eq]
theorem RefV.same_dec (c d : RefV) : c.same d = decide (c = d) := by
  by_cases h : c = d
  · rw [decide_eq_true h]; exact (RefV.same_iff c d).2 h
  · rw [decide_eq_false h]
    cases h1 : c.same d
    · rfl
    · exact absurd ((RefV.same_iff c d).1 h1) h

set_option maxRecDepth 100000 in
theorem ref_equalIn (k : Nat) (w : World) (c d : RefV) : (Op.equalIn (k + 1 + 1) 37 c.val d.val).run Try.prog w = .ok (c.same d) w := by
  have u3 := Try.underlying3
  have a3 := Try.isAgg3
  have z3 := Try.sizeOf3
  have u4 := Try.underlying35
  have a4 := Try.isAgg35
  have z4 := Try.sizeOf35
  have u5 := Try.underlying9
  have a5 := Try.isAgg9
  have z5 := Try.sizeOf9
  have hS : Try.prog.underlying 37 = some (.struct (Try.prog.fieldsOf 37)) := by kernel_rfl
  have hp : Try.prog.stoodInHeld 37 = false := by kernel_rfl
  unfold RefV.val
  rw [run_equalIn_agg w (k + 1) 37 _ _ hS hp]
  simp only [Program.fieldsOf, Try.underlying37]
  go_simp
  unfold RefV.same
  repeat' split
  all_goals simp_all
theorem ref_eql (w : World) (c d : RefV) : (binOp .eql 37 c.val d.val).run Try.prog w = .ok (.bool (decide (c = d))) w := by
  have h := ref_equalIn 9998 w c d
  rw [RefV.same_dec] at h
  unfold RefV.val at h ⊢
  rw [run_eql_struct, show (10000 : Nat) = 9998 + 1 + 1 from rfl, h]
  rfl
theorem ref_neq (w : World) (c d : RefV) : (binOp .neq 37 c.val d.val).run Try.prog w = .ok (.bool (!decide (c = d))) w := by
  have h := ref_equalIn 9998 w c d
  rw [RefV.same_dec] at h
  unfold RefV.val at h ⊢
  rw [run_neq_struct, show (10000 : Nat) = 9998 + 1 + 1 from rfl, h]
  rfl

theorem ewithin_any (n a b : Int) (w : World) : Calls Try.prog 33 #[.int .i64 n, .int .i64 a, .int .i64 b] w fun e w' => e = .returned (.bool (decide (a ≤ n ∧ n ≤ b))) ∧ w = w' := by
  by_cases h1 : a ≤ n
  · by_cases h2 : n ≤ b
    · rw [decide_eq_true (⟨h1, h2⟩ : a ≤ n ∧ n ≤ b)]
      go_enter Try.func33, Try.ntmps33
      go_wp2
      go_ret
      exact ⟨rfl, rfl⟩
    · rw [decide_eq_false (fun h : a ≤ n ∧ n ≤ b => h2 h.2)]
      go_enter Try.func33, Try.ntmps33
      go_wp2
      go_ret
      exact ⟨rfl, rfl⟩
  · rw [decide_eq_false (fun h : a ≤ n ∧ n ≤ b => h1 h.1)]
    go_enter Try.func33, Try.ntmps33
    go_wp2
    go_ret
    exact ⟨rfl, rfl⟩
theorem ewithin_yes (n a b : Int) (w : World) (h : a ≤ n ∧ n ≤ b) : Calls Try.prog 33 #[.int .i64 n, .int .i64 a, .int .i64 b] w fun e w' => e = .returned (.bool true) ∧ w = w' := by
  have := ewithin_any n a b w
  rw [decide_eq_true h] at this
  exact this
theorem ewithin_no (n a b : Int) (w : World) (h : ¬ (a ≤ n ∧ n ≤ b)) : Calls Try.prog 33 #[.int .i64 n, .int .i64 a, .int .i64 b] w fun e w' => e = .returned (.bool false) ∧ w = w' := by
  have := ewithin_any n a b w
  rw [decide_eq_false h] at this
  exact this

/-- A call that tells, and leaves all that there was. -/
def SaysE (w : World) (b : Bool) (e : Ending) (w' : World) : Prop := e = .returned (.bool b) ∧ Kept noBlock w w'

set_option maxRecDepth 100000 in
set_option maxHeartbeats 1000000 in
theorem rmay_any (r : RefV) (w : World) : Calls Try.prog 32 #[r.val] w (SaysE w (decide r.May)) := by
  obtain ⟨name, kind, fr, to⟩ := r
  have ans : ∀ (w w' : World) (o : Obj) (b : Bool), b = decide (RefV.May ⟨name, kind, fr, to⟩) → w' = w.alloc o → SaysE w (decide (RefV.May ⟨name, kind, fr, to⟩)) (.returned (.bool b)) w' := fun _ _ _ _ h hw => ⟨by rw [h], by rw [hw]; exact Kept.alloc _ _ _⟩
  have ANS := Lib.hid ans; clear ans
  have no : ∀ (h : ¬ RefV.May ⟨name, kind, fr, to⟩), false = decide (RefV.May ⟨name, kind, fr, to⟩) := fun h => (decide_eq_false h).symm
  have NO := Lib.hid no; clear no
  unfold RefV.val
  simp only
  by_cases h1 : (1 : Int) ≤ name.size ∧ (name.size : Int) ≤ 16
  · by_cases h2 : 0 ≤ kind
    · by_cases h3 : kind < 3
      · by_cases h4 : 0 ≤ fr ∧ fr ≤ to
        · by_cases h5 : to ≤ 1048576
          · by_cases h6 : kind = 0
            · subst h6
              by_cases h7 : fr = to
              · subst h7
                go_enter Try.func32, Try.ntmps32
                go_wp2_with fail
                refine (ewithin_yes _ _ _ _ h1).mono ?_
                rintro e w' ⟨rfl, rfl⟩
                go_wp2_with fail
                refine (ewithin_yes _ _ _ _ h4).mono ?_
                rintro e w' ⟨rfl, rfl⟩
                go_wp2
                go_ret
                refine ANS.out _ _ _ _ (decide_eq_true ?_).symm rfl
                exact ⟨by simp only; omega, by simp only; omega, by simp only; omega, by simp only; omega, by simp only; omega, by simp only; omega, by simp only; omega, fun _ => rfl⟩
              · go_enter Try.func32, Try.ntmps32
                go_wp2_with fail
                refine (ewithin_yes _ _ _ _ h1).mono ?_
                rintro e w' ⟨rfl, rfl⟩
                go_wp2_with fail
                refine (ewithin_yes _ _ _ _ h4).mono ?_
                rintro e w' ⟨rfl, rfl⟩
                go_wp2
                go_ret
                have HE : (fr == to) = false := by simpa using h7
                rw [HE]
                refine ANS.out _ _ _ _ (NO.out fun hm => ?_) rfl
                exact h7 (hm.2.2.2.2.2.2.2 rfl)
            · go_enter Try.func32, Try.ntmps32
              go_wp2_with fail
              refine (ewithin_yes _ _ _ _ h1).mono ?_
              rintro e w' ⟨rfl, rfl⟩
              go_wp2_with fail
              refine (ewithin_yes _ _ _ _ h4).mono ?_
              rintro e w' ⟨rfl, rfl⟩
              go_wp2
              go_ret
              refine ANS.out _ _ _ _ (decide_eq_true ?_).symm rfl
              exact ⟨by simp only; omega, by simp only; omega, by simp only; omega, by simp only; omega, by simp only; omega, by simp only; omega, by simp only; omega, fun h => by simp only at h; omega⟩
          · go_enter Try.func32, Try.ntmps32
            go_wp2_with fail
            refine (ewithin_yes _ _ _ _ h1).mono ?_
            rintro e w' ⟨rfl, rfl⟩
            go_wp2_with fail
            refine (ewithin_yes _ _ _ _ h4).mono ?_
            rintro e w' ⟨rfl, rfl⟩
            go_wp2
            go_ret
            refine ANS.out _ _ _ _ (NO.out fun hm => ?_) rfl
            have := hm.2.2.2.2.2.2.1
            simp only at this
            omega
        · go_enter Try.func32, Try.ntmps32
          go_wp2_with fail
          refine (ewithin_yes _ _ _ _ h1).mono ?_
          rintro e w' ⟨rfl, rfl⟩
          go_wp2_with fail
          refine (ewithin_no _ _ _ _ h4).mono ?_
          rintro e w' ⟨rfl, rfl⟩
          go_wp2
          go_ret
          refine ANS.out _ _ _ _ (NO.out fun hm => ?_) rfl
          exact h4 ⟨hm.2.2.2.2.1, hm.2.2.2.2.2.1⟩
      · go_enter Try.func32, Try.ntmps32
        go_wp2_with fail
        refine (ewithin_yes _ _ _ _ h1).mono ?_
        rintro e w' ⟨rfl, rfl⟩
        go_wp2
        go_ret
        refine ANS.out _ _ _ _ (NO.out fun hm => ?_) rfl
        have := hm.2.2.2.1
        simp only at this
        omega
    · go_enter Try.func32, Try.ntmps32
      go_wp2_with fail
      refine (ewithin_yes _ _ _ _ h1).mono ?_
      rintro e w' ⟨rfl, rfl⟩
      go_wp2
      go_ret
      refine ANS.out _ _ _ _ (NO.out fun hm => ?_) rfl
      have := hm.2.2.1
      simp only at this
      omega
  · go_enter Try.func32, Try.ntmps32
    go_wp2_with fail
    refine (ewithin_no _ _ _ _ h1).mono ?_
    rintro e w' ⟨rfl, rfl⟩
    go_wp2
    go_ret
    refine ANS.out _ _ _ _ (NO.out fun hm => ?_) rfl
    exact h1 ⟨by have := hm.1; simp only at this; omega, by have := hm.2.1; simp only at this; omega⟩
end Go.Proofs.Ytollmkkbeeeccaa
