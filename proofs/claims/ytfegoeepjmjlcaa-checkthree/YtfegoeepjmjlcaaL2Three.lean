/-
  CheckThree: what it does with whatever three words. No statement is proved here.
-/
import Derived.Test.YtfegoeepjmjlcaaL2Awake
import Derived.Test.YtfegoeepjmjlcaaSep
namespace Go.Proofs.Ytfegoeepjmjlcaa
open Go.RowKit

theorem Try.infoByte : (Try.prog.info? 5).map (fun i => (i.zero, i.size, i.bytes)) = some (some (.int .u8 0), 1, 1) := by kernel_rfl

set_option maxHeartbeats 4000000 in
theorem three_walk (a b c : Nat) (w : World) (ha : a < 18446744073709551616) (hb : b < 18446744073709551616) (hc : c < 18446744073709551616) :
    Calls Try.prog 7 #[.int .u64 (a : Int), .int .u64 (b : Int), .int .u64 (c : Int)] w fun e w' => e = .returned (.bool true) ∧ Kept noBlock w w' := by
  obtain ⟨ab, hab⟩ : ∃ q, q = a ^^^ b := ⟨_, rfl⟩
  obtain ⟨q, hq⟩ : ∃ q, q = ab ^^^ c := ⟨_, rfl⟩
  have hab64 : ab < 18446744073709551616 := by rw [hab]; exact Nat.xor_lt_two_pow (n := 64) ha hb
  have hx1 : bits BinOp.xor IntKind.u64 (a : Int) (b : Int) = (ab : Int) := by rw [hab]; exact u64_xor_nat a b ha hb
  have hx2 : bits BinOp.xor IntKind.u64 (ab : Int) (c : Int) = (q : Int) := by rw [hq]; exact u64_xor_nat ab c hab64 hc
  have HQ := Lib.hid (show q = a ^^^ b ^^^ c by rw [hq, hab])
  clear hab hq hab64 ha hb hc
  go_enter Try.func7, Try.ntmps7
  go_wp2_with fail
  refine (awake_any w).mono ?_
  rintro e w1 ⟨rfl, k1⟩
  go_wp2
  go_loopw [7, 8, 9, 10, 11] (fun x y z v i wr => ∃ (j : Nat) (A B C D : Option Addr) (ca cb cc cd : Nat), j ≤ 8 ∧ i = .int .i64 (8 * j : Nat) ∧ x = .slice A j ca ∧ y = .slice B j cb ∧ z = .slice C j cc ∧ v = .slice D j cd ∧
    Hid (Sep w1 wr 5 (four (.slice A j ca) (.slice B j cb) (.slice C j cc) (.slice D j cd) ((lows a j).map bv) ((lows b j).map bv) ((lows c j).map bv) ((lows q j).map bv)))) (fun _ _ _ _ i _ => 64 - (intOf i).toNat)
  case atStart => exact ⟨0, none, none, none, none, 0, 0, 0, 0, by omega, rfl, rfl, rfl, rfl, rfl, Lib.hid ((((Sep.start (Kept.refl _ _)).nil 0).nil 1).nil 2 |>.nil 3)⟩
  case round =>
    obtain ⟨j, A, B, C, D, ca, cb, cc, cd, hj, rfl, rfl, rfl, rfl, rfl, HR⟩ := hrel
    by_cases hj8 : j < 8
    · obtain ⟨s8, hs8⟩ : ∃ s8, s8 = 8 * j := ⟨_, rfl⟩
      rw [← hs8]
      obtain ⟨ua, hua⟩ : ∃ u, u = lowByte a j := ⟨_, rfl⟩
      obtain ⟨ub, hub⟩ : ∃ u, u = lowByte b j := ⟨_, rfl⟩
      obtain ⟨uc, huc⟩ : ∃ u, u = lowByte c j := ⟨_, rfl⟩
      obtain ⟨uq, huq⟩ : ∃ u, u = lowByte q j := ⟨_, rfl⟩
      have wv : ∀ v : Nat, IntKind.u8.wrap ((v : Int) / 2 ^ s8) = ((lowByte v j).toNat : Int) := fun v => by
        have e1 : (v : Int) / 2 ^ s8 = ((v / 2 ^ s8 : Nat) : Int) := by simp
        rw [e1, wrap_u8, lowByte_toNat, hs8]
      have va := wv a
      have vb := wv b
      have vc := wv c
      have vq := wv q
      rw [← hua] at va
      rw [← hub] at vb
      rw [← huc] at vc
      rw [← huq] at vq
      have hs64 : s8 < 64 := by omega
      have hd : decide ((s8 : Int) < 64) = true := decide_eq_true (by omega)
      have EA := Lib.hid (show (lows a (j + 1)).map bv = (lows a j).map bv ++ [bv ua] by rw [lows_succ, hua]; simp)
      have EB := Lib.hid (show (lows b (j + 1)).map bv = (lows b j).map bv ++ [bv ub] by rw [lows_succ, hub]; simp)
      have EC := Lib.hid (show (lows c (j + 1)).map bv = (lows c j).map bv ++ [bv uc] by rw [lows_succ, huc]; simp)
      have ED := Lib.hid (show (lows q (j + 1)).map bv = (lows q j).map bv ++ [bv uq] by rw [lows_succ, huq]; simp)
      have H8 := Lib.hid hs8
      clear hs8 hua hub huc huq wv
      go_upto_region 7 with (fail)
      go_cut [7, 8, 9] (fun x y z wc => ∃ A' B' C' ca' cb' cc', x = .slice A' (j + 1) ca' ∧ y = .slice B' (j + 1) cb' ∧ z = .slice C' (j + 1) cc' ∧
        Hid (Sep w1 wc 5 (four (.slice A' (j + 1) ca') (.slice B' (j + 1) cb') (.slice C' (j + 1) cc') (.slice D j cd) ((lows a (j + 1)).map bv) ((lows b (j + 1)).map bv) ((lows c (j + 1)).map bv) ((lows q j).map bv))))
      case first =>
        have hR := HR.out.drew
        clear HR
        refine wp_region_noPanic ?_
        refine wp_region_held_drew (S := fun _ => True) (by kernel_rfl) trivial (fun hHeld => ?_)
        refine wpAnyH_take (i := 0) (oi := ⟨some 18, Op.move (Operand.tmp 7), 29, _, _, none⟩) (v := ?v0n2k1) rfl (by kernel_rfl) (by kernel_rfl) (by kernel_rfl) (fun _ _ _ h => h) (Or.inl ⟨by rfl, ?y0n2k1⟩) hHeld ?z0n2k1
        case y0n2k1 => intro w hSw; (try dsimp only at hSw); go_simp <;> rfl
        try simp only [Act.put, List.setIfInBounds_toArray, List.set_cons_zero, List.set_cons_succ]
        refine wpAnyH_take (i := 1) (oi := ⟨some 19, Op.move (Operand.tmp 0), 36, _, _, none⟩) (v := ?v1n2k2) rfl (by kernel_rfl) (by kernel_rfl) (by kernel_rfl) (fun _ _ _ h => h) (Or.inl ⟨by rfl, ?y1n2k2⟩) hHeld ?z1n2k2
        case y1n2k2 => intro w hSw; (try dsimp only at hSw); go_simp <;> rfl
        try simp only [Act.put, List.setIfInBounds_toArray, List.set_cons_zero, List.set_cons_succ]
        refine wpAnyH_take (i := 2) (oi := ⟨some 20, Op.move (Operand.tmp 11), 3, _, _, none⟩) (v := ?v2n2k3) rfl (by kernel_rfl) (by kernel_rfl) (by kernel_rfl) (fun _ _ _ h => h) (Or.inl ⟨by rfl, ?y2n2k3⟩) hHeld ?z2n2k3
        case y2n2k3 => intro w hSw; (try dsimp only at hSw); go_simp <;> rfl
        try simp only [Act.put, List.setIfInBounds_toArray, List.set_cons_zero, List.set_cons_succ]
        refine wpAnyH_take (i := 3) (oi := ⟨some 21, Op.binOp BinOp.shr 36 (Operand.tmp 19) (Operand.tmp 20) 3, 36, _, _, none⟩) (v := ?v3n2k4) rfl (by kernel_rfl) (by kernel_rfl) (by kernel_rfl) (fun _ _ _ h => h) (Or.inl ⟨by rfl, ?y3n2k4⟩) hHeld ?z3n2k4
        case y3n2k4 => intro w hSw; (try dsimp only at hSw); go_simp <;> rfl
        try simp only [Act.put, List.setIfInBounds_toArray, List.set_cons_zero, List.set_cons_succ]
        refine wpAnyH_take (i := 4) (oi := ⟨some 22, Op.convert 36 5 (Operand.tmp 21), 5, _, _, none⟩) (v := ?v4n2k5) rfl (by kernel_rfl) (by kernel_rfl) (by kernel_rfl) (fun _ _ _ h => h) (Or.inl ⟨by rfl, ?y4n2k5⟩) hHeld ?z4n2k5
        case y4n2k5 => intro w hSw; (try dsimp only at hSw); go_simp <;> rfl
        try simp only [Act.put, List.setIfInBounds_toArray, List.set_cons_zero, List.set_cons_succ]
        refine wpAnyH_take (i := 7) (oi := ⟨some 25, Op.move (Operand.tmp 8), 29, _, _, none⟩) (v := ?v7n2k6) rfl (by kernel_rfl) (by kernel_rfl) (by kernel_rfl) (fun _ _ _ h => h) (Or.inl ⟨by rfl, ?y7n2k6⟩) hHeld ?z7n2k6
        case y7n2k6 => intro w hSw; (try dsimp only at hSw); go_simp <;> rfl
        try simp only [Act.put, List.setIfInBounds_toArray, List.set_cons_zero, List.set_cons_succ]
        refine wpAnyH_take (i := 8) (oi := ⟨some 26, Op.move (Operand.tmp 1), 36, _, _, none⟩) (v := ?v8n2k7) rfl (by kernel_rfl) (by kernel_rfl) (by kernel_rfl) (fun _ _ _ h => h) (Or.inl ⟨by rfl, ?y8n2k7⟩) hHeld ?z8n2k7
        case y8n2k7 => intro w hSw; (try dsimp only at hSw); go_simp <;> rfl
        try simp only [Act.put, List.setIfInBounds_toArray, List.set_cons_zero, List.set_cons_succ]
        refine wpAnyH_take (i := 9) (oi := ⟨some 27, Op.move (Operand.tmp 11), 3, _, _, none⟩) (v := ?v9n2k8) rfl (by kernel_rfl) (by kernel_rfl) (by kernel_rfl) (fun _ _ _ h => h) (Or.inl ⟨by rfl, ?y9n2k8⟩) hHeld ?z9n2k8
        case y9n2k8 => intro w hSw; (try dsimp only at hSw); go_simp <;> rfl
        try simp only [Act.put, List.setIfInBounds_toArray, List.set_cons_zero, List.set_cons_succ]
        refine wpAnyH_take (i := 10) (oi := ⟨some 28, Op.binOp BinOp.shr 36 (Operand.tmp 26) (Operand.tmp 27) 3, 36, _, _, none⟩) (v := ?v10n2k9) rfl (by kernel_rfl) (by kernel_rfl) (by kernel_rfl) (fun _ _ _ h => h) (Or.inl ⟨by rfl, ?y10n2k9⟩) hHeld ?z10n2k9
        case y10n2k9 => intro w hSw; (try dsimp only at hSw); go_simp <;> rfl
        try simp only [Act.put, List.setIfInBounds_toArray, List.set_cons_zero, List.set_cons_succ]
        refine wpAnyH_take (i := 11) (oi := ⟨some 29, Op.convert 36 5 (Operand.tmp 28), 5, _, _, none⟩) (v := ?v11n2k10) rfl (by kernel_rfl) (by kernel_rfl) (by kernel_rfl) (fun _ _ _ h => h) (Or.inl ⟨by rfl, ?y11n2k10⟩) hHeld ?z11n2k10
        case y11n2k10 => intro w hSw; (try dsimp only at hSw); go_simp <;> rfl
        try simp only [Act.put, List.setIfInBounds_toArray, List.set_cons_zero, List.set_cons_succ]
        refine wpAnyH_take (i := 14) (oi := ⟨some 32, Op.move (Operand.tmp 9), 29, _, _, none⟩) (v := ?v14n2k11) rfl (by kernel_rfl) (by kernel_rfl) (by kernel_rfl) (fun _ _ _ h => h) (Or.inl ⟨by rfl, ?y14n2k11⟩) hHeld ?z14n2k11
        case y14n2k11 => intro w hSw; (try dsimp only at hSw); go_simp <;> rfl
        try simp only [Act.put, List.setIfInBounds_toArray, List.set_cons_zero, List.set_cons_succ]
        refine wpAnyH_take (i := 15) (oi := ⟨some 33, Op.move (Operand.tmp 2), 36, _, _, none⟩) (v := ?v15n2k12) rfl (by kernel_rfl) (by kernel_rfl) (by kernel_rfl) (fun _ _ _ h => h) (Or.inl ⟨by rfl, ?y15n2k12⟩) hHeld ?z15n2k12
        case y15n2k12 => intro w hSw; (try dsimp only at hSw); go_simp <;> rfl
        try simp only [Act.put, List.setIfInBounds_toArray, List.set_cons_zero, List.set_cons_succ]
        refine wpAnyH_take (i := 16) (oi := ⟨some 34, Op.move (Operand.tmp 11), 3, _, _, none⟩) (v := ?v16n2k13) rfl (by kernel_rfl) (by kernel_rfl) (by kernel_rfl) (fun _ _ _ h => h) (Or.inl ⟨by rfl, ?y16n2k13⟩) hHeld ?z16n2k13
        case y16n2k13 => intro w hSw; (try dsimp only at hSw); go_simp <;> rfl
        try simp only [Act.put, List.setIfInBounds_toArray, List.set_cons_zero, List.set_cons_succ]
        refine wpAnyH_take (i := 17) (oi := ⟨some 35, Op.binOp BinOp.shr 36 (Operand.tmp 33) (Operand.tmp 34) 3, 36, _, _, none⟩) (v := ?v17n2k14) rfl (by kernel_rfl) (by kernel_rfl) (by kernel_rfl) (fun _ _ _ h => h) (Or.inl ⟨by rfl, ?y17n2k14⟩) hHeld ?z17n2k14
        case y17n2k14 => intro w hSw; (try dsimp only at hSw); go_simp <;> rfl
        try simp only [Act.put, List.setIfInBounds_toArray, List.set_cons_zero, List.set_cons_succ]
        refine wpAnyH_take (i := 18) (oi := ⟨some 36, Op.convert 36 5 (Operand.tmp 35), 5, _, _, none⟩) (v := ?v18n2k15) rfl (by kernel_rfl) (by kernel_rfl) (by kernel_rfl) (fun _ _ _ h => h) (Or.inl ⟨by rfl, ?y18n2k15⟩) hHeld ?z18n2k15
        case y18n2k15 => intro w hSw; (try dsimp only at hSw); go_simp <;> rfl
        try simp only [Act.put, List.setIfInBounds_toArray, List.set_cons_zero, List.set_cons_succ]
        refine wpAnyH_ready (rs := [5, 12, 19]) (by kernel_rfl) (by simp) ?_
        refine (AllReadyH.cons (o := ⟨some 23, Op.buildSlice 29 1 #[(0, Operand.tmp 22)], 29, _, _, none⟩) rfl (fun K hK => ?b5n2k18) (AllReadyH.cons (o := ⟨some 30, Op.buildSlice 29 1 #[(0, Operand.tmp 29)], 29, _, _, none⟩) rfl (fun K hK => ?b12n2k17) (AllReadyH.cons (o := ⟨some 37, Op.buildSlice 29 1 #[(0, Operand.tmp 36)], 29, _, _, none⟩) rfl (fun K hK => ?b19n2k16) AllReadyH.nil)))
        case b5n2k18 =>
          refine hR.step_build 5 rfl 29 (.tmp 22) rfl (.int .u8 0) Try.underlying29 Try.infoByte (bv ua) rfl rfl ?_
          intro B5 w5 hR2
          replace hR := hR2
          clear hR2
          refine hK.out _ _ trivial (fun hHeld => ?_)
          clear hK K
          try simp only [Act.put, List.setIfInBounds_toArray, List.set_cons_zero, List.set_cons_succ]
          refine wpAnyH_ready (rs := [6, 12, 19]) (by kernel_rfl) (by simp) ?_
          refine (AllReadyH.cons (o := ⟨some 24, Op.call { callee := Callee.builtin Builtin.append, args := #[Operand.tmp 18, Operand.tmp 23], argTypes := #[29, 29] }, 29, _, _, none⟩) rfl (fun K hK => ?b6n2k21) (AllReadyH.cons (o := ⟨some 30, Op.buildSlice 29 1 #[(0, Operand.tmp 29)], 29, _, _, none⟩) rfl (fun K hK => ?b12n2k20) (AllReadyH.cons (o := ⟨some 37, Op.buildSlice 29 1 #[(0, Operand.tmp 36)], 29, _, _, none⟩) rfl (fun K hK => ?b19n2k19) AllReadyH.nil)))
          case b6n2k21 =>
            refine hR.step_append 0 5 rfl (.tmp 18) (.tmp 23) 29 rfl (.int .u8 0) Try.underlying29 Try.infoByte rfl _ _ j 1 _ _ _ _ rfl rfl rfl rfl (by intro u hu; simp at hu; subst hu; rfl) (by omega) ?_
            intro A6 c6 w6 hR2
            replace hR := hR2
            clear hR2
            refine hK.out _ _ trivial (fun hHeld => ?_)
            clear hK K
            try simp only [Act.put, List.setIfInBounds_toArray, List.set_cons_zero, List.set_cons_succ]
            refine wpAnyH_ready (rs := [12, 19]) (by kernel_rfl) (by simp) ?_
            refine (AllReadyH.cons (o := ⟨some 30, Op.buildSlice 29 1 #[(0, Operand.tmp 29)], 29, _, _, none⟩) rfl (fun K hK => ?b12n2k23) (AllReadyH.cons (o := ⟨some 37, Op.buildSlice 29 1 #[(0, Operand.tmp 36)], 29, _, _, none⟩) rfl (fun K hK => ?b19n2k22) AllReadyH.nil))
            case b12n2k23 =>
              refine hR.step_build 12 rfl 29 (.tmp 29) rfl (.int .u8 0) Try.underlying29 Try.infoByte (bv ub) rfl rfl ?_
              intro B12 w12 hR2
              replace hR := hR2
              clear hR2
              refine hK.out _ _ trivial (fun hHeld => ?_)
              clear hK K
              try simp only [Act.put, List.setIfInBounds_toArray, List.set_cons_zero, List.set_cons_succ]
              refine wpAnyH_ready (rs := [13, 19]) (by kernel_rfl) (by simp) ?_
              refine (AllReadyH.cons (o := ⟨some 31, Op.call { callee := Callee.builtin Builtin.append, args := #[Operand.tmp 25, Operand.tmp 30], argTypes := #[29, 29] }, 29, _, _, none⟩) rfl (fun K hK => ?b13n2k25) (AllReadyH.cons (o := ⟨some 37, Op.buildSlice 29 1 #[(0, Operand.tmp 36)], 29, _, _, none⟩) rfl (fun K hK => ?b19n2k24) AllReadyH.nil))
              case b13n2k25 =>
                refine hR.step_append 1 12 rfl (.tmp 25) (.tmp 30) 29 rfl (.int .u8 0) Try.underlying29 Try.infoByte rfl _ _ j 1 _ _ _ _ rfl rfl rfl rfl (by intro u hu; simp at hu; subst hu; rfl) (by omega) ?_
                intro A7 c7 w7 hR2
                replace hR := hR2
                clear hR2
                refine hK.out _ _ trivial (fun hHeld => ?_)
                clear hK K
                try simp only [Act.put, List.setIfInBounds_toArray, List.set_cons_zero, List.set_cons_succ]
                refine wpAnyH_ready (rs := [19]) (by kernel_rfl) (by simp) ?_
                refine AllReadyH.cons (o := ⟨some 37, Op.buildSlice 29 1 #[(0, Operand.tmp 36)], 29, _, _, none⟩) rfl (fun K hK => ?_) AllReadyH.nil
                refine hR.step_build 19 rfl 29 (.tmp 36) rfl (.int .u8 0) Try.underlying29 Try.infoByte (bv uc) rfl rfl ?_
                intro B19 w19 hR2
                replace hR := hR2
                clear hR2
                refine hK.out _ _ trivial (fun hHeld => ?_)
                clear hK K
                try simp only [Act.put, List.setIfInBounds_toArray, List.set_cons_zero, List.set_cons_succ]
                refine wpAnyH_ready (rs := [20]) (by kernel_rfl) (by simp) ?_
                refine AllReadyH.cons (o := ⟨some 38, Op.call { callee := Callee.builtin Builtin.append, args := #[Operand.tmp 32, Operand.tmp 37], argTypes := #[29, 29] }, 29, _, _, none⟩) rfl (fun K hK => ?_) AllReadyH.nil
                refine hR.step_append 2 19 rfl (.tmp 32) (.tmp 37) 29 rfl (.int .u8 0) Try.underlying29 Try.infoByte rfl _ _ j 1 _ _ _ _ rfl rfl rfl rfl (by intro u hu; simp at hu; subst hu; rfl) (by omega) ?_
                intro A8 c8 w8 hR2
                replace hR := hR2
                clear hR2
                refine hK.out _ _ trivial (fun hHeld => ?_)
                clear hK K
                try simp only [Act.put, List.setIfInBounds_toArray, List.set_cons_zero, List.set_cons_succ]
                refine wpAnyH_take (i := 21) (oi := ⟨some 7, Op.assign (Operand.tmp 24), 29, _, _, none⟩) (v := ?v21n2k26) rfl (by kernel_rfl) (by kernel_rfl) (by kernel_rfl) (fun _ _ _ h => h) (Or.inl ⟨by rfl, ?y21n2k26⟩) hHeld ?z21n2k26
                case y21n2k26 => intro w hSw; (try dsimp only at hSw); go_simp <;> rfl
                try simp only [Act.put, List.setIfInBounds_toArray, List.set_cons_zero, List.set_cons_succ]
                refine wpAnyH_take (i := 22) (oi := ⟨some 8, Op.assign (Operand.tmp 31), 29, _, _, none⟩) (v := ?v22n2k27) rfl (by kernel_rfl) (by kernel_rfl) (by kernel_rfl) (fun _ _ _ h => h) (Or.inl ⟨by rfl, ?y22n2k27⟩) hHeld ?z22n2k27
                case y22n2k27 => intro w hSw; (try dsimp only at hSw); go_simp <;> rfl
                try simp only [Act.put, List.setIfInBounds_toArray, List.set_cons_zero, List.set_cons_succ]
                refine wpAnyH_take (i := 23) (oi := ⟨some 9, Op.assign (Operand.tmp 38), 29, _, _, none⟩) (v := ?v23n2k28) rfl (by kernel_rfl) (by kernel_rfl) (by kernel_rfl) (fun _ _ _ h => h) (Or.inl ⟨by rfl, ?y23n2k28⟩) hHeld ?z23n2k28
                case y23n2k28 => intro w hSw; (try dsimp only at hSw); go_simp <;> rfl
                try simp only [Act.put, List.setIfInBounds_toArray, List.set_cons_zero, List.set_cons_succ]
                refine wpAnyH_done (by kernel_rfl) ?_ _
                refine NoPanic.normal ?_
                go_wp2
                go_meet
                case rel => exact ⟨A6, A7, A8, c6, c7, c8, rfl, rfl, rfl, Lib.hid (hR.four (by rw [EA.out]; rfl) (by rw [EB.out]; rfl) (by rw [EC.out]; rfl) rfl)⟩
              case b19n2k24 =>
                refine hR.step_build 19 rfl 29 (.tmp 36) rfl (.int .u8 0) Try.underlying29 Try.infoByte (bv uc) rfl rfl ?_
                intro B19 w19 hR2
                replace hR := hR2
                clear hR2
                refine hK.out _ _ trivial (fun hHeld => ?_)
                clear hK K
                try simp only [Act.put, List.setIfInBounds_toArray, List.set_cons_zero, List.set_cons_succ]
                refine wpAnyH_ready (rs := [13]) (by kernel_rfl) (by simp) ?_
                refine AllReadyH.cons (o := ⟨some 31, Op.call { callee := Callee.builtin Builtin.append, args := #[Operand.tmp 25, Operand.tmp 30], argTypes := #[29, 29] }, 29, _, _, none⟩) rfl (fun K hK => ?_) AllReadyH.nil
                refine hR.step_append 1 12 rfl (.tmp 25) (.tmp 30) 29 rfl (.int .u8 0) Try.underlying29 Try.infoByte rfl _ _ j 1 _ _ _ _ rfl rfl rfl rfl (by intro u hu; simp at hu; subst hu; rfl) (by omega) ?_
                intro A7 c7 w7 hR2
                replace hR := hR2
                clear hR2
                refine hK.out _ _ trivial (fun hHeld => ?_)
                clear hK K
                try simp only [Act.put, List.setIfInBounds_toArray, List.set_cons_zero, List.set_cons_succ]
                refine wpAnyH_ready (rs := [20]) (by kernel_rfl) (by simp) ?_
                refine AllReadyH.cons (o := ⟨some 38, Op.call { callee := Callee.builtin Builtin.append, args := #[Operand.tmp 32, Operand.tmp 37], argTypes := #[29, 29] }, 29, _, _, none⟩) rfl (fun K hK => ?_) AllReadyH.nil
                refine hR.step_append 2 19 rfl (.tmp 32) (.tmp 37) 29 rfl (.int .u8 0) Try.underlying29 Try.infoByte rfl _ _ j 1 _ _ _ _ rfl rfl rfl rfl (by intro u hu; simp at hu; subst hu; rfl) (by omega) ?_
                intro A8 c8 w8 hR2
                replace hR := hR2
                clear hR2
                refine hK.out _ _ trivial (fun hHeld => ?_)
                clear hK K
                try simp only [Act.put, List.setIfInBounds_toArray, List.set_cons_zero, List.set_cons_succ]
                refine wpAnyH_take (i := 21) (oi := ⟨some 7, Op.assign (Operand.tmp 24), 29, _, _, none⟩) (v := ?v21n2k29) rfl (by kernel_rfl) (by kernel_rfl) (by kernel_rfl) (fun _ _ _ h => h) (Or.inl ⟨by rfl, ?y21n2k29⟩) hHeld ?z21n2k29
                case y21n2k29 => intro w hSw; (try dsimp only at hSw); go_simp <;> rfl
                try simp only [Act.put, List.setIfInBounds_toArray, List.set_cons_zero, List.set_cons_succ]
                refine wpAnyH_take (i := 22) (oi := ⟨some 8, Op.assign (Operand.tmp 31), 29, _, _, none⟩) (v := ?v22n2k30) rfl (by kernel_rfl) (by kernel_rfl) (by kernel_rfl) (fun _ _ _ h => h) (Or.inl ⟨by rfl, ?y22n2k30⟩) hHeld ?z22n2k30
                case y22n2k30 => intro w hSw; (try dsimp only at hSw); go_simp <;> rfl
                try simp only [Act.put, List.setIfInBounds_toArray, List.set_cons_zero, List.set_cons_succ]
                refine wpAnyH_take (i := 23) (oi := ⟨some 9, Op.assign (Operand.tmp 38), 29, _, _, none⟩) (v := ?v23n2k31) rfl (by kernel_rfl) (by kernel_rfl) (by kernel_rfl) (fun _ _ _ h => h) (Or.inl ⟨by rfl, ?y23n2k31⟩) hHeld ?z23n2k31
                case y23n2k31 => intro w hSw; (try dsimp only at hSw); go_simp <;> rfl
                try simp only [Act.put, List.setIfInBounds_toArray, List.set_cons_zero, List.set_cons_succ]
                refine wpAnyH_done (by kernel_rfl) ?_ _
                refine NoPanic.normal ?_
                go_wp2
                go_meet
                case rel => exact ⟨A6, A7, A8, c6, c7, c8, rfl, rfl, rfl, Lib.hid (hR.four (by rw [EA.out]; rfl) (by rw [EB.out]; rfl) (by rw [EC.out]; rfl) rfl)⟩
            case b19n2k22 =>
              refine hR.step_build 19 rfl 29 (.tmp 36) rfl (.int .u8 0) Try.underlying29 Try.infoByte (bv uc) rfl rfl ?_
              intro B19 w19 hR2
              replace hR := hR2
              clear hR2
              refine hK.out _ _ trivial (fun hHeld => ?_)
              clear hK K
              try simp only [Act.put, List.setIfInBounds_toArray, List.set_cons_zero, List.set_cons_succ]
              refine wpAnyH_ready (rs := [12]) (by kernel_rfl) (by simp) ?_
              refine AllReadyH.cons (o := ⟨some 30, Op.buildSlice 29 1 #[(0, Operand.tmp 29)], 29, _, _, none⟩) rfl (fun K hK => ?_) AllReadyH.nil
              refine hR.step_build 12 rfl 29 (.tmp 29) rfl (.int .u8 0) Try.underlying29 Try.infoByte (bv ub) rfl rfl ?_
              intro B12 w12 hR2
              replace hR := hR2
              clear hR2
              refine hK.out _ _ trivial (fun hHeld => ?_)
              clear hK K
              try simp only [Act.put, List.setIfInBounds_toArray, List.set_cons_zero, List.set_cons_succ]
              refine wpAnyH_ready (rs := [13]) (by kernel_rfl) (by simp) ?_
              refine AllReadyH.cons (o := ⟨some 31, Op.call { callee := Callee.builtin Builtin.append, args := #[Operand.tmp 25, Operand.tmp 30], argTypes := #[29, 29] }, 29, _, _, none⟩) rfl (fun K hK => ?_) AllReadyH.nil
              refine hR.step_append 1 12 rfl (.tmp 25) (.tmp 30) 29 rfl (.int .u8 0) Try.underlying29 Try.infoByte rfl _ _ j 1 _ _ _ _ rfl rfl rfl rfl (by intro u hu; simp at hu; subst hu; rfl) (by omega) ?_
              intro A7 c7 w7 hR2
              replace hR := hR2
              clear hR2
              refine hK.out _ _ trivial (fun hHeld => ?_)
              clear hK K
              try simp only [Act.put, List.setIfInBounds_toArray, List.set_cons_zero, List.set_cons_succ]
              refine wpAnyH_ready (rs := [20]) (by kernel_rfl) (by simp) ?_
              refine AllReadyH.cons (o := ⟨some 38, Op.call { callee := Callee.builtin Builtin.append, args := #[Operand.tmp 32, Operand.tmp 37], argTypes := #[29, 29] }, 29, _, _, none⟩) rfl (fun K hK => ?_) AllReadyH.nil
              refine hR.step_append 2 19 rfl (.tmp 32) (.tmp 37) 29 rfl (.int .u8 0) Try.underlying29 Try.infoByte rfl _ _ j 1 _ _ _ _ rfl rfl rfl rfl (by intro u hu; simp at hu; subst hu; rfl) (by omega) ?_
              intro A8 c8 w8 hR2
              replace hR := hR2
              clear hR2
              refine hK.out _ _ trivial (fun hHeld => ?_)
              clear hK K
              try simp only [Act.put, List.setIfInBounds_toArray, List.set_cons_zero, List.set_cons_succ]
              refine wpAnyH_take (i := 21) (oi := ⟨some 7, Op.assign (Operand.tmp 24), 29, _, _, none⟩) (v := ?v21n2k32) rfl (by kernel_rfl) (by kernel_rfl) (by kernel_rfl) (fun _ _ _ h => h) (Or.inl ⟨by rfl, ?y21n2k32⟩) hHeld ?z21n2k32
              case y21n2k32 => intro w hSw; (try dsimp only at hSw); go_simp <;> rfl
              try simp only [Act.put, List.setIfInBounds_toArray, List.set_cons_zero, List.set_cons_succ]
              refine wpAnyH_take (i := 22) (oi := ⟨some 8, Op.assign (Operand.tmp 31), 29, _, _, none⟩) (v := ?v22n2k33) rfl (by kernel_rfl) (by kernel_rfl) (by kernel_rfl) (fun _ _ _ h => h) (Or.inl ⟨by rfl, ?y22n2k33⟩) hHeld ?z22n2k33
              case y22n2k33 => intro w hSw; (try dsimp only at hSw); go_simp <;> rfl
              try simp only [Act.put, List.setIfInBounds_toArray, List.set_cons_zero, List.set_cons_succ]
              refine wpAnyH_take (i := 23) (oi := ⟨some 9, Op.assign (Operand.tmp 38), 29, _, _, none⟩) (v := ?v23n2k34) rfl (by kernel_rfl) (by kernel_rfl) (by kernel_rfl) (fun _ _ _ h => h) (Or.inl ⟨by rfl, ?y23n2k34⟩) hHeld ?z23n2k34
              case y23n2k34 => intro w hSw; (try dsimp only at hSw); go_simp <;> rfl
              try simp only [Act.put, List.setIfInBounds_toArray, List.set_cons_zero, List.set_cons_succ]
              refine wpAnyH_done (by kernel_rfl) ?_ _
              refine NoPanic.normal ?_
              go_wp2
              go_meet
              case rel => exact ⟨A6, A7, A8, c6, c7, c8, rfl, rfl, rfl, Lib.hid (hR.four (by rw [EA.out]; rfl) (by rw [EB.out]; rfl) (by rw [EC.out]; rfl) rfl)⟩
          case b12n2k20 =>
            refine hR.step_build 12 rfl 29 (.tmp 29) rfl (.int .u8 0) Try.underlying29 Try.infoByte (bv ub) rfl rfl ?_
            intro B12 w12 hR2
            replace hR := hR2
            clear hR2
            refine hK.out _ _ trivial (fun hHeld => ?_)
            clear hK K
            try simp only [Act.put, List.setIfInBounds_toArray, List.set_cons_zero, List.set_cons_succ]
            refine wpAnyH_ready (rs := [6, 19]) (by kernel_rfl) (by simp) ?_
            refine (AllReadyH.cons (o := ⟨some 24, Op.call { callee := Callee.builtin Builtin.append, args := #[Operand.tmp 18, Operand.tmp 23], argTypes := #[29, 29] }, 29, _, _, none⟩) rfl (fun K hK => ?b6n2k36) (AllReadyH.cons (o := ⟨some 37, Op.buildSlice 29 1 #[(0, Operand.tmp 36)], 29, _, _, none⟩) rfl (fun K hK => ?b19n2k35) AllReadyH.nil))
            case b6n2k36 =>
              refine hR.step_append 0 5 rfl (.tmp 18) (.tmp 23) 29 rfl (.int .u8 0) Try.underlying29 Try.infoByte rfl _ _ j 1 _ _ _ _ rfl rfl rfl rfl (by intro u hu; simp at hu; subst hu; rfl) (by omega) ?_
              intro A6 c6 w6 hR2
              replace hR := hR2
              clear hR2
              refine hK.out _ _ trivial (fun hHeld => ?_)
              clear hK K
              try simp only [Act.put, List.setIfInBounds_toArray, List.set_cons_zero, List.set_cons_succ]
              refine wpAnyH_ready (rs := [13, 19]) (by kernel_rfl) (by simp) ?_
              refine (AllReadyH.cons (o := ⟨some 31, Op.call { callee := Callee.builtin Builtin.append, args := #[Operand.tmp 25, Operand.tmp 30], argTypes := #[29, 29] }, 29, _, _, none⟩) rfl (fun K hK => ?b13n2k38) (AllReadyH.cons (o := ⟨some 37, Op.buildSlice 29 1 #[(0, Operand.tmp 36)], 29, _, _, none⟩) rfl (fun K hK => ?b19n2k37) AllReadyH.nil))
              case b13n2k38 =>
                refine hR.step_append 1 12 rfl (.tmp 25) (.tmp 30) 29 rfl (.int .u8 0) Try.underlying29 Try.infoByte rfl _ _ j 1 _ _ _ _ rfl rfl rfl rfl (by intro u hu; simp at hu; subst hu; rfl) (by omega) ?_
                intro A7 c7 w7 hR2
                replace hR := hR2
                clear hR2
                refine hK.out _ _ trivial (fun hHeld => ?_)
                clear hK K
                try simp only [Act.put, List.setIfInBounds_toArray, List.set_cons_zero, List.set_cons_succ]
                refine wpAnyH_ready (rs := [19]) (by kernel_rfl) (by simp) ?_
                refine AllReadyH.cons (o := ⟨some 37, Op.buildSlice 29 1 #[(0, Operand.tmp 36)], 29, _, _, none⟩) rfl (fun K hK => ?_) AllReadyH.nil
                refine hR.step_build 19 rfl 29 (.tmp 36) rfl (.int .u8 0) Try.underlying29 Try.infoByte (bv uc) rfl rfl ?_
                intro B19 w19 hR2
                replace hR := hR2
                clear hR2
                refine hK.out _ _ trivial (fun hHeld => ?_)
                clear hK K
                try simp only [Act.put, List.setIfInBounds_toArray, List.set_cons_zero, List.set_cons_succ]
                refine wpAnyH_ready (rs := [20]) (by kernel_rfl) (by simp) ?_
                refine AllReadyH.cons (o := ⟨some 38, Op.call { callee := Callee.builtin Builtin.append, args := #[Operand.tmp 32, Operand.tmp 37], argTypes := #[29, 29] }, 29, _, _, none⟩) rfl (fun K hK => ?_) AllReadyH.nil
                refine hR.step_append 2 19 rfl (.tmp 32) (.tmp 37) 29 rfl (.int .u8 0) Try.underlying29 Try.infoByte rfl _ _ j 1 _ _ _ _ rfl rfl rfl rfl (by intro u hu; simp at hu; subst hu; rfl) (by omega) ?_
                intro A8 c8 w8 hR2
                replace hR := hR2
                clear hR2
                refine hK.out _ _ trivial (fun hHeld => ?_)
                clear hK K
                try simp only [Act.put, List.setIfInBounds_toArray, List.set_cons_zero, List.set_cons_succ]
                refine wpAnyH_take (i := 21) (oi := ⟨some 7, Op.assign (Operand.tmp 24), 29, _, _, none⟩) (v := ?v21n2k39) rfl (by kernel_rfl) (by kernel_rfl) (by kernel_rfl) (fun _ _ _ h => h) (Or.inl ⟨by rfl, ?y21n2k39⟩) hHeld ?z21n2k39
                case y21n2k39 => intro w hSw; (try dsimp only at hSw); go_simp <;> rfl
                try simp only [Act.put, List.setIfInBounds_toArray, List.set_cons_zero, List.set_cons_succ]
                refine wpAnyH_take (i := 22) (oi := ⟨some 8, Op.assign (Operand.tmp 31), 29, _, _, none⟩) (v := ?v22n2k40) rfl (by kernel_rfl) (by kernel_rfl) (by kernel_rfl) (fun _ _ _ h => h) (Or.inl ⟨by rfl, ?y22n2k40⟩) hHeld ?z22n2k40
                case y22n2k40 => intro w hSw; (try dsimp only at hSw); go_simp <;> rfl
                try simp only [Act.put, List.setIfInBounds_toArray, List.set_cons_zero, List.set_cons_succ]
                refine wpAnyH_take (i := 23) (oi := ⟨some 9, Op.assign (Operand.tmp 38), 29, _, _, none⟩) (v := ?v23n2k41) rfl (by kernel_rfl) (by kernel_rfl) (by kernel_rfl) (fun _ _ _ h => h) (Or.inl ⟨by rfl, ?y23n2k41⟩) hHeld ?z23n2k41
                case y23n2k41 => intro w hSw; (try dsimp only at hSw); go_simp <;> rfl
                try simp only [Act.put, List.setIfInBounds_toArray, List.set_cons_zero, List.set_cons_succ]
                refine wpAnyH_done (by kernel_rfl) ?_ _
                refine NoPanic.normal ?_
                go_wp2
                go_meet
                case rel => exact ⟨A6, A7, A8, c6, c7, c8, rfl, rfl, rfl, Lib.hid (hR.four (by rw [EA.out]; rfl) (by rw [EB.out]; rfl) (by rw [EC.out]; rfl) rfl)⟩
              case b19n2k37 =>
                refine hR.step_build 19 rfl 29 (.tmp 36) rfl (.int .u8 0) Try.underlying29 Try.infoByte (bv uc) rfl rfl ?_
                intro B19 w19 hR2
                replace hR := hR2
                clear hR2
                refine hK.out _ _ trivial (fun hHeld => ?_)
                clear hK K
                try simp only [Act.put, List.setIfInBounds_toArray, List.set_cons_zero, List.set_cons_succ]
                refine wpAnyH_ready (rs := [13]) (by kernel_rfl) (by simp) ?_
                refine AllReadyH.cons (o := ⟨some 31, Op.call { callee := Callee.builtin Builtin.append, args := #[Operand.tmp 25, Operand.tmp 30], argTypes := #[29, 29] }, 29, _, _, none⟩) rfl (fun K hK => ?_) AllReadyH.nil
                refine hR.step_append 1 12 rfl (.tmp 25) (.tmp 30) 29 rfl (.int .u8 0) Try.underlying29 Try.infoByte rfl _ _ j 1 _ _ _ _ rfl rfl rfl rfl (by intro u hu; simp at hu; subst hu; rfl) (by omega) ?_
                intro A7 c7 w7 hR2
                replace hR := hR2
                clear hR2
                refine hK.out _ _ trivial (fun hHeld => ?_)
                clear hK K
                try simp only [Act.put, List.setIfInBounds_toArray, List.set_cons_zero, List.set_cons_succ]
                refine wpAnyH_ready (rs := [20]) (by kernel_rfl) (by simp) ?_
                refine AllReadyH.cons (o := ⟨some 38, Op.call { callee := Callee.builtin Builtin.append, args := #[Operand.tmp 32, Operand.tmp 37], argTypes := #[29, 29] }, 29, _, _, none⟩) rfl (fun K hK => ?_) AllReadyH.nil
                refine hR.step_append 2 19 rfl (.tmp 32) (.tmp 37) 29 rfl (.int .u8 0) Try.underlying29 Try.infoByte rfl _ _ j 1 _ _ _ _ rfl rfl rfl rfl (by intro u hu; simp at hu; subst hu; rfl) (by omega) ?_
                intro A8 c8 w8 hR2
                replace hR := hR2
                clear hR2
                refine hK.out _ _ trivial (fun hHeld => ?_)
                clear hK K
                try simp only [Act.put, List.setIfInBounds_toArray, List.set_cons_zero, List.set_cons_succ]
                refine wpAnyH_take (i := 21) (oi := ⟨some 7, Op.assign (Operand.tmp 24), 29, _, _, none⟩) (v := ?v21n2k42) rfl (by kernel_rfl) (by kernel_rfl) (by kernel_rfl) (fun _ _ _ h => h) (Or.inl ⟨by rfl, ?y21n2k42⟩) hHeld ?z21n2k42
                case y21n2k42 => intro w hSw; (try dsimp only at hSw); go_simp <;> rfl
                try simp only [Act.put, List.setIfInBounds_toArray, List.set_cons_zero, List.set_cons_succ]
                refine wpAnyH_take (i := 22) (oi := ⟨some 8, Op.assign (Operand.tmp 31), 29, _, _, none⟩) (v := ?v22n2k43) rfl (by kernel_rfl) (by kernel_rfl) (by kernel_rfl) (fun _ _ _ h => h) (Or.inl ⟨by rfl, ?y22n2k43⟩) hHeld ?z22n2k43
                case y22n2k43 => intro w hSw; (try dsimp only at hSw); go_simp <;> rfl
                try simp only [Act.put, List.setIfInBounds_toArray, List.set_cons_zero, List.set_cons_succ]
                refine wpAnyH_take (i := 23) (oi := ⟨some 9, Op.assign (Operand.tmp 38), 29, _, _, none⟩) (v := ?v23n2k44) rfl (by kernel_rfl) (by kernel_rfl) (by kernel_rfl) (fun _ _ _ h => h) (Or.inl ⟨by rfl, ?y23n2k44⟩) hHeld ?z23n2k44
                case y23n2k44 => intro w hSw; (try dsimp only at hSw); go_simp <;> rfl
                try simp only [Act.put, List.setIfInBounds_toArray, List.set_cons_zero, List.set_cons_succ]
                refine wpAnyH_done (by kernel_rfl) ?_ _
                refine NoPanic.normal ?_
                go_wp2
                go_meet
                case rel => exact ⟨A6, A7, A8, c6, c7, c8, rfl, rfl, rfl, Lib.hid (hR.four (by rw [EA.out]; rfl) (by rw [EB.out]; rfl) (by rw [EC.out]; rfl) rfl)⟩
            case b19n2k35 =>
              refine hR.step_build 19 rfl 29 (.tmp 36) rfl (.int .u8 0) Try.underlying29 Try.infoByte (bv uc) rfl rfl ?_
              intro B19 w19 hR2
              replace hR := hR2
              clear hR2
              refine hK.out _ _ trivial (fun hHeld => ?_)
              clear hK K
              try simp only [Act.put, List.setIfInBounds_toArray, List.set_cons_zero, List.set_cons_succ]
              refine wpAnyH_ready (rs := [6]) (by kernel_rfl) (by simp) ?_
              refine AllReadyH.cons (o := ⟨some 24, Op.call { callee := Callee.builtin Builtin.append, args := #[Operand.tmp 18, Operand.tmp 23], argTypes := #[29, 29] }, 29, _, _, none⟩) rfl (fun K hK => ?_) AllReadyH.nil
              refine hR.step_append 0 5 rfl (.tmp 18) (.tmp 23) 29 rfl (.int .u8 0) Try.underlying29 Try.infoByte rfl _ _ j 1 _ _ _ _ rfl rfl rfl rfl (by intro u hu; simp at hu; subst hu; rfl) (by omega) ?_
              intro A6 c6 w6 hR2
              replace hR := hR2
              clear hR2
              refine hK.out _ _ trivial (fun hHeld => ?_)
              clear hK K
              try simp only [Act.put, List.setIfInBounds_toArray, List.set_cons_zero, List.set_cons_succ]
              refine wpAnyH_ready (rs := [13]) (by kernel_rfl) (by simp) ?_
              refine AllReadyH.cons (o := ⟨some 31, Op.call { callee := Callee.builtin Builtin.append, args := #[Operand.tmp 25, Operand.tmp 30], argTypes := #[29, 29] }, 29, _, _, none⟩) rfl (fun K hK => ?_) AllReadyH.nil
              refine hR.step_append 1 12 rfl (.tmp 25) (.tmp 30) 29 rfl (.int .u8 0) Try.underlying29 Try.infoByte rfl _ _ j 1 _ _ _ _ rfl rfl rfl rfl (by intro u hu; simp at hu; subst hu; rfl) (by omega) ?_
              intro A7 c7 w7 hR2
              replace hR := hR2
              clear hR2
              refine hK.out _ _ trivial (fun hHeld => ?_)
              clear hK K
              try simp only [Act.put, List.setIfInBounds_toArray, List.set_cons_zero, List.set_cons_succ]
              refine wpAnyH_ready (rs := [20]) (by kernel_rfl) (by simp) ?_
              refine AllReadyH.cons (o := ⟨some 38, Op.call { callee := Callee.builtin Builtin.append, args := #[Operand.tmp 32, Operand.tmp 37], argTypes := #[29, 29] }, 29, _, _, none⟩) rfl (fun K hK => ?_) AllReadyH.nil
              refine hR.step_append 2 19 rfl (.tmp 32) (.tmp 37) 29 rfl (.int .u8 0) Try.underlying29 Try.infoByte rfl _ _ j 1 _ _ _ _ rfl rfl rfl rfl (by intro u hu; simp at hu; subst hu; rfl) (by omega) ?_
              intro A8 c8 w8 hR2
              replace hR := hR2
              clear hR2
              refine hK.out _ _ trivial (fun hHeld => ?_)
              clear hK K
              try simp only [Act.put, List.setIfInBounds_toArray, List.set_cons_zero, List.set_cons_succ]
              refine wpAnyH_take (i := 21) (oi := ⟨some 7, Op.assign (Operand.tmp 24), 29, _, _, none⟩) (v := ?v21n2k45) rfl (by kernel_rfl) (by kernel_rfl) (by kernel_rfl) (fun _ _ _ h => h) (Or.inl ⟨by rfl, ?y21n2k45⟩) hHeld ?z21n2k45
              case y21n2k45 => intro w hSw; (try dsimp only at hSw); go_simp <;> rfl
              try simp only [Act.put, List.setIfInBounds_toArray, List.set_cons_zero, List.set_cons_succ]
              refine wpAnyH_take (i := 22) (oi := ⟨some 8, Op.assign (Operand.tmp 31), 29, _, _, none⟩) (v := ?v22n2k46) rfl (by kernel_rfl) (by kernel_rfl) (by kernel_rfl) (fun _ _ _ h => h) (Or.inl ⟨by rfl, ?y22n2k46⟩) hHeld ?z22n2k46
              case y22n2k46 => intro w hSw; (try dsimp only at hSw); go_simp <;> rfl
              try simp only [Act.put, List.setIfInBounds_toArray, List.set_cons_zero, List.set_cons_succ]
              refine wpAnyH_take (i := 23) (oi := ⟨some 9, Op.assign (Operand.tmp 38), 29, _, _, none⟩) (v := ?v23n2k47) rfl (by kernel_rfl) (by kernel_rfl) (by kernel_rfl) (fun _ _ _ h => h) (Or.inl ⟨by rfl, ?y23n2k47⟩) hHeld ?z23n2k47
              case y23n2k47 => intro w hSw; (try dsimp only at hSw); go_simp <;> rfl
              try simp only [Act.put, List.setIfInBounds_toArray, List.set_cons_zero, List.set_cons_succ]
              refine wpAnyH_done (by kernel_rfl) ?_ _
              refine NoPanic.normal ?_
              go_wp2
              go_meet
              case rel => exact ⟨A6, A7, A8, c6, c7, c8, rfl, rfl, rfl, Lib.hid (hR.four (by rw [EA.out]; rfl) (by rw [EB.out]; rfl) (by rw [EC.out]; rfl) rfl)⟩
          case b19n2k19 =>
            refine hR.step_build 19 rfl 29 (.tmp 36) rfl (.int .u8 0) Try.underlying29 Try.infoByte (bv uc) rfl rfl ?_
            intro B19 w19 hR2
            replace hR := hR2
            clear hR2
            refine hK.out _ _ trivial (fun hHeld => ?_)
            clear hK K
            try simp only [Act.put, List.setIfInBounds_toArray, List.set_cons_zero, List.set_cons_succ]
            refine wpAnyH_ready (rs := [6, 12]) (by kernel_rfl) (by simp) ?_
            refine (AllReadyH.cons (o := ⟨some 24, Op.call { callee := Callee.builtin Builtin.append, args := #[Operand.tmp 18, Operand.tmp 23], argTypes := #[29, 29] }, 29, _, _, none⟩) rfl (fun K hK => ?b6n2k49) (AllReadyH.cons (o := ⟨some 30, Op.buildSlice 29 1 #[(0, Operand.tmp 29)], 29, _, _, none⟩) rfl (fun K hK => ?b12n2k48) AllReadyH.nil))
            case b6n2k49 =>
              refine hR.step_append 0 5 rfl (.tmp 18) (.tmp 23) 29 rfl (.int .u8 0) Try.underlying29 Try.infoByte rfl _ _ j 1 _ _ _ _ rfl rfl rfl rfl (by intro u hu; simp at hu; subst hu; rfl) (by omega) ?_
              intro A6 c6 w6 hR2
              replace hR := hR2
              clear hR2
              refine hK.out _ _ trivial (fun hHeld => ?_)
              clear hK K
              try simp only [Act.put, List.setIfInBounds_toArray, List.set_cons_zero, List.set_cons_succ]
              refine wpAnyH_ready (rs := [12]) (by kernel_rfl) (by simp) ?_
              refine AllReadyH.cons (o := ⟨some 30, Op.buildSlice 29 1 #[(0, Operand.tmp 29)], 29, _, _, none⟩) rfl (fun K hK => ?_) AllReadyH.nil
              refine hR.step_build 12 rfl 29 (.tmp 29) rfl (.int .u8 0) Try.underlying29 Try.infoByte (bv ub) rfl rfl ?_
              intro B12 w12 hR2
              replace hR := hR2
              clear hR2
              refine hK.out _ _ trivial (fun hHeld => ?_)
              clear hK K
              try simp only [Act.put, List.setIfInBounds_toArray, List.set_cons_zero, List.set_cons_succ]
              refine wpAnyH_ready (rs := [13]) (by kernel_rfl) (by simp) ?_
              refine AllReadyH.cons (o := ⟨some 31, Op.call { callee := Callee.builtin Builtin.append, args := #[Operand.tmp 25, Operand.tmp 30], argTypes := #[29, 29] }, 29, _, _, none⟩) rfl (fun K hK => ?_) AllReadyH.nil
              refine hR.step_append 1 12 rfl (.tmp 25) (.tmp 30) 29 rfl (.int .u8 0) Try.underlying29 Try.infoByte rfl _ _ j 1 _ _ _ _ rfl rfl rfl rfl (by intro u hu; simp at hu; subst hu; rfl) (by omega) ?_
              intro A7 c7 w7 hR2
              replace hR := hR2
              clear hR2
              refine hK.out _ _ trivial (fun hHeld => ?_)
              clear hK K
              try simp only [Act.put, List.setIfInBounds_toArray, List.set_cons_zero, List.set_cons_succ]
              refine wpAnyH_ready (rs := [20]) (by kernel_rfl) (by simp) ?_
              refine AllReadyH.cons (o := ⟨some 38, Op.call { callee := Callee.builtin Builtin.append, args := #[Operand.tmp 32, Operand.tmp 37], argTypes := #[29, 29] }, 29, _, _, none⟩) rfl (fun K hK => ?_) AllReadyH.nil
              refine hR.step_append 2 19 rfl (.tmp 32) (.tmp 37) 29 rfl (.int .u8 0) Try.underlying29 Try.infoByte rfl _ _ j 1 _ _ _ _ rfl rfl rfl rfl (by intro u hu; simp at hu; subst hu; rfl) (by omega) ?_
              intro A8 c8 w8 hR2
              replace hR := hR2
              clear hR2
              refine hK.out _ _ trivial (fun hHeld => ?_)
              clear hK K
              try simp only [Act.put, List.setIfInBounds_toArray, List.set_cons_zero, List.set_cons_succ]
              refine wpAnyH_take (i := 21) (oi := ⟨some 7, Op.assign (Operand.tmp 24), 29, _, _, none⟩) (v := ?v21n2k50) rfl (by kernel_rfl) (by kernel_rfl) (by kernel_rfl) (fun _ _ _ h => h) (Or.inl ⟨by rfl, ?y21n2k50⟩) hHeld ?z21n2k50
              case y21n2k50 => intro w hSw; (try dsimp only at hSw); go_simp <;> rfl
              try simp only [Act.put, List.setIfInBounds_toArray, List.set_cons_zero, List.set_cons_succ]
              refine wpAnyH_take (i := 22) (oi := ⟨some 8, Op.assign (Operand.tmp 31), 29, _, _, none⟩) (v := ?v22n2k51) rfl (by kernel_rfl) (by kernel_rfl) (by kernel_rfl) (fun _ _ _ h => h) (Or.inl ⟨by rfl, ?y22n2k51⟩) hHeld ?z22n2k51
              case y22n2k51 => intro w hSw; (try dsimp only at hSw); go_simp <;> rfl
              try simp only [Act.put, List.setIfInBounds_toArray, List.set_cons_zero, List.set_cons_succ]
              refine wpAnyH_take (i := 23) (oi := ⟨some 9, Op.assign (Operand.tmp 38), 29, _, _, none⟩) (v := ?v23n2k52) rfl (by kernel_rfl) (by kernel_rfl) (by kernel_rfl) (fun _ _ _ h => h) (Or.inl ⟨by rfl, ?y23n2k52⟩) hHeld ?z23n2k52
              case y23n2k52 => intro w hSw; (try dsimp only at hSw); go_simp <;> rfl
              try simp only [Act.put, List.setIfInBounds_toArray, List.set_cons_zero, List.set_cons_succ]
              refine wpAnyH_done (by kernel_rfl) ?_ _
              refine NoPanic.normal ?_
              go_wp2
              go_meet
              case rel => exact ⟨A6, A7, A8, c6, c7, c8, rfl, rfl, rfl, Lib.hid (hR.four (by rw [EA.out]; rfl) (by rw [EB.out]; rfl) (by rw [EC.out]; rfl) rfl)⟩
            case b12n2k48 =>
              refine hR.step_build 12 rfl 29 (.tmp 29) rfl (.int .u8 0) Try.underlying29 Try.infoByte (bv ub) rfl rfl ?_
              intro B12 w12 hR2
              replace hR := hR2
              clear hR2
              refine hK.out _ _ trivial (fun hHeld => ?_)
              clear hK K
              try simp only [Act.put, List.setIfInBounds_toArray, List.set_cons_zero, List.set_cons_succ]
              refine wpAnyH_ready (rs := [6]) (by kernel_rfl) (by simp) ?_
              refine AllReadyH.cons (o := ⟨some 24, Op.call { callee := Callee.builtin Builtin.append, args := #[Operand.tmp 18, Operand.tmp 23], argTypes := #[29, 29] }, 29, _, _, none⟩) rfl (fun K hK => ?_) AllReadyH.nil
              refine hR.step_append 0 5 rfl (.tmp 18) (.tmp 23) 29 rfl (.int .u8 0) Try.underlying29 Try.infoByte rfl _ _ j 1 _ _ _ _ rfl rfl rfl rfl (by intro u hu; simp at hu; subst hu; rfl) (by omega) ?_
              intro A6 c6 w6 hR2
              replace hR := hR2
              clear hR2
              refine hK.out _ _ trivial (fun hHeld => ?_)
              clear hK K
              try simp only [Act.put, List.setIfInBounds_toArray, List.set_cons_zero, List.set_cons_succ]
              refine wpAnyH_ready (rs := [13]) (by kernel_rfl) (by simp) ?_
              refine AllReadyH.cons (o := ⟨some 31, Op.call { callee := Callee.builtin Builtin.append, args := #[Operand.tmp 25, Operand.tmp 30], argTypes := #[29, 29] }, 29, _, _, none⟩) rfl (fun K hK => ?_) AllReadyH.nil
              refine hR.step_append 1 12 rfl (.tmp 25) (.tmp 30) 29 rfl (.int .u8 0) Try.underlying29 Try.infoByte rfl _ _ j 1 _ _ _ _ rfl rfl rfl rfl (by intro u hu; simp at hu; subst hu; rfl) (by omega) ?_
              intro A7 c7 w7 hR2
              replace hR := hR2
              clear hR2
              refine hK.out _ _ trivial (fun hHeld => ?_)
              clear hK K
              try simp only [Act.put, List.setIfInBounds_toArray, List.set_cons_zero, List.set_cons_succ]
              refine wpAnyH_ready (rs := [20]) (by kernel_rfl) (by simp) ?_
              refine AllReadyH.cons (o := ⟨some 38, Op.call { callee := Callee.builtin Builtin.append, args := #[Operand.tmp 32, Operand.tmp 37], argTypes := #[29, 29] }, 29, _, _, none⟩) rfl (fun K hK => ?_) AllReadyH.nil
              refine hR.step_append 2 19 rfl (.tmp 32) (.tmp 37) 29 rfl (.int .u8 0) Try.underlying29 Try.infoByte rfl _ _ j 1 _ _ _ _ rfl rfl rfl rfl (by intro u hu; simp at hu; subst hu; rfl) (by omega) ?_
              intro A8 c8 w8 hR2
              replace hR := hR2
              clear hR2
              refine hK.out _ _ trivial (fun hHeld => ?_)
              clear hK K
              try simp only [Act.put, List.setIfInBounds_toArray, List.set_cons_zero, List.set_cons_succ]
              refine wpAnyH_take (i := 21) (oi := ⟨some 7, Op.assign (Operand.tmp 24), 29, _, _, none⟩) (v := ?v21n2k53) rfl (by kernel_rfl) (by kernel_rfl) (by kernel_rfl) (fun _ _ _ h => h) (Or.inl ⟨by rfl, ?y21n2k53⟩) hHeld ?z21n2k53
              case y21n2k53 => intro w hSw; (try dsimp only at hSw); go_simp <;> rfl
              try simp only [Act.put, List.setIfInBounds_toArray, List.set_cons_zero, List.set_cons_succ]
              refine wpAnyH_take (i := 22) (oi := ⟨some 8, Op.assign (Operand.tmp 31), 29, _, _, none⟩) (v := ?v22n2k54) rfl (by kernel_rfl) (by kernel_rfl) (by kernel_rfl) (fun _ _ _ h => h) (Or.inl ⟨by rfl, ?y22n2k54⟩) hHeld ?z22n2k54
              case y22n2k54 => intro w hSw; (try dsimp only at hSw); go_simp <;> rfl
              try simp only [Act.put, List.setIfInBounds_toArray, List.set_cons_zero, List.set_cons_succ]
              refine wpAnyH_take (i := 23) (oi := ⟨some 9, Op.assign (Operand.tmp 38), 29, _, _, none⟩) (v := ?v23n2k55) rfl (by kernel_rfl) (by kernel_rfl) (by kernel_rfl) (fun _ _ _ h => h) (Or.inl ⟨by rfl, ?y23n2k55⟩) hHeld ?z23n2k55
              case y23n2k55 => intro w hSw; (try dsimp only at hSw); go_simp <;> rfl
              try simp only [Act.put, List.setIfInBounds_toArray, List.set_cons_zero, List.set_cons_succ]
              refine wpAnyH_done (by kernel_rfl) ?_ _
              refine NoPanic.normal ?_
              go_wp2
              go_meet
              case rel => exact ⟨A6, A7, A8, c6, c7, c8, rfl, rfl, rfl, Lib.hid (hR.four (by rw [EA.out]; rfl) (by rw [EB.out]; rfl) (by rw [EC.out]; rfl) rfl)⟩
        case b12n2k17 =>
          refine hR.step_build 12 rfl 29 (.tmp 29) rfl (.int .u8 0) Try.underlying29 Try.infoByte (bv ub) rfl rfl ?_
          intro B12 w12 hR2
          replace hR := hR2
          clear hR2
          refine hK.out _ _ trivial (fun hHeld => ?_)
          clear hK K
          try simp only [Act.put, List.setIfInBounds_toArray, List.set_cons_zero, List.set_cons_succ]
          refine wpAnyH_ready (rs := [5, 19]) (by kernel_rfl) (by simp) ?_
          refine (AllReadyH.cons (o := ⟨some 23, Op.buildSlice 29 1 #[(0, Operand.tmp 22)], 29, _, _, none⟩) rfl (fun K hK => ?b5n2k57) (AllReadyH.cons (o := ⟨some 37, Op.buildSlice 29 1 #[(0, Operand.tmp 36)], 29, _, _, none⟩) rfl (fun K hK => ?b19n2k56) AllReadyH.nil))
          case b5n2k57 =>
            refine hR.step_build 5 rfl 29 (.tmp 22) rfl (.int .u8 0) Try.underlying29 Try.infoByte (bv ua) rfl rfl ?_
            intro B5 w5 hR2
            replace hR := hR2
            clear hR2
            refine hK.out _ _ trivial (fun hHeld => ?_)
            clear hK K
            try simp only [Act.put, List.setIfInBounds_toArray, List.set_cons_zero, List.set_cons_succ]
            refine wpAnyH_ready (rs := [6, 19]) (by kernel_rfl) (by simp) ?_
            refine (AllReadyH.cons (o := ⟨some 24, Op.call { callee := Callee.builtin Builtin.append, args := #[Operand.tmp 18, Operand.tmp 23], argTypes := #[29, 29] }, 29, _, _, none⟩) rfl (fun K hK => ?b6n2k59) (AllReadyH.cons (o := ⟨some 37, Op.buildSlice 29 1 #[(0, Operand.tmp 36)], 29, _, _, none⟩) rfl (fun K hK => ?b19n2k58) AllReadyH.nil))
            case b6n2k59 =>
              refine hR.step_append 0 5 rfl (.tmp 18) (.tmp 23) 29 rfl (.int .u8 0) Try.underlying29 Try.infoByte rfl _ _ j 1 _ _ _ _ rfl rfl rfl rfl (by intro u hu; simp at hu; subst hu; rfl) (by omega) ?_
              intro A6 c6 w6 hR2
              replace hR := hR2
              clear hR2
              refine hK.out _ _ trivial (fun hHeld => ?_)
              clear hK K
              try simp only [Act.put, List.setIfInBounds_toArray, List.set_cons_zero, List.set_cons_succ]
              refine wpAnyH_ready (rs := [13, 19]) (by kernel_rfl) (by simp) ?_
              refine (AllReadyH.cons (o := ⟨some 31, Op.call { callee := Callee.builtin Builtin.append, args := #[Operand.tmp 25, Operand.tmp 30], argTypes := #[29, 29] }, 29, _, _, none⟩) rfl (fun K hK => ?b13n2k61) (AllReadyH.cons (o := ⟨some 37, Op.buildSlice 29 1 #[(0, Operand.tmp 36)], 29, _, _, none⟩) rfl (fun K hK => ?b19n2k60) AllReadyH.nil))
              case b13n2k61 =>
                refine hR.step_append 1 12 rfl (.tmp 25) (.tmp 30) 29 rfl (.int .u8 0) Try.underlying29 Try.infoByte rfl _ _ j 1 _ _ _ _ rfl rfl rfl rfl (by intro u hu; simp at hu; subst hu; rfl) (by omega) ?_
                intro A7 c7 w7 hR2
                replace hR := hR2
                clear hR2
                refine hK.out _ _ trivial (fun hHeld => ?_)
                clear hK K
                try simp only [Act.put, List.setIfInBounds_toArray, List.set_cons_zero, List.set_cons_succ]
                refine wpAnyH_ready (rs := [19]) (by kernel_rfl) (by simp) ?_
                refine AllReadyH.cons (o := ⟨some 37, Op.buildSlice 29 1 #[(0, Operand.tmp 36)], 29, _, _, none⟩) rfl (fun K hK => ?_) AllReadyH.nil
                refine hR.step_build 19 rfl 29 (.tmp 36) rfl (.int .u8 0) Try.underlying29 Try.infoByte (bv uc) rfl rfl ?_
                intro B19 w19 hR2
                replace hR := hR2
                clear hR2
                refine hK.out _ _ trivial (fun hHeld => ?_)
                clear hK K
                try simp only [Act.put, List.setIfInBounds_toArray, List.set_cons_zero, List.set_cons_succ]
                refine wpAnyH_ready (rs := [20]) (by kernel_rfl) (by simp) ?_
                refine AllReadyH.cons (o := ⟨some 38, Op.call { callee := Callee.builtin Builtin.append, args := #[Operand.tmp 32, Operand.tmp 37], argTypes := #[29, 29] }, 29, _, _, none⟩) rfl (fun K hK => ?_) AllReadyH.nil
                refine hR.step_append 2 19 rfl (.tmp 32) (.tmp 37) 29 rfl (.int .u8 0) Try.underlying29 Try.infoByte rfl _ _ j 1 _ _ _ _ rfl rfl rfl rfl (by intro u hu; simp at hu; subst hu; rfl) (by omega) ?_
                intro A8 c8 w8 hR2
                replace hR := hR2
                clear hR2
                refine hK.out _ _ trivial (fun hHeld => ?_)
                clear hK K
                try simp only [Act.put, List.setIfInBounds_toArray, List.set_cons_zero, List.set_cons_succ]
                refine wpAnyH_take (i := 21) (oi := ⟨some 7, Op.assign (Operand.tmp 24), 29, _, _, none⟩) (v := ?v21n2k62) rfl (by kernel_rfl) (by kernel_rfl) (by kernel_rfl) (fun _ _ _ h => h) (Or.inl ⟨by rfl, ?y21n2k62⟩) hHeld ?z21n2k62
                case y21n2k62 => intro w hSw; (try dsimp only at hSw); go_simp <;> rfl
                try simp only [Act.put, List.setIfInBounds_toArray, List.set_cons_zero, List.set_cons_succ]
                refine wpAnyH_take (i := 22) (oi := ⟨some 8, Op.assign (Operand.tmp 31), 29, _, _, none⟩) (v := ?v22n2k63) rfl (by kernel_rfl) (by kernel_rfl) (by kernel_rfl) (fun _ _ _ h => h) (Or.inl ⟨by rfl, ?y22n2k63⟩) hHeld ?z22n2k63
                case y22n2k63 => intro w hSw; (try dsimp only at hSw); go_simp <;> rfl
                try simp only [Act.put, List.setIfInBounds_toArray, List.set_cons_zero, List.set_cons_succ]
                refine wpAnyH_take (i := 23) (oi := ⟨some 9, Op.assign (Operand.tmp 38), 29, _, _, none⟩) (v := ?v23n2k64) rfl (by kernel_rfl) (by kernel_rfl) (by kernel_rfl) (fun _ _ _ h => h) (Or.inl ⟨by rfl, ?y23n2k64⟩) hHeld ?z23n2k64
                case y23n2k64 => intro w hSw; (try dsimp only at hSw); go_simp <;> rfl
                try simp only [Act.put, List.setIfInBounds_toArray, List.set_cons_zero, List.set_cons_succ]
                refine wpAnyH_done (by kernel_rfl) ?_ _
                refine NoPanic.normal ?_
                go_wp2
                go_meet
                case rel => exact ⟨A6, A7, A8, c6, c7, c8, rfl, rfl, rfl, Lib.hid (hR.four (by rw [EA.out]; rfl) (by rw [EB.out]; rfl) (by rw [EC.out]; rfl) rfl)⟩
              case b19n2k60 =>
                refine hR.step_build 19 rfl 29 (.tmp 36) rfl (.int .u8 0) Try.underlying29 Try.infoByte (bv uc) rfl rfl ?_
                intro B19 w19 hR2
                replace hR := hR2
                clear hR2
                refine hK.out _ _ trivial (fun hHeld => ?_)
                clear hK K
                try simp only [Act.put, List.setIfInBounds_toArray, List.set_cons_zero, List.set_cons_succ]
                refine wpAnyH_ready (rs := [13]) (by kernel_rfl) (by simp) ?_
                refine AllReadyH.cons (o := ⟨some 31, Op.call { callee := Callee.builtin Builtin.append, args := #[Operand.tmp 25, Operand.tmp 30], argTypes := #[29, 29] }, 29, _, _, none⟩) rfl (fun K hK => ?_) AllReadyH.nil
                refine hR.step_append 1 12 rfl (.tmp 25) (.tmp 30) 29 rfl (.int .u8 0) Try.underlying29 Try.infoByte rfl _ _ j 1 _ _ _ _ rfl rfl rfl rfl (by intro u hu; simp at hu; subst hu; rfl) (by omega) ?_
                intro A7 c7 w7 hR2
                replace hR := hR2
                clear hR2
                refine hK.out _ _ trivial (fun hHeld => ?_)
                clear hK K
                try simp only [Act.put, List.setIfInBounds_toArray, List.set_cons_zero, List.set_cons_succ]
                refine wpAnyH_ready (rs := [20]) (by kernel_rfl) (by simp) ?_
                refine AllReadyH.cons (o := ⟨some 38, Op.call { callee := Callee.builtin Builtin.append, args := #[Operand.tmp 32, Operand.tmp 37], argTypes := #[29, 29] }, 29, _, _, none⟩) rfl (fun K hK => ?_) AllReadyH.nil
                refine hR.step_append 2 19 rfl (.tmp 32) (.tmp 37) 29 rfl (.int .u8 0) Try.underlying29 Try.infoByte rfl _ _ j 1 _ _ _ _ rfl rfl rfl rfl (by intro u hu; simp at hu; subst hu; rfl) (by omega) ?_
                intro A8 c8 w8 hR2
                replace hR := hR2
                clear hR2
                refine hK.out _ _ trivial (fun hHeld => ?_)
                clear hK K
                try simp only [Act.put, List.setIfInBounds_toArray, List.set_cons_zero, List.set_cons_succ]
                refine wpAnyH_take (i := 21) (oi := ⟨some 7, Op.assign (Operand.tmp 24), 29, _, _, none⟩) (v := ?v21n2k65) rfl (by kernel_rfl) (by kernel_rfl) (by kernel_rfl) (fun _ _ _ h => h) (Or.inl ⟨by rfl, ?y21n2k65⟩) hHeld ?z21n2k65
                case y21n2k65 => intro w hSw; (try dsimp only at hSw); go_simp <;> rfl
                try simp only [Act.put, List.setIfInBounds_toArray, List.set_cons_zero, List.set_cons_succ]
                refine wpAnyH_take (i := 22) (oi := ⟨some 8, Op.assign (Operand.tmp 31), 29, _, _, none⟩) (v := ?v22n2k66) rfl (by kernel_rfl) (by kernel_rfl) (by kernel_rfl) (fun _ _ _ h => h) (Or.inl ⟨by rfl, ?y22n2k66⟩) hHeld ?z22n2k66
                case y22n2k66 => intro w hSw; (try dsimp only at hSw); go_simp <;> rfl
                try simp only [Act.put, List.setIfInBounds_toArray, List.set_cons_zero, List.set_cons_succ]
                refine wpAnyH_take (i := 23) (oi := ⟨some 9, Op.assign (Operand.tmp 38), 29, _, _, none⟩) (v := ?v23n2k67) rfl (by kernel_rfl) (by kernel_rfl) (by kernel_rfl) (fun _ _ _ h => h) (Or.inl ⟨by rfl, ?y23n2k67⟩) hHeld ?z23n2k67
                case y23n2k67 => intro w hSw; (try dsimp only at hSw); go_simp <;> rfl
                try simp only [Act.put, List.setIfInBounds_toArray, List.set_cons_zero, List.set_cons_succ]
                refine wpAnyH_done (by kernel_rfl) ?_ _
                refine NoPanic.normal ?_
                go_wp2
                go_meet
                case rel => exact ⟨A6, A7, A8, c6, c7, c8, rfl, rfl, rfl, Lib.hid (hR.four (by rw [EA.out]; rfl) (by rw [EB.out]; rfl) (by rw [EC.out]; rfl) rfl)⟩
            case b19n2k58 =>
              refine hR.step_build 19 rfl 29 (.tmp 36) rfl (.int .u8 0) Try.underlying29 Try.infoByte (bv uc) rfl rfl ?_
              intro B19 w19 hR2
              replace hR := hR2
              clear hR2
              refine hK.out _ _ trivial (fun hHeld => ?_)
              clear hK K
              try simp only [Act.put, List.setIfInBounds_toArray, List.set_cons_zero, List.set_cons_succ]
              refine wpAnyH_ready (rs := [6]) (by kernel_rfl) (by simp) ?_
              refine AllReadyH.cons (o := ⟨some 24, Op.call { callee := Callee.builtin Builtin.append, args := #[Operand.tmp 18, Operand.tmp 23], argTypes := #[29, 29] }, 29, _, _, none⟩) rfl (fun K hK => ?_) AllReadyH.nil
              refine hR.step_append 0 5 rfl (.tmp 18) (.tmp 23) 29 rfl (.int .u8 0) Try.underlying29 Try.infoByte rfl _ _ j 1 _ _ _ _ rfl rfl rfl rfl (by intro u hu; simp at hu; subst hu; rfl) (by omega) ?_
              intro A6 c6 w6 hR2
              replace hR := hR2
              clear hR2
              refine hK.out _ _ trivial (fun hHeld => ?_)
              clear hK K
              try simp only [Act.put, List.setIfInBounds_toArray, List.set_cons_zero, List.set_cons_succ]
              refine wpAnyH_ready (rs := [13]) (by kernel_rfl) (by simp) ?_
              refine AllReadyH.cons (o := ⟨some 31, Op.call { callee := Callee.builtin Builtin.append, args := #[Operand.tmp 25, Operand.tmp 30], argTypes := #[29, 29] }, 29, _, _, none⟩) rfl (fun K hK => ?_) AllReadyH.nil
              refine hR.step_append 1 12 rfl (.tmp 25) (.tmp 30) 29 rfl (.int .u8 0) Try.underlying29 Try.infoByte rfl _ _ j 1 _ _ _ _ rfl rfl rfl rfl (by intro u hu; simp at hu; subst hu; rfl) (by omega) ?_
              intro A7 c7 w7 hR2
              replace hR := hR2
              clear hR2
              refine hK.out _ _ trivial (fun hHeld => ?_)
              clear hK K
              try simp only [Act.put, List.setIfInBounds_toArray, List.set_cons_zero, List.set_cons_succ]
              refine wpAnyH_ready (rs := [20]) (by kernel_rfl) (by simp) ?_
              refine AllReadyH.cons (o := ⟨some 38, Op.call { callee := Callee.builtin Builtin.append, args := #[Operand.tmp 32, Operand.tmp 37], argTypes := #[29, 29] }, 29, _, _, none⟩) rfl (fun K hK => ?_) AllReadyH.nil
              refine hR.step_append 2 19 rfl (.tmp 32) (.tmp 37) 29 rfl (.int .u8 0) Try.underlying29 Try.infoByte rfl _ _ j 1 _ _ _ _ rfl rfl rfl rfl (by intro u hu; simp at hu; subst hu; rfl) (by omega) ?_
              intro A8 c8 w8 hR2
              replace hR := hR2
              clear hR2
              refine hK.out _ _ trivial (fun hHeld => ?_)
              clear hK K
              try simp only [Act.put, List.setIfInBounds_toArray, List.set_cons_zero, List.set_cons_succ]
              refine wpAnyH_take (i := 21) (oi := ⟨some 7, Op.assign (Operand.tmp 24), 29, _, _, none⟩) (v := ?v21n2k68) rfl (by kernel_rfl) (by kernel_rfl) (by kernel_rfl) (fun _ _ _ h => h) (Or.inl ⟨by rfl, ?y21n2k68⟩) hHeld ?z21n2k68
              case y21n2k68 => intro w hSw; (try dsimp only at hSw); go_simp <;> rfl
              try simp only [Act.put, List.setIfInBounds_toArray, List.set_cons_zero, List.set_cons_succ]
              refine wpAnyH_take (i := 22) (oi := ⟨some 8, Op.assign (Operand.tmp 31), 29, _, _, none⟩) (v := ?v22n2k69) rfl (by kernel_rfl) (by kernel_rfl) (by kernel_rfl) (fun _ _ _ h => h) (Or.inl ⟨by rfl, ?y22n2k69⟩) hHeld ?z22n2k69
              case y22n2k69 => intro w hSw; (try dsimp only at hSw); go_simp <;> rfl
              try simp only [Act.put, List.setIfInBounds_toArray, List.set_cons_zero, List.set_cons_succ]
              refine wpAnyH_take (i := 23) (oi := ⟨some 9, Op.assign (Operand.tmp 38), 29, _, _, none⟩) (v := ?v23n2k70) rfl (by kernel_rfl) (by kernel_rfl) (by kernel_rfl) (fun _ _ _ h => h) (Or.inl ⟨by rfl, ?y23n2k70⟩) hHeld ?z23n2k70
              case y23n2k70 => intro w hSw; (try dsimp only at hSw); go_simp <;> rfl
              try simp only [Act.put, List.setIfInBounds_toArray, List.set_cons_zero, List.set_cons_succ]
              refine wpAnyH_done (by kernel_rfl) ?_ _
              refine NoPanic.normal ?_
              go_wp2
              go_meet
              case rel => exact ⟨A6, A7, A8, c6, c7, c8, rfl, rfl, rfl, Lib.hid (hR.four (by rw [EA.out]; rfl) (by rw [EB.out]; rfl) (by rw [EC.out]; rfl) rfl)⟩
          case b19n2k56 =>
            refine hR.step_build 19 rfl 29 (.tmp 36) rfl (.int .u8 0) Try.underlying29 Try.infoByte (bv uc) rfl rfl ?_
            intro B19 w19 hR2
            replace hR := hR2
            clear hR2
            refine hK.out _ _ trivial (fun hHeld => ?_)
            clear hK K
            try simp only [Act.put, List.setIfInBounds_toArray, List.set_cons_zero, List.set_cons_succ]
            refine wpAnyH_ready (rs := [5]) (by kernel_rfl) (by simp) ?_
            refine AllReadyH.cons (o := ⟨some 23, Op.buildSlice 29 1 #[(0, Operand.tmp 22)], 29, _, _, none⟩) rfl (fun K hK => ?_) AllReadyH.nil
            refine hR.step_build 5 rfl 29 (.tmp 22) rfl (.int .u8 0) Try.underlying29 Try.infoByte (bv ua) rfl rfl ?_
            intro B5 w5 hR2
            replace hR := hR2
            clear hR2
            refine hK.out _ _ trivial (fun hHeld => ?_)
            clear hK K
            try simp only [Act.put, List.setIfInBounds_toArray, List.set_cons_zero, List.set_cons_succ]
            refine wpAnyH_ready (rs := [6]) (by kernel_rfl) (by simp) ?_
            refine AllReadyH.cons (o := ⟨some 24, Op.call { callee := Callee.builtin Builtin.append, args := #[Operand.tmp 18, Operand.tmp 23], argTypes := #[29, 29] }, 29, _, _, none⟩) rfl (fun K hK => ?_) AllReadyH.nil
            refine hR.step_append 0 5 rfl (.tmp 18) (.tmp 23) 29 rfl (.int .u8 0) Try.underlying29 Try.infoByte rfl _ _ j 1 _ _ _ _ rfl rfl rfl rfl (by intro u hu; simp at hu; subst hu; rfl) (by omega) ?_
            intro A6 c6 w6 hR2
            replace hR := hR2
            clear hR2
            refine hK.out _ _ trivial (fun hHeld => ?_)
            clear hK K
            try simp only [Act.put, List.setIfInBounds_toArray, List.set_cons_zero, List.set_cons_succ]
            refine wpAnyH_ready (rs := [13]) (by kernel_rfl) (by simp) ?_
            refine AllReadyH.cons (o := ⟨some 31, Op.call { callee := Callee.builtin Builtin.append, args := #[Operand.tmp 25, Operand.tmp 30], argTypes := #[29, 29] }, 29, _, _, none⟩) rfl (fun K hK => ?_) AllReadyH.nil
            refine hR.step_append 1 12 rfl (.tmp 25) (.tmp 30) 29 rfl (.int .u8 0) Try.underlying29 Try.infoByte rfl _ _ j 1 _ _ _ _ rfl rfl rfl rfl (by intro u hu; simp at hu; subst hu; rfl) (by omega) ?_
            intro A7 c7 w7 hR2
            replace hR := hR2
            clear hR2
            refine hK.out _ _ trivial (fun hHeld => ?_)
            clear hK K
            try simp only [Act.put, List.setIfInBounds_toArray, List.set_cons_zero, List.set_cons_succ]
            refine wpAnyH_ready (rs := [20]) (by kernel_rfl) (by simp) ?_
            refine AllReadyH.cons (o := ⟨some 38, Op.call { callee := Callee.builtin Builtin.append, args := #[Operand.tmp 32, Operand.tmp 37], argTypes := #[29, 29] }, 29, _, _, none⟩) rfl (fun K hK => ?_) AllReadyH.nil
            refine hR.step_append 2 19 rfl (.tmp 32) (.tmp 37) 29 rfl (.int .u8 0) Try.underlying29 Try.infoByte rfl _ _ j 1 _ _ _ _ rfl rfl rfl rfl (by intro u hu; simp at hu; subst hu; rfl) (by omega) ?_
            intro A8 c8 w8 hR2
            replace hR := hR2
            clear hR2
            refine hK.out _ _ trivial (fun hHeld => ?_)
            clear hK K
            try simp only [Act.put, List.setIfInBounds_toArray, List.set_cons_zero, List.set_cons_succ]
            refine wpAnyH_take (i := 21) (oi := ⟨some 7, Op.assign (Operand.tmp 24), 29, _, _, none⟩) (v := ?v21n2k71) rfl (by kernel_rfl) (by kernel_rfl) (by kernel_rfl) (fun _ _ _ h => h) (Or.inl ⟨by rfl, ?y21n2k71⟩) hHeld ?z21n2k71
            case y21n2k71 => intro w hSw; (try dsimp only at hSw); go_simp <;> rfl
            try simp only [Act.put, List.setIfInBounds_toArray, List.set_cons_zero, List.set_cons_succ]
            refine wpAnyH_take (i := 22) (oi := ⟨some 8, Op.assign (Operand.tmp 31), 29, _, _, none⟩) (v := ?v22n2k72) rfl (by kernel_rfl) (by kernel_rfl) (by kernel_rfl) (fun _ _ _ h => h) (Or.inl ⟨by rfl, ?y22n2k72⟩) hHeld ?z22n2k72
            case y22n2k72 => intro w hSw; (try dsimp only at hSw); go_simp <;> rfl
            try simp only [Act.put, List.setIfInBounds_toArray, List.set_cons_zero, List.set_cons_succ]
            refine wpAnyH_take (i := 23) (oi := ⟨some 9, Op.assign (Operand.tmp 38), 29, _, _, none⟩) (v := ?v23n2k73) rfl (by kernel_rfl) (by kernel_rfl) (by kernel_rfl) (fun _ _ _ h => h) (Or.inl ⟨by rfl, ?y23n2k73⟩) hHeld ?z23n2k73
            case y23n2k73 => intro w hSw; (try dsimp only at hSw); go_simp <;> rfl
            try simp only [Act.put, List.setIfInBounds_toArray, List.set_cons_zero, List.set_cons_succ]
            refine wpAnyH_done (by kernel_rfl) ?_ _
            refine NoPanic.normal ?_
            go_wp2
            go_meet
            case rel => exact ⟨A6, A7, A8, c6, c7, c8, rfl, rfl, rfl, Lib.hid (hR.four (by rw [EA.out]; rfl) (by rw [EB.out]; rfl) (by rw [EC.out]; rfl) rfl)⟩
        case b19n2k16 =>
          refine hR.step_build 19 rfl 29 (.tmp 36) rfl (.int .u8 0) Try.underlying29 Try.infoByte (bv uc) rfl rfl ?_
          intro B19 w19 hR2
          replace hR := hR2
          clear hR2
          refine hK.out _ _ trivial (fun hHeld => ?_)
          clear hK K
          try simp only [Act.put, List.setIfInBounds_toArray, List.set_cons_zero, List.set_cons_succ]
          refine wpAnyH_ready (rs := [5, 12]) (by kernel_rfl) (by simp) ?_
          refine (AllReadyH.cons (o := ⟨some 23, Op.buildSlice 29 1 #[(0, Operand.tmp 22)], 29, _, _, none⟩) rfl (fun K hK => ?b5n2k75) (AllReadyH.cons (o := ⟨some 30, Op.buildSlice 29 1 #[(0, Operand.tmp 29)], 29, _, _, none⟩) rfl (fun K hK => ?b12n2k74) AllReadyH.nil))
          case b5n2k75 =>
            refine hR.step_build 5 rfl 29 (.tmp 22) rfl (.int .u8 0) Try.underlying29 Try.infoByte (bv ua) rfl rfl ?_
            intro B5 w5 hR2
            replace hR := hR2
            clear hR2
            refine hK.out _ _ trivial (fun hHeld => ?_)
            clear hK K
            try simp only [Act.put, List.setIfInBounds_toArray, List.set_cons_zero, List.set_cons_succ]
            refine wpAnyH_ready (rs := [6, 12]) (by kernel_rfl) (by simp) ?_
            refine (AllReadyH.cons (o := ⟨some 24, Op.call { callee := Callee.builtin Builtin.append, args := #[Operand.tmp 18, Operand.tmp 23], argTypes := #[29, 29] }, 29, _, _, none⟩) rfl (fun K hK => ?b6n2k77) (AllReadyH.cons (o := ⟨some 30, Op.buildSlice 29 1 #[(0, Operand.tmp 29)], 29, _, _, none⟩) rfl (fun K hK => ?b12n2k76) AllReadyH.nil))
            case b6n2k77 =>
              refine hR.step_append 0 5 rfl (.tmp 18) (.tmp 23) 29 rfl (.int .u8 0) Try.underlying29 Try.infoByte rfl _ _ j 1 _ _ _ _ rfl rfl rfl rfl (by intro u hu; simp at hu; subst hu; rfl) (by omega) ?_
              intro A6 c6 w6 hR2
              replace hR := hR2
              clear hR2
              refine hK.out _ _ trivial (fun hHeld => ?_)
              clear hK K
              try simp only [Act.put, List.setIfInBounds_toArray, List.set_cons_zero, List.set_cons_succ]
              refine wpAnyH_ready (rs := [12]) (by kernel_rfl) (by simp) ?_
              refine AllReadyH.cons (o := ⟨some 30, Op.buildSlice 29 1 #[(0, Operand.tmp 29)], 29, _, _, none⟩) rfl (fun K hK => ?_) AllReadyH.nil
              refine hR.step_build 12 rfl 29 (.tmp 29) rfl (.int .u8 0) Try.underlying29 Try.infoByte (bv ub) rfl rfl ?_
              intro B12 w12 hR2
              replace hR := hR2
              clear hR2
              refine hK.out _ _ trivial (fun hHeld => ?_)
              clear hK K
              try simp only [Act.put, List.setIfInBounds_toArray, List.set_cons_zero, List.set_cons_succ]
              refine wpAnyH_ready (rs := [13]) (by kernel_rfl) (by simp) ?_
              refine AllReadyH.cons (o := ⟨some 31, Op.call { callee := Callee.builtin Builtin.append, args := #[Operand.tmp 25, Operand.tmp 30], argTypes := #[29, 29] }, 29, _, _, none⟩) rfl (fun K hK => ?_) AllReadyH.nil
              refine hR.step_append 1 12 rfl (.tmp 25) (.tmp 30) 29 rfl (.int .u8 0) Try.underlying29 Try.infoByte rfl _ _ j 1 _ _ _ _ rfl rfl rfl rfl (by intro u hu; simp at hu; subst hu; rfl) (by omega) ?_
              intro A7 c7 w7 hR2
              replace hR := hR2
              clear hR2
              refine hK.out _ _ trivial (fun hHeld => ?_)
              clear hK K
              try simp only [Act.put, List.setIfInBounds_toArray, List.set_cons_zero, List.set_cons_succ]
              refine wpAnyH_ready (rs := [20]) (by kernel_rfl) (by simp) ?_
              refine AllReadyH.cons (o := ⟨some 38, Op.call { callee := Callee.builtin Builtin.append, args := #[Operand.tmp 32, Operand.tmp 37], argTypes := #[29, 29] }, 29, _, _, none⟩) rfl (fun K hK => ?_) AllReadyH.nil
              refine hR.step_append 2 19 rfl (.tmp 32) (.tmp 37) 29 rfl (.int .u8 0) Try.underlying29 Try.infoByte rfl _ _ j 1 _ _ _ _ rfl rfl rfl rfl (by intro u hu; simp at hu; subst hu; rfl) (by omega) ?_
              intro A8 c8 w8 hR2
              replace hR := hR2
              clear hR2
              refine hK.out _ _ trivial (fun hHeld => ?_)
              clear hK K
              try simp only [Act.put, List.setIfInBounds_toArray, List.set_cons_zero, List.set_cons_succ]
              refine wpAnyH_take (i := 21) (oi := ⟨some 7, Op.assign (Operand.tmp 24), 29, _, _, none⟩) (v := ?v21n2k78) rfl (by kernel_rfl) (by kernel_rfl) (by kernel_rfl) (fun _ _ _ h => h) (Or.inl ⟨by rfl, ?y21n2k78⟩) hHeld ?z21n2k78
              case y21n2k78 => intro w hSw; (try dsimp only at hSw); go_simp <;> rfl
              try simp only [Act.put, List.setIfInBounds_toArray, List.set_cons_zero, List.set_cons_succ]
              refine wpAnyH_take (i := 22) (oi := ⟨some 8, Op.assign (Operand.tmp 31), 29, _, _, none⟩) (v := ?v22n2k79) rfl (by kernel_rfl) (by kernel_rfl) (by kernel_rfl) (fun _ _ _ h => h) (Or.inl ⟨by rfl, ?y22n2k79⟩) hHeld ?z22n2k79
              case y22n2k79 => intro w hSw; (try dsimp only at hSw); go_simp <;> rfl
              try simp only [Act.put, List.setIfInBounds_toArray, List.set_cons_zero, List.set_cons_succ]
              refine wpAnyH_take (i := 23) (oi := ⟨some 9, Op.assign (Operand.tmp 38), 29, _, _, none⟩) (v := ?v23n2k80) rfl (by kernel_rfl) (by kernel_rfl) (by kernel_rfl) (fun _ _ _ h => h) (Or.inl ⟨by rfl, ?y23n2k80⟩) hHeld ?z23n2k80
              case y23n2k80 => intro w hSw; (try dsimp only at hSw); go_simp <;> rfl
              try simp only [Act.put, List.setIfInBounds_toArray, List.set_cons_zero, List.set_cons_succ]
              refine wpAnyH_done (by kernel_rfl) ?_ _
              refine NoPanic.normal ?_
              go_wp2
              go_meet
              case rel => exact ⟨A6, A7, A8, c6, c7, c8, rfl, rfl, rfl, Lib.hid (hR.four (by rw [EA.out]; rfl) (by rw [EB.out]; rfl) (by rw [EC.out]; rfl) rfl)⟩
            case b12n2k76 =>
              refine hR.step_build 12 rfl 29 (.tmp 29) rfl (.int .u8 0) Try.underlying29 Try.infoByte (bv ub) rfl rfl ?_
              intro B12 w12 hR2
              replace hR := hR2
              clear hR2
              refine hK.out _ _ trivial (fun hHeld => ?_)
              clear hK K
              try simp only [Act.put, List.setIfInBounds_toArray, List.set_cons_zero, List.set_cons_succ]
              refine wpAnyH_ready (rs := [6]) (by kernel_rfl) (by simp) ?_
              refine AllReadyH.cons (o := ⟨some 24, Op.call { callee := Callee.builtin Builtin.append, args := #[Operand.tmp 18, Operand.tmp 23], argTypes := #[29, 29] }, 29, _, _, none⟩) rfl (fun K hK => ?_) AllReadyH.nil
              refine hR.step_append 0 5 rfl (.tmp 18) (.tmp 23) 29 rfl (.int .u8 0) Try.underlying29 Try.infoByte rfl _ _ j 1 _ _ _ _ rfl rfl rfl rfl (by intro u hu; simp at hu; subst hu; rfl) (by omega) ?_
              intro A6 c6 w6 hR2
              replace hR := hR2
              clear hR2
              refine hK.out _ _ trivial (fun hHeld => ?_)
              clear hK K
              try simp only [Act.put, List.setIfInBounds_toArray, List.set_cons_zero, List.set_cons_succ]
              refine wpAnyH_ready (rs := [13]) (by kernel_rfl) (by simp) ?_
              refine AllReadyH.cons (o := ⟨some 31, Op.call { callee := Callee.builtin Builtin.append, args := #[Operand.tmp 25, Operand.tmp 30], argTypes := #[29, 29] }, 29, _, _, none⟩) rfl (fun K hK => ?_) AllReadyH.nil
              refine hR.step_append 1 12 rfl (.tmp 25) (.tmp 30) 29 rfl (.int .u8 0) Try.underlying29 Try.infoByte rfl _ _ j 1 _ _ _ _ rfl rfl rfl rfl (by intro u hu; simp at hu; subst hu; rfl) (by omega) ?_
              intro A7 c7 w7 hR2
              replace hR := hR2
              clear hR2
              refine hK.out _ _ trivial (fun hHeld => ?_)
              clear hK K
              try simp only [Act.put, List.setIfInBounds_toArray, List.set_cons_zero, List.set_cons_succ]
              refine wpAnyH_ready (rs := [20]) (by kernel_rfl) (by simp) ?_
              refine AllReadyH.cons (o := ⟨some 38, Op.call { callee := Callee.builtin Builtin.append, args := #[Operand.tmp 32, Operand.tmp 37], argTypes := #[29, 29] }, 29, _, _, none⟩) rfl (fun K hK => ?_) AllReadyH.nil
              refine hR.step_append 2 19 rfl (.tmp 32) (.tmp 37) 29 rfl (.int .u8 0) Try.underlying29 Try.infoByte rfl _ _ j 1 _ _ _ _ rfl rfl rfl rfl (by intro u hu; simp at hu; subst hu; rfl) (by omega) ?_
              intro A8 c8 w8 hR2
              replace hR := hR2
              clear hR2
              refine hK.out _ _ trivial (fun hHeld => ?_)
              clear hK K
              try simp only [Act.put, List.setIfInBounds_toArray, List.set_cons_zero, List.set_cons_succ]
              refine wpAnyH_take (i := 21) (oi := ⟨some 7, Op.assign (Operand.tmp 24), 29, _, _, none⟩) (v := ?v21n2k81) rfl (by kernel_rfl) (by kernel_rfl) (by kernel_rfl) (fun _ _ _ h => h) (Or.inl ⟨by rfl, ?y21n2k81⟩) hHeld ?z21n2k81
              case y21n2k81 => intro w hSw; (try dsimp only at hSw); go_simp <;> rfl
              try simp only [Act.put, List.setIfInBounds_toArray, List.set_cons_zero, List.set_cons_succ]
              refine wpAnyH_take (i := 22) (oi := ⟨some 8, Op.assign (Operand.tmp 31), 29, _, _, none⟩) (v := ?v22n2k82) rfl (by kernel_rfl) (by kernel_rfl) (by kernel_rfl) (fun _ _ _ h => h) (Or.inl ⟨by rfl, ?y22n2k82⟩) hHeld ?z22n2k82
              case y22n2k82 => intro w hSw; (try dsimp only at hSw); go_simp <;> rfl
              try simp only [Act.put, List.setIfInBounds_toArray, List.set_cons_zero, List.set_cons_succ]
              refine wpAnyH_take (i := 23) (oi := ⟨some 9, Op.assign (Operand.tmp 38), 29, _, _, none⟩) (v := ?v23n2k83) rfl (by kernel_rfl) (by kernel_rfl) (by kernel_rfl) (fun _ _ _ h => h) (Or.inl ⟨by rfl, ?y23n2k83⟩) hHeld ?z23n2k83
              case y23n2k83 => intro w hSw; (try dsimp only at hSw); go_simp <;> rfl
              try simp only [Act.put, List.setIfInBounds_toArray, List.set_cons_zero, List.set_cons_succ]
              refine wpAnyH_done (by kernel_rfl) ?_ _
              refine NoPanic.normal ?_
              go_wp2
              go_meet
              case rel => exact ⟨A6, A7, A8, c6, c7, c8, rfl, rfl, rfl, Lib.hid (hR.four (by rw [EA.out]; rfl) (by rw [EB.out]; rfl) (by rw [EC.out]; rfl) rfl)⟩
          case b12n2k74 =>
            refine hR.step_build 12 rfl 29 (.tmp 29) rfl (.int .u8 0) Try.underlying29 Try.infoByte (bv ub) rfl rfl ?_
            intro B12 w12 hR2
            replace hR := hR2
            clear hR2
            refine hK.out _ _ trivial (fun hHeld => ?_)
            clear hK K
            try simp only [Act.put, List.setIfInBounds_toArray, List.set_cons_zero, List.set_cons_succ]
            refine wpAnyH_ready (rs := [5]) (by kernel_rfl) (by simp) ?_
            refine AllReadyH.cons (o := ⟨some 23, Op.buildSlice 29 1 #[(0, Operand.tmp 22)], 29, _, _, none⟩) rfl (fun K hK => ?_) AllReadyH.nil
            refine hR.step_build 5 rfl 29 (.tmp 22) rfl (.int .u8 0) Try.underlying29 Try.infoByte (bv ua) rfl rfl ?_
            intro B5 w5 hR2
            replace hR := hR2
            clear hR2
            refine hK.out _ _ trivial (fun hHeld => ?_)
            clear hK K
            try simp only [Act.put, List.setIfInBounds_toArray, List.set_cons_zero, List.set_cons_succ]
            refine wpAnyH_ready (rs := [6]) (by kernel_rfl) (by simp) ?_
            refine AllReadyH.cons (o := ⟨some 24, Op.call { callee := Callee.builtin Builtin.append, args := #[Operand.tmp 18, Operand.tmp 23], argTypes := #[29, 29] }, 29, _, _, none⟩) rfl (fun K hK => ?_) AllReadyH.nil
            refine hR.step_append 0 5 rfl (.tmp 18) (.tmp 23) 29 rfl (.int .u8 0) Try.underlying29 Try.infoByte rfl _ _ j 1 _ _ _ _ rfl rfl rfl rfl (by intro u hu; simp at hu; subst hu; rfl) (by omega) ?_
            intro A6 c6 w6 hR2
            replace hR := hR2
            clear hR2
            refine hK.out _ _ trivial (fun hHeld => ?_)
            clear hK K
            try simp only [Act.put, List.setIfInBounds_toArray, List.set_cons_zero, List.set_cons_succ]
            refine wpAnyH_ready (rs := [13]) (by kernel_rfl) (by simp) ?_
            refine AllReadyH.cons (o := ⟨some 31, Op.call { callee := Callee.builtin Builtin.append, args := #[Operand.tmp 25, Operand.tmp 30], argTypes := #[29, 29] }, 29, _, _, none⟩) rfl (fun K hK => ?_) AllReadyH.nil
            refine hR.step_append 1 12 rfl (.tmp 25) (.tmp 30) 29 rfl (.int .u8 0) Try.underlying29 Try.infoByte rfl _ _ j 1 _ _ _ _ rfl rfl rfl rfl (by intro u hu; simp at hu; subst hu; rfl) (by omega) ?_
            intro A7 c7 w7 hR2
            replace hR := hR2
            clear hR2
            refine hK.out _ _ trivial (fun hHeld => ?_)
            clear hK K
            try simp only [Act.put, List.setIfInBounds_toArray, List.set_cons_zero, List.set_cons_succ]
            refine wpAnyH_ready (rs := [20]) (by kernel_rfl) (by simp) ?_
            refine AllReadyH.cons (o := ⟨some 38, Op.call { callee := Callee.builtin Builtin.append, args := #[Operand.tmp 32, Operand.tmp 37], argTypes := #[29, 29] }, 29, _, _, none⟩) rfl (fun K hK => ?_) AllReadyH.nil
            refine hR.step_append 2 19 rfl (.tmp 32) (.tmp 37) 29 rfl (.int .u8 0) Try.underlying29 Try.infoByte rfl _ _ j 1 _ _ _ _ rfl rfl rfl rfl (by intro u hu; simp at hu; subst hu; rfl) (by omega) ?_
            intro A8 c8 w8 hR2
            replace hR := hR2
            clear hR2
            refine hK.out _ _ trivial (fun hHeld => ?_)
            clear hK K
            try simp only [Act.put, List.setIfInBounds_toArray, List.set_cons_zero, List.set_cons_succ]
            refine wpAnyH_take (i := 21) (oi := ⟨some 7, Op.assign (Operand.tmp 24), 29, _, _, none⟩) (v := ?v21n2k84) rfl (by kernel_rfl) (by kernel_rfl) (by kernel_rfl) (fun _ _ _ h => h) (Or.inl ⟨by rfl, ?y21n2k84⟩) hHeld ?z21n2k84
            case y21n2k84 => intro w hSw; (try dsimp only at hSw); go_simp <;> rfl
            try simp only [Act.put, List.setIfInBounds_toArray, List.set_cons_zero, List.set_cons_succ]
            refine wpAnyH_take (i := 22) (oi := ⟨some 8, Op.assign (Operand.tmp 31), 29, _, _, none⟩) (v := ?v22n2k85) rfl (by kernel_rfl) (by kernel_rfl) (by kernel_rfl) (fun _ _ _ h => h) (Or.inl ⟨by rfl, ?y22n2k85⟩) hHeld ?z22n2k85
            case y22n2k85 => intro w hSw; (try dsimp only at hSw); go_simp <;> rfl
            try simp only [Act.put, List.setIfInBounds_toArray, List.set_cons_zero, List.set_cons_succ]
            refine wpAnyH_take (i := 23) (oi := ⟨some 9, Op.assign (Operand.tmp 38), 29, _, _, none⟩) (v := ?v23n2k86) rfl (by kernel_rfl) (by kernel_rfl) (by kernel_rfl) (fun _ _ _ h => h) (Or.inl ⟨by rfl, ?y23n2k86⟩) hHeld ?z23n2k86
            case y23n2k86 => intro w hSw; (try dsimp only at hSw); go_simp <;> rfl
            try simp only [Act.put, List.setIfInBounds_toArray, List.set_cons_zero, List.set_cons_succ]
            refine wpAnyH_done (by kernel_rfl) ?_ _
            refine NoPanic.normal ?_
            go_wp2
            go_meet
            case rel => exact ⟨A6, A7, A8, c6, c7, c8, rfl, rfl, rfl, Lib.hid (hR.four (by rw [EA.out]; rfl) (by rw [EB.out]; rfl) (by rw [EC.out]; rfl) rfl)⟩
      case rest =>
        obtain ⟨A', B', C', ca', cb', cc', rfl, rfl, rfl, HS⟩ := hcut
        go_wp2_with (at_builtin; refine Sep.list_append (HS.out.build 4 #[.int .u8 (uq.toNat : Int)] 1 rfl (by decide)) 3 4 rfl _ _ 29 rfl (.int .u8 0) Try.underlying29 Try.infoByte rfl _ _ j 1 _ _ _ _ rfl rfl rfl rfl ?hone ?hlen ?_)
        case hone => rfl
        case hlen => omega
        intro A9 c9 w9 hR9
        have HR9 := Lib.hid (hR9.four (A := .slice A' (j + 1) ca') (B := .slice B' (j + 1) cb') (C := .slice C' (j + 1) cc') (D := .slice A9 (j + 1) c9) rfl rfl rfl (d := (lows q (j + 1)).map bv) (by rw [ED.out]; rfl))
        clear hR9 HS
        go_wp2
        go_roundw
        case rel => exact ⟨j + 1, A', B', C', A9, ca', cb', cc', c9, by omega, by rw [H8.out]; go_num, rfl, rfl, rfl, rfl, HR9⟩
        case measure => simp [intOf]; omega
    · obtain rfl : j = 8 := by omega
      have hS := HR.out
      clear HR
      go_wp2_with fail
      refine (sum_any _ D 8 cd (lows q 8) wr (hS.lies (i := 3) rfl) (lows_length q 8) (by decide)).mono ?_
      rintro e w2 ⟨rfl, k2⟩
      replace hS := hS.keep k2
      go_wp2_with fail
      refine (sum_any _ A 8 ca (lows a 8) w2 (hS.lies (i := 0) rfl) (lows_length a 8) (by decide)).mono ?_
      rintro e w3 ⟨rfl, k3⟩
      replace hS := hS.keep k3
      go_wp2_with fail
      refine (sum_any _ B 8 cb (lows b 8) w3 (hS.lies (i := 1) rfl) (lows_length b 8) (by decide)).mono ?_
      rintro e w4 ⟨rfl, k4⟩
      replace hS := hS.keep k4
      go_wp2_with fail
      refine (sum_any _ C 8 cc (lows c 8) w4 (hS.lies (i := 2) rfl) (lows_length c 8) (by decide)).mono ?_
      rintro e w5 ⟨rfl, k5⟩
      have hk5 := (hS.keep k5).kept
      clear hS
      have l1 := crc_lt (p := 3988292384) (by decide) (lows a 8)
      have l2 := crc_lt (p := 3988292384) (by decide) (lows b 8)
      have l3 := crc_lt (p := 3988292384) (by decide) (lows c 8)
      have e3 := crc_three 3988292384 a b c 8
      rw [← HQ.out] at e3
      generalize crc 3988292384 (lows a 8) = x at *
      generalize crc 3988292384 (lows b 8) = y at *
      generalize crc 3988292384 (lows c 8) = z at *
      generalize crc 3988292384 (lows q 8) = v at *
      have y1 := u32_xor_nat x y l1 l2
      have y2 := u32_xor_nat (x ^^^ y) z (Nat.xor_lt_two_pow (n := 32) l1 l2) l3
      rw [← e3] at y2
      obtain ⟨xy, hxy⟩ : ∃ q, q = x ^^^ y := ⟨_, rfl⟩
      rw [← hxy] at y1 y2
      clear hxy e3 l1 l2 l3
      go_wp2
      go_ret
      exact ⟨rfl, k1.step hk5⟩

end Go.Proofs.Ytfegoeepjmjlcaa
