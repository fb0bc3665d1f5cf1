/-
  CheckPoly: what it does with whatever two words and row of bits. No statement is proved here.
-/
import Derived.Test.YtfegoeepjmjlcaaL2Awake
import Derived.Test.YtfegoeepjmjlcaaSep
namespace Go.Proofs.Ytfegoeepjmjlcaa
open Go.RowKit

theorem Try.infoByte : (Try.prog.info? 5).map (fun i => (i.zero, i.size, i.bytes)) = some (some (.int .u8 0), 1, 1) := by kernel_rfl

set_option maxHeartbeats 4000000 in
theorem poly_walk (a b p : Nat) (w : World) (ha : a < 18446744073709551616) (hb : b < 18446744073709551616) (hp : p < 4294967296) :
    Calls Try.prog 8 #[.int .u64 (a : Int), .int .u64 (b : Int), .int .u32 (p : Int)] w fun e w' => e = .returned (.bool true) ∧ Kept noBlock w w' := by
  obtain ⟨q, hq⟩ : ∃ q, q = a ^^^ b := ⟨_, rfl⟩
  have hx1 : bits BinOp.xor IntKind.u64 (a : Int) (b : Int) = (q : Int) := by rw [hq]; exact u64_xor_nat a b ha hb
  have HQ := Lib.hid hq
  have HP := Lib.hid hp
  clear hq ha hb hp
  go_enter Try.func8, Try.ntmps8
  go_wp2_with fail
  refine (awake_any w).mono ?_
  rintro e w1 ⟨rfl, k1⟩
  go_wp2_with fail
  refine (of_any p w1 HP.out).mono ?_
  rintro e w2 ⟨rfl, k2⟩
  go_wp2_with (first | refine wpList_alloc_row rfl 25 rfl (tabk 0 0) Try.zeroTable ?_ | refine wpList_store_new rfl 25 _ _ rfl (tab p) (tabk 0 0) rfl rfl (tab_fits _) (tab_old _) (tab_one _) ?_)
  obtain ⟨w3, hw3⟩ : ∃ w3, w3 = w2.alloc (.cells (tab p) 25) := ⟨_, rfl⟩
  have kw3 : Kept noBlock w2 w3 := by rw [hw3]; exact Kept.alloc _ _ _
  have ht : ∀ j, j < 256 → w3.cell? ⟨w2.heap.size, j, none⟩ = some (uv (stpN p 8 j)) := by rw [hw3]; exact tab_there w2 _
  rw [← hw3]
  clear hw3
  have HT := Lib.hid ht; clear ht
  go_loopw [8, 9, 10, 11, 12] (fun x y z v i wr => ∃ (j : Nat) (A B C D : Option Addr) (ca cb cc cd : Nat), j ≤ 8 ∧ i = .int .i64 (8 * j : Nat) ∧ x = .slice A j ca ∧ y = .slice B j cb ∧ z = .slice C j cc ∧ v = .slice D j cd ∧
    Hid (Sep w3 wr 5 (four (.slice A j ca) (.slice B j cb) (.slice C j cc) (.slice D j cd) ((lows a j).map bv) ((lows b j).map bv) ((lows 0 j).map bv) ((lows q j).map bv)))) (fun _ _ _ _ i _ => 64 - (intOf i).toNat)
  case atStart => exact ⟨0, none, none, none, none, 0, 0, 0, 0, by omega, rfl, rfl, rfl, rfl, rfl, Lib.hid ((((Sep.start (Kept.refl _ _)).nil 0).nil 1).nil 2 |>.nil 3)⟩
  case round =>
    obtain ⟨j, A, B, C, D, ca, cb, cc, cd, hj, rfl, rfl, rfl, rfl, rfl, HR⟩ := hrel
    by_cases hj8 : j < 8
    · obtain ⟨s8, hs8⟩ : ∃ s8, s8 = 8 * j := ⟨_, rfl⟩
      rw [← hs8]
      obtain ⟨ua, hua⟩ : ∃ u, u = lowByte a j := ⟨_, rfl⟩
      obtain ⟨ub, hub⟩ : ∃ u, u = lowByte b j := ⟨_, rfl⟩
      have huc : (0 : UInt8) = lowByte 0 j := by simp [lowByte]
      obtain ⟨uq, huq⟩ : ∃ u, u = lowByte q j := ⟨_, rfl⟩
      have wv : ∀ v : Nat, IntKind.u8.wrap ((v : Int) / 2 ^ s8) = ((lowByte v j).toNat : Int) := fun v => by
        have e1 : (v : Int) / 2 ^ s8 = ((v / 2 ^ s8 : Nat) : Int) := by simp
        rw [e1, wrap_u8, lowByte_toNat, hs8]
      have va := wv a
      have vb := wv b
      have vq := wv q
      rw [← hua] at va
      rw [← hub] at vb
      rw [← huq] at vq
      have hs64 : s8 < 64 := by omega
      have hd : decide ((s8 : Int) < 64) = true := decide_eq_true (by omega)
      have EA := Lib.hid (show (lows a (j + 1)).map bv = (lows a j).map bv ++ [bv ua] by rw [lows_succ, hua]; simp)
      have EB := Lib.hid (show (lows b (j + 1)).map bv = (lows b j).map bv ++ [bv ub] by rw [lows_succ, hub]; simp)
      have EC := Lib.hid (show (lows 0 (j + 1)).map bv = (lows 0 j).map bv ++ [bv 0] by rw [lows_succ, ← huc]; simp)
      have ED := Lib.hid (show (lows q (j + 1)).map bv = (lows q j).map bv ++ [bv uq] by rw [lows_succ, huq]; simp)
      have H8 := Lib.hid hs8
      clear hs8 hua hub huc huq wv
      go_upto_region 8 with (fail)
      go_cut [8, 9, 10] (fun x y z wc => ∃ A' B' C' ca' cb' cc', x = .slice A' (j + 1) ca' ∧ y = .slice B' (j + 1) cb' ∧ z = .slice C' (j + 1) cc' ∧
        Hid (Sep w3 wc 5 (four (.slice A' (j + 1) ca') (.slice B' (j + 1) cb') (.slice C' (j + 1) cc') (.slice D j cd) ((lows a (j + 1)).map bv) ((lows b (j + 1)).map bv) ((lows 0 (j + 1)).map bv) ((lows q j).map bv))))
      case first =>
        have hR := HR.out.drew
        clear HR
        refine wp_region_noPanic ?_
        refine wp_region_held_drew (S := fun _ => True) (by kernel_rfl) trivial (fun hHeld => ?_)
        refine wpAnyH_take (i := 0) (oi := ⟨some 21, Op.move (Operand.tmp 8), 29, _, _, none⟩) (v := ?v0n3k1) rfl (by kernel_rfl) (by kernel_rfl) (by kernel_rfl) (fun _ _ _ h => h) (Or.inl ⟨by rfl, ?y0n3k1⟩) hHeld ?z0n3k1
        case y0n3k1 => intro w hSw; (try dsimp only at hSw); go_simp <;> rfl
        try simp only [Act.put, List.setIfInBounds_toArray, List.set_cons_zero, List.set_cons_succ]
        refine wpAnyH_take (i := 1) (oi := ⟨some 22, Op.move (Operand.tmp 0), 36, _, _, none⟩) (v := ?v1n3k2) rfl (by kernel_rfl) (by kernel_rfl) (by kernel_rfl) (fun _ _ _ h => h) (Or.inl ⟨by rfl, ?y1n3k2⟩) hHeld ?z1n3k2
        case y1n3k2 => intro w hSw; (try dsimp only at hSw); go_simp <;> rfl
        try simp only [Act.put, List.setIfInBounds_toArray, List.set_cons_zero, List.set_cons_succ]
        refine wpAnyH_take (i := 2) (oi := ⟨some 23, Op.move (Operand.tmp 12), 3, _, _, none⟩) (v := ?v2n3k3) rfl (by kernel_rfl) (by kernel_rfl) (by kernel_rfl) (fun _ _ _ h => h) (Or.inl ⟨by rfl, ?y2n3k3⟩) hHeld ?z2n3k3
        case y2n3k3 => intro w hSw; (try dsimp only at hSw); go_simp <;> rfl
        try simp only [Act.put, List.setIfInBounds_toArray, List.set_cons_zero, List.set_cons_succ]
        refine wpAnyH_take (i := 3) (oi := ⟨some 24, Op.binOp BinOp.shr 36 (Operand.tmp 22) (Operand.tmp 23) 3, 36, _, _, none⟩) (v := ?v3n3k4) rfl (by kernel_rfl) (by kernel_rfl) (by kernel_rfl) (fun _ _ _ h => h) (Or.inl ⟨by rfl, ?y3n3k4⟩) hHeld ?z3n3k4
        case y3n3k4 => intro w hSw; (try dsimp only at hSw); go_simp <;> rfl
        try simp only [Act.put, List.setIfInBounds_toArray, List.set_cons_zero, List.set_cons_succ]
        refine wpAnyH_take (i := 4) (oi := ⟨some 25, Op.convert 36 5 (Operand.tmp 24), 5, _, _, none⟩) (v := ?v4n3k5) rfl (by kernel_rfl) (by kernel_rfl) (by kernel_rfl) (fun _ _ _ h => h) (Or.inl ⟨by rfl, ?y4n3k5⟩) hHeld ?z4n3k5
        case y4n3k5 => intro w hSw; (try dsimp only at hSw); go_simp <;> rfl
        try simp only [Act.put, List.setIfInBounds_toArray, List.set_cons_zero, List.set_cons_succ]
        refine wpAnyH_take (i := 7) (oi := ⟨some 28, Op.move (Operand.tmp 9), 29, _, _, none⟩) (v := ?v7n3k6) rfl (by kernel_rfl) (by kernel_rfl) (by kernel_rfl) (fun _ _ _ h => h) (Or.inl ⟨by rfl, ?y7n3k6⟩) hHeld ?z7n3k6
        case y7n3k6 => intro w hSw; (try dsimp only at hSw); go_simp <;> rfl
        try simp only [Act.put, List.setIfInBounds_toArray, List.set_cons_zero, List.set_cons_succ]
        refine wpAnyH_take (i := 8) (oi := ⟨some 29, Op.move (Operand.tmp 1), 36, _, _, none⟩) (v := ?v8n3k7) rfl (by kernel_rfl) (by kernel_rfl) (by kernel_rfl) (fun _ _ _ h => h) (Or.inl ⟨by rfl, ?y8n3k7⟩) hHeld ?z8n3k7
        case y8n3k7 => intro w hSw; (try dsimp only at hSw); go_simp <;> rfl
        try simp only [Act.put, List.setIfInBounds_toArray, List.set_cons_zero, List.set_cons_succ]
        refine wpAnyH_take (i := 9) (oi := ⟨some 30, Op.move (Operand.tmp 12), 3, _, _, none⟩) (v := ?v9n3k8) rfl (by kernel_rfl) (by kernel_rfl) (by kernel_rfl) (fun _ _ _ h => h) (Or.inl ⟨by rfl, ?y9n3k8⟩) hHeld ?z9n3k8
        case y9n3k8 => intro w hSw; (try dsimp only at hSw); go_simp <;> rfl
        try simp only [Act.put, List.setIfInBounds_toArray, List.set_cons_zero, List.set_cons_succ]
        refine wpAnyH_take (i := 10) (oi := ⟨some 31, Op.binOp BinOp.shr 36 (Operand.tmp 29) (Operand.tmp 30) 3, 36, _, _, none⟩) (v := ?v10n3k9) rfl (by kernel_rfl) (by kernel_rfl) (by kernel_rfl) (fun _ _ _ h => h) (Or.inl ⟨by rfl, ?y10n3k9⟩) hHeld ?z10n3k9
        case y10n3k9 => intro w hSw; (try dsimp only at hSw); go_simp <;> rfl
        try simp only [Act.put, List.setIfInBounds_toArray, List.set_cons_zero, List.set_cons_succ]
        refine wpAnyH_take (i := 11) (oi := ⟨some 32, Op.convert 36 5 (Operand.tmp 31), 5, _, _, none⟩) (v := ?v11n3k10) rfl (by kernel_rfl) (by kernel_rfl) (by kernel_rfl) (fun _ _ _ h => h) (Or.inl ⟨by rfl, ?y11n3k10⟩) hHeld ?z11n3k10
        case y11n3k10 => intro w hSw; (try dsimp only at hSw); go_simp <;> rfl
        try simp only [Act.put, List.setIfInBounds_toArray, List.set_cons_zero, List.set_cons_succ]
        refine wpAnyH_take (i := 14) (oi := ⟨some 35, Op.move (Operand.tmp 10), 29, _, _, none⟩) (v := ?v14n3k11) rfl (by kernel_rfl) (by kernel_rfl) (by kernel_rfl) (fun _ _ _ h => h) (Or.inl ⟨by rfl, ?y14n3k11⟩) hHeld ?z14n3k11
        case y14n3k11 => intro w hSw; (try dsimp only at hSw); go_simp <;> rfl
        try simp only [Act.put, List.setIfInBounds_toArray, List.set_cons_zero, List.set_cons_succ]
        refine wpAnyH_ready (rs := [5, 12, 15]) (by kernel_rfl) (by simp) ?_
        refine (AllReadyH.cons (o := ⟨some 26, Op.buildSlice 29 1 #[(0, Operand.tmp 25)], 29, _, _, none⟩) rfl (fun K hK => ?b5n3k14) (AllReadyH.cons (o := ⟨some 33, Op.buildSlice 29 1 #[(0, Operand.tmp 32)], 29, _, _, none⟩) rfl (fun K hK => ?b12n3k13) (AllReadyH.cons (o := ⟨some 36, Op.buildSlice 29 1 #[(0, Operand.const (Value.int IntKind.u8 0))], 29, _, _, none⟩) rfl (fun K hK => ?b15n3k12) AllReadyH.nil)))
        case b5n3k14 =>
          refine hR.step_build 5 rfl 29 (.tmp 25) rfl (.int .u8 0) Try.underlying29 Try.infoByte (bv ua) rfl rfl ?_
          intro B5 w5 hR2
          replace hR := hR2
          clear hR2
          refine hK.out _ _ trivial (fun hHeld => ?_)
          clear hK K
          try simp only [Act.put, List.setIfInBounds_toArray, List.set_cons_zero, List.set_cons_succ]
          refine wpAnyH_ready (rs := [6, 12, 15]) (by kernel_rfl) (by simp) ?_
          refine (AllReadyH.cons (o := ⟨some 27, Op.call { callee := Callee.builtin Builtin.append, args := #[Operand.tmp 21, Operand.tmp 26], argTypes := #[29, 29] }, 29, _, _, none⟩) rfl (fun K hK => ?b6n3k17) (AllReadyH.cons (o := ⟨some 33, Op.buildSlice 29 1 #[(0, Operand.tmp 32)], 29, _, _, none⟩) rfl (fun K hK => ?b12n3k16) (AllReadyH.cons (o := ⟨some 36, Op.buildSlice 29 1 #[(0, Operand.const (Value.int IntKind.u8 0))], 29, _, _, none⟩) rfl (fun K hK => ?b15n3k15) AllReadyH.nil)))
          case b6n3k17 =>
            refine hR.step_append 0 5 rfl (.tmp 21) (.tmp 26) 29 rfl (.int .u8 0) Try.underlying29 Try.infoByte rfl _ _ j 1 _ _ _ _ rfl rfl rfl rfl (by intro u hu; simp at hu; subst hu; rfl) (by omega) ?_
            intro A6 c6 w6 hR2
            replace hR := hR2
            clear hR2
            refine hK.out _ _ trivial (fun hHeld => ?_)
            clear hK K
            try simp only [Act.put, List.setIfInBounds_toArray, List.set_cons_zero, List.set_cons_succ]
            refine wpAnyH_ready (rs := [12, 15]) (by kernel_rfl) (by simp) ?_
            refine (AllReadyH.cons (o := ⟨some 33, Op.buildSlice 29 1 #[(0, Operand.tmp 32)], 29, _, _, none⟩) rfl (fun K hK => ?b12n3k19) (AllReadyH.cons (o := ⟨some 36, Op.buildSlice 29 1 #[(0, Operand.const (Value.int IntKind.u8 0))], 29, _, _, none⟩) rfl (fun K hK => ?b15n3k18) AllReadyH.nil))
            case b12n3k19 =>
              refine hR.step_build 12 rfl 29 (.tmp 32) rfl (.int .u8 0) Try.underlying29 Try.infoByte (bv ub) rfl rfl ?_
              intro B12 w12 hR2
              replace hR := hR2
              clear hR2
              refine hK.out _ _ trivial (fun hHeld => ?_)
              clear hK K
              try simp only [Act.put, List.setIfInBounds_toArray, List.set_cons_zero, List.set_cons_succ]
              refine wpAnyH_ready (rs := [13, 15]) (by kernel_rfl) (by simp) ?_
              refine (AllReadyH.cons (o := ⟨some 34, Op.call { callee := Callee.builtin Builtin.append, args := #[Operand.tmp 28, Operand.tmp 33], argTypes := #[29, 29] }, 29, _, _, none⟩) rfl (fun K hK => ?b13n3k21) (AllReadyH.cons (o := ⟨some 36, Op.buildSlice 29 1 #[(0, Operand.const (Value.int IntKind.u8 0))], 29, _, _, none⟩) rfl (fun K hK => ?b15n3k20) AllReadyH.nil))
              case b13n3k21 =>
                refine hR.step_append 1 12 rfl (.tmp 28) (.tmp 33) 29 rfl (.int .u8 0) Try.underlying29 Try.infoByte rfl _ _ j 1 _ _ _ _ rfl rfl rfl rfl (by intro u hu; simp at hu; subst hu; rfl) (by omega) ?_
                intro A7 c7 w7 hR2
                replace hR := hR2
                clear hR2
                refine hK.out _ _ trivial (fun hHeld => ?_)
                clear hK K
                try simp only [Act.put, List.setIfInBounds_toArray, List.set_cons_zero, List.set_cons_succ]
                refine wpAnyH_ready (rs := [15]) (by kernel_rfl) (by simp) ?_
                refine AllReadyH.cons (o := ⟨some 36, Op.buildSlice 29 1 #[(0, Operand.const (Value.int IntKind.u8 0))], 29, _, _, none⟩) rfl (fun K hK => ?_) AllReadyH.nil
                refine hR.step_build 15 rfl 29 (.const (.int .u8 0)) rfl (.int .u8 0) Try.underlying29 Try.infoByte (bv 0) rfl rfl ?_
                intro B15 w15 hR2
                replace hR := hR2
                clear hR2
                refine hK.out _ _ trivial (fun hHeld => ?_)
                clear hK K
                try simp only [Act.put, List.setIfInBounds_toArray, List.set_cons_zero, List.set_cons_succ]
                refine wpAnyH_ready (rs := [16]) (by kernel_rfl) (by simp) ?_
                refine AllReadyH.cons (o := ⟨some 37, Op.call { callee := Callee.builtin Builtin.append, args := #[Operand.tmp 35, Operand.tmp 36], argTypes := #[29, 29] }, 29, _, _, none⟩) rfl (fun K hK => ?_) AllReadyH.nil
                refine hR.step_append 2 15 rfl (.tmp 35) (.tmp 36) 29 rfl (.int .u8 0) Try.underlying29 Try.infoByte rfl _ _ j 1 _ _ _ _ rfl rfl rfl rfl (by intro u hu; simp at hu; subst hu; rfl) (by omega) ?_
                intro A8 c8 w8 hR2
                replace hR := hR2
                clear hR2
                refine hK.out _ _ trivial (fun hHeld => ?_)
                clear hK K
                try simp only [Act.put, List.setIfInBounds_toArray, List.set_cons_zero, List.set_cons_succ]
                refine wpAnyH_take (i := 17) (oi := ⟨some 8, Op.assign (Operand.tmp 27), 29, _, _, none⟩) (v := ?v17n3k22) rfl (by kernel_rfl) (by kernel_rfl) (by kernel_rfl) (fun _ _ _ h => h) (Or.inl ⟨by rfl, ?y17n3k22⟩) hHeld ?z17n3k22
                case y17n3k22 => intro w hSw; (try dsimp only at hSw); go_simp <;> rfl
                try simp only [Act.put, List.setIfInBounds_toArray, List.set_cons_zero, List.set_cons_succ]
                refine wpAnyH_take (i := 18) (oi := ⟨some 9, Op.assign (Operand.tmp 34), 29, _, _, none⟩) (v := ?v18n3k23) rfl (by kernel_rfl) (by kernel_rfl) (by kernel_rfl) (fun _ _ _ h => h) (Or.inl ⟨by rfl, ?y18n3k23⟩) hHeld ?z18n3k23
                case y18n3k23 => intro w hSw; (try dsimp only at hSw); go_simp <;> rfl
                try simp only [Act.put, List.setIfInBounds_toArray, List.set_cons_zero, List.set_cons_succ]
                refine wpAnyH_take (i := 19) (oi := ⟨some 10, Op.assign (Operand.tmp 37), 29, _, _, none⟩) (v := ?v19n3k24) rfl (by kernel_rfl) (by kernel_rfl) (by kernel_rfl) (fun _ _ _ h => h) (Or.inl ⟨by rfl, ?y19n3k24⟩) hHeld ?z19n3k24
                case y19n3k24 => intro w hSw; (try dsimp only at hSw); go_simp <;> rfl
                try simp only [Act.put, List.setIfInBounds_toArray, List.set_cons_zero, List.set_cons_succ]
                refine wpAnyH_done (by kernel_rfl) ?_ _
                refine NoPanic.normal ?_
                go_wp2
                go_meet
                case rel => exact ⟨A6, A7, A8, c6, c7, c8, rfl, rfl, rfl, Lib.hid (hR.four (by rw [EA.out]; rfl) (by rw [EB.out]; rfl) (by rw [EC.out]; rfl) rfl)⟩
              case b15n3k20 =>
                refine hR.step_build 15 rfl 29 (.const (.int .u8 0)) rfl (.int .u8 0) Try.underlying29 Try.infoByte (bv 0) rfl rfl ?_
                intro B15 w15 hR2
                replace hR := hR2
                clear hR2
                refine hK.out _ _ trivial (fun hHeld => ?_)
                clear hK K
                try simp only [Act.put, List.setIfInBounds_toArray, List.set_cons_zero, List.set_cons_succ]
                refine wpAnyH_ready (rs := [13]) (by kernel_rfl) (by simp) ?_
                refine AllReadyH.cons (o := ⟨some 34, Op.call { callee := Callee.builtin Builtin.append, args := #[Operand.tmp 28, Operand.tmp 33], argTypes := #[29, 29] }, 29, _, _, none⟩) rfl (fun K hK => ?_) AllReadyH.nil
                refine hR.step_append 1 12 rfl (.tmp 28) (.tmp 33) 29 rfl (.int .u8 0) Try.underlying29 Try.infoByte rfl _ _ j 1 _ _ _ _ rfl rfl rfl rfl (by intro u hu; simp at hu; subst hu; rfl) (by omega) ?_
                intro A7 c7 w7 hR2
                replace hR := hR2
                clear hR2
                refine hK.out _ _ trivial (fun hHeld => ?_)
                clear hK K
                try simp only [Act.put, List.setIfInBounds_toArray, List.set_cons_zero, List.set_cons_succ]
                refine wpAnyH_ready (rs := [16]) (by kernel_rfl) (by simp) ?_
                refine AllReadyH.cons (o := ⟨some 37, Op.call { callee := Callee.builtin Builtin.append, args := #[Operand.tmp 35, Operand.tmp 36], argTypes := #[29, 29] }, 29, _, _, none⟩) rfl (fun K hK => ?_) AllReadyH.nil
                refine hR.step_append 2 15 rfl (.tmp 35) (.tmp 36) 29 rfl (.int .u8 0) Try.underlying29 Try.infoByte rfl _ _ j 1 _ _ _ _ rfl rfl rfl rfl (by intro u hu; simp at hu; subst hu; rfl) (by omega) ?_
                intro A8 c8 w8 hR2
                replace hR := hR2
                clear hR2
                refine hK.out _ _ trivial (fun hHeld => ?_)
                clear hK K
                try simp only [Act.put, List.setIfInBounds_toArray, List.set_cons_zero, List.set_cons_succ]
                refine wpAnyH_take (i := 17) (oi := ⟨some 8, Op.assign (Operand.tmp 27), 29, _, _, none⟩) (v := ?v17n3k25) rfl (by kernel_rfl) (by kernel_rfl) (by kernel_rfl) (fun _ _ _ h => h) (Or.inl ⟨by rfl, ?y17n3k25⟩) hHeld ?z17n3k25
                case y17n3k25 => intro w hSw; (try dsimp only at hSw); go_simp <;> rfl
                try simp only [Act.put, List.setIfInBounds_toArray, List.set_cons_zero, List.set_cons_succ]
                refine wpAnyH_take (i := 18) (oi := ⟨some 9, Op.assign (Operand.tmp 34), 29, _, _, none⟩) (v := ?v18n3k26) rfl (by kernel_rfl) (by kernel_rfl) (by kernel_rfl) (fun _ _ _ h => h) (Or.inl ⟨by rfl, ?y18n3k26⟩) hHeld ?z18n3k26
                case y18n3k26 => intro w hSw; (try dsimp only at hSw); go_simp <;> rfl
                try simp only [Act.put, List.setIfInBounds_toArray, List.set_cons_zero, List.set_cons_succ]
                refine wpAnyH_take (i := 19) (oi := ⟨some 10, Op.assign (Operand.tmp 37), 29, _, _, none⟩) (v := ?v19n3k27) rfl (by kernel_rfl) (by kernel_rfl) (by kernel_rfl) (fun _ _ _ h => h) (Or.inl ⟨by rfl, ?y19n3k27⟩) hHeld ?z19n3k27
                case y19n3k27 => intro w hSw; (try dsimp only at hSw); go_simp <;> rfl
                try simp only [Act.put, List.setIfInBounds_toArray, List.set_cons_zero, List.set_cons_succ]
                refine wpAnyH_done (by kernel_rfl) ?_ _
                refine NoPanic.normal ?_
                go_wp2
                go_meet
                case rel => exact ⟨A6, A7, A8, c6, c7, c8, rfl, rfl, rfl, Lib.hid (hR.four (by rw [EA.out]; rfl) (by rw [EB.out]; rfl) (by rw [EC.out]; rfl) rfl)⟩
            case b15n3k18 =>
              refine hR.step_build 15 rfl 29 (.const (.int .u8 0)) rfl (.int .u8 0) Try.underlying29 Try.infoByte (bv 0) rfl rfl ?_
              intro B15 w15 hR2
              replace hR := hR2
              clear hR2
              refine hK.out _ _ trivial (fun hHeld => ?_)
              clear hK K
              try simp only [Act.put, List.setIfInBounds_toArray, List.set_cons_zero, List.set_cons_succ]
              refine wpAnyH_ready (rs := [12]) (by kernel_rfl) (by simp) ?_
              refine AllReadyH.cons (o := ⟨some 33, Op.buildSlice 29 1 #[(0, Operand.tmp 32)], 29, _, _, none⟩) rfl (fun K hK => ?_) AllReadyH.nil
              refine hR.step_build 12 rfl 29 (.tmp 32) rfl (.int .u8 0) Try.underlying29 Try.infoByte (bv ub) rfl rfl ?_
              intro B12 w12 hR2
              replace hR := hR2
              clear hR2
              refine hK.out _ _ trivial (fun hHeld => ?_)
              clear hK K
              try simp only [Act.put, List.setIfInBounds_toArray, List.set_cons_zero, List.set_cons_succ]
              refine wpAnyH_ready (rs := [13]) (by kernel_rfl) (by simp) ?_
              refine AllReadyH.cons (o := ⟨some 34, Op.call { callee := Callee.builtin Builtin.append, args := #[Operand.tmp 28, Operand.tmp 33], argTypes := #[29, 29] }, 29, _, _, none⟩) rfl (fun K hK => ?_) AllReadyH.nil
              refine hR.step_append 1 12 rfl (.tmp 28) (.tmp 33) 29 rfl (.int .u8 0) Try.underlying29 Try.infoByte rfl _ _ j 1 _ _ _ _ rfl rfl rfl rfl (by intro u hu; simp at hu; subst hu; rfl) (by omega) ?_
              intro A7 c7 w7 hR2
              replace hR := hR2
              clear hR2
              refine hK.out _ _ trivial (fun hHeld => ?_)
              clear hK K
              try simp only [Act.put, List.setIfInBounds_toArray, List.set_cons_zero, List.set_cons_succ]
              refine wpAnyH_ready (rs := [16]) (by kernel_rfl) (by simp) ?_
              refine AllReadyH.cons (o := ⟨some 37, Op.call { callee := Callee.builtin Builtin.append, args := #[Operand.tmp 35, Operand.tmp 36], argTypes := #[29, 29] }, 29, _, _, none⟩) rfl (fun K hK => ?_) AllReadyH.nil
              refine hR.step_append 2 15 rfl (.tmp 35) (.tmp 36) 29 rfl (.int .u8 0) Try.underlying29 Try.infoByte rfl _ _ j 1 _ _ _ _ rfl rfl rfl rfl (by intro u hu; simp at hu; subst hu; rfl) (by omega) ?_
              intro A8 c8 w8 hR2
              replace hR := hR2
              clear hR2
              refine hK.out _ _ trivial (fun hHeld => ?_)
              clear hK K
              try simp only [Act.put, List.setIfInBounds_toArray, List.set_cons_zero, List.set_cons_succ]
              refine wpAnyH_take (i := 17) (oi := ⟨some 8, Op.assign (Operand.tmp 27), 29, _, _, none⟩) (v := ?v17n3k28) rfl (by kernel_rfl) (by kernel_rfl) (by kernel_rfl) (fun _ _ _ h => h) (Or.inl ⟨by rfl, ?y17n3k28⟩) hHeld ?z17n3k28
              case y17n3k28 => intro w hSw; (try dsimp only at hSw); go_simp <;> rfl
              try simp only [Act.put, List.setIfInBounds_toArray, List.set_cons_zero, List.set_cons_succ]
              refine wpAnyH_take (i := 18) (oi := ⟨some 9, Op.assign (Operand.tmp 34), 29, _, _, none⟩) (v := ?v18n3k29) rfl (by kernel_rfl) (by kernel_rfl) (by kernel_rfl) (fun _ _ _ h => h) (Or.inl ⟨by rfl, ?y18n3k29⟩) hHeld ?z18n3k29
              case y18n3k29 => intro w hSw; (try dsimp only at hSw); go_simp <;> rfl
              try simp only [Act.put, List.setIfInBounds_toArray, List.set_cons_zero, List.set_cons_succ]
              refine wpAnyH_take (i := 19) (oi := ⟨some 10, Op.assign (Operand.tmp 37), 29, _, _, none⟩) (v := ?v19n3k30) rfl (by kernel_rfl) (by kernel_rfl) (by kernel_rfl) (fun _ _ _ h => h) (Or.inl ⟨by rfl, ?y19n3k30⟩) hHeld ?z19n3k30
              case y19n3k30 => intro w hSw; (try dsimp only at hSw); go_simp <;> rfl
              try simp only [Act.put, List.setIfInBounds_toArray, List.set_cons_zero, List.set_cons_succ]
              refine wpAnyH_done (by kernel_rfl) ?_ _
              refine NoPanic.normal ?_
              go_wp2
              go_meet
              case rel => exact ⟨A6, A7, A8, c6, c7, c8, rfl, rfl, rfl, Lib.hid (hR.four (by rw [EA.out]; rfl) (by rw [EB.out]; rfl) (by rw [EC.out]; rfl) rfl)⟩
          case b12n3k16 =>
            refine hR.step_build 12 rfl 29 (.tmp 32) rfl (.int .u8 0) Try.underlying29 Try.infoByte (bv ub) rfl rfl ?_
            intro B12 w12 hR2
            replace hR := hR2
            clear hR2
            refine hK.out _ _ trivial (fun hHeld => ?_)
            clear hK K
            try simp only [Act.put, List.setIfInBounds_toArray, List.set_cons_zero, List.set_cons_succ]
            refine wpAnyH_ready (rs := [6, 15]) (by kernel_rfl) (by simp) ?_
            refine (AllReadyH.cons (o := ⟨some 27, Op.call { callee := Callee.builtin Builtin.append, args := #[Operand.tmp 21, Operand.tmp 26], argTypes := #[29, 29] }, 29, _, _, none⟩) rfl (fun K hK => ?b6n3k32) (AllReadyH.cons (o := ⟨some 36, Op.buildSlice 29 1 #[(0, Operand.const (Value.int IntKind.u8 0))], 29, _, _, none⟩) rfl (fun K hK => ?b15n3k31) AllReadyH.nil))
            case b6n3k32 =>
              refine hR.step_append 0 5 rfl (.tmp 21) (.tmp 26) 29 rfl (.int .u8 0) Try.underlying29 Try.infoByte rfl _ _ j 1 _ _ _ _ rfl rfl rfl rfl (by intro u hu; simp at hu; subst hu; rfl) (by omega) ?_
              intro A6 c6 w6 hR2
              replace hR := hR2
              clear hR2
              refine hK.out _ _ trivial (fun hHeld => ?_)
              clear hK K
              try simp only [Act.put, List.setIfInBounds_toArray, List.set_cons_zero, List.set_cons_succ]
              refine wpAnyH_ready (rs := [13, 15]) (by kernel_rfl) (by simp) ?_
              refine (AllReadyH.cons (o := ⟨some 34, Op.call { callee := Callee.builtin Builtin.append, args := #[Operand.tmp 28, Operand.tmp 33], argTypes := #[29, 29] }, 29, _, _, none⟩) rfl (fun K hK => ?b13n3k34) (AllReadyH.cons (o := ⟨some 36, Op.buildSlice 29 1 #[(0, Operand.const (Value.int IntKind.u8 0))], 29, _, _, none⟩) rfl (fun K hK => ?b15n3k33) AllReadyH.nil))
              case b13n3k34 =>
                refine hR.step_append 1 12 rfl (.tmp 28) (.tmp 33) 29 rfl (.int .u8 0) Try.underlying29 Try.infoByte rfl _ _ j 1 _ _ _ _ rfl rfl rfl rfl (by intro u hu; simp at hu; subst hu; rfl) (by omega) ?_
                intro A7 c7 w7 hR2
                replace hR := hR2
                clear hR2
                refine hK.out _ _ trivial (fun hHeld => ?_)
                clear hK K
                try simp only [Act.put, List.setIfInBounds_toArray, List.set_cons_zero, List.set_cons_succ]
                refine wpAnyH_ready (rs := [15]) (by kernel_rfl) (by simp) ?_
                refine AllReadyH.cons (o := ⟨some 36, Op.buildSlice 29 1 #[(0, Operand.const (Value.int IntKind.u8 0))], 29, _, _, none⟩) rfl (fun K hK => ?_) AllReadyH.nil
                refine hR.step_build 15 rfl 29 (.const (.int .u8 0)) rfl (.int .u8 0) Try.underlying29 Try.infoByte (bv 0) rfl rfl ?_
                intro B15 w15 hR2
                replace hR := hR2
                clear hR2
                refine hK.out _ _ trivial (fun hHeld => ?_)
                clear hK K
                try simp only [Act.put, List.setIfInBounds_toArray, List.set_cons_zero, List.set_cons_succ]
                refine wpAnyH_ready (rs := [16]) (by kernel_rfl) (by simp) ?_
                refine AllReadyH.cons (o := ⟨some 37, Op.call { callee := Callee.builtin Builtin.append, args := #[Operand.tmp 35, Operand.tmp 36], argTypes := #[29, 29] }, 29, _, _, none⟩) rfl (fun K hK => ?_) AllReadyH.nil
                refine hR.step_append 2 15 rfl (.tmp 35) (.tmp 36) 29 rfl (.int .u8 0) Try.underlying29 Try.infoByte rfl _ _ j 1 _ _ _ _ rfl rfl rfl rfl (by intro u hu; simp at hu; subst hu; rfl) (by omega) ?_
                intro A8 c8 w8 hR2
                replace hR := hR2
                clear hR2
                refine hK.out _ _ trivial (fun hHeld => ?_)
                clear hK K
                try simp only [Act.put, List.setIfInBounds_toArray, List.set_cons_zero, List.set_cons_succ]
                refine wpAnyH_take (i := 17) (oi := ⟨some 8, Op.assign (Operand.tmp 27), 29, _, _, none⟩) (v := ?v17n3k35) rfl (by kernel_rfl) (by kernel_rfl) (by kernel_rfl) (fun _ _ _ h => h) (Or.inl ⟨by rfl, ?y17n3k35⟩) hHeld ?z17n3k35
                case y17n3k35 => intro w hSw; (try dsimp only at hSw); go_simp <;> rfl
                try simp only [Act.put, List.setIfInBounds_toArray, List.set_cons_zero, List.set_cons_succ]
                refine wpAnyH_take (i := 18) (oi := ⟨some 9, Op.assign (Operand.tmp 34), 29, _, _, none⟩) (v := ?v18n3k36) rfl (by kernel_rfl) (by kernel_rfl) (by kernel_rfl) (fun _ _ _ h => h) (Or.inl ⟨by rfl, ?y18n3k36⟩) hHeld ?z18n3k36
                case y18n3k36 => intro w hSw; (try dsimp only at hSw); go_simp <;> rfl
                try simp only [Act.put, List.setIfInBounds_toArray, List.set_cons_zero, List.set_cons_succ]
                refine wpAnyH_take (i := 19) (oi := ⟨some 10, Op.assign (Operand.tmp 37), 29, _, _, none⟩) (v := ?v19n3k37) rfl (by kernel_rfl) (by kernel_rfl) (by kernel_rfl) (fun _ _ _ h => h) (Or.inl ⟨by rfl, ?y19n3k37⟩) hHeld ?z19n3k37
                case y19n3k37 => intro w hSw; (try dsimp only at hSw); go_simp <;> rfl
                try simp only [Act.put, List.setIfInBounds_toArray, List.set_cons_zero, List.set_cons_succ]
                refine wpAnyH_done (by kernel_rfl) ?_ _
                refine NoPanic.normal ?_
                go_wp2
                go_meet
                case rel => exact ⟨A6, A7, A8, c6, c7, c8, rfl, rfl, rfl, Lib.hid (hR.four (by rw [EA.out]; rfl) (by rw [EB.out]; rfl) (by rw [EC.out]; rfl) rfl)⟩
              case b15n3k33 =>
                refine hR.step_build 15 rfl 29 (.const (.int .u8 0)) rfl (.int .u8 0) Try.underlying29 Try.infoByte (bv 0) rfl rfl ?_
                intro B15 w15 hR2
                replace hR := hR2
                clear hR2
                refine hK.out _ _ trivial (fun hHeld => ?_)
                clear hK K
                try simp only [Act.put, List.setIfInBounds_toArray, List.set_cons_zero, List.set_cons_succ]
                refine wpAnyH_ready (rs := [13]) (by kernel_rfl) (by simp) ?_
                refine AllReadyH.cons (o := ⟨some 34, Op.call { callee := Callee.builtin Builtin.append, args := #[Operand.tmp 28, Operand.tmp 33], argTypes := #[29, 29] }, 29, _, _, none⟩) rfl (fun K hK => ?_) AllReadyH.nil
                refine hR.step_append 1 12 rfl (.tmp 28) (.tmp 33) 29 rfl (.int .u8 0) Try.underlying29 Try.infoByte rfl _ _ j 1 _ _ _ _ rfl rfl rfl rfl (by intro u hu; simp at hu; subst hu; rfl) (by omega) ?_
                intro A7 c7 w7 hR2
                replace hR := hR2
                clear hR2
                refine hK.out _ _ trivial (fun hHeld => ?_)
                clear hK K
                try simp only [Act.put, List.setIfInBounds_toArray, List.set_cons_zero, List.set_cons_succ]
                refine wpAnyH_ready (rs := [16]) (by kernel_rfl) (by simp) ?_
                refine AllReadyH.cons (o := ⟨some 37, Op.call { callee := Callee.builtin Builtin.append, args := #[Operand.tmp 35, Operand.tmp 36], argTypes := #[29, 29] }, 29, _, _, none⟩) rfl (fun K hK => ?_) AllReadyH.nil
                refine hR.step_append 2 15 rfl (.tmp 35) (.tmp 36) 29 rfl (.int .u8 0) Try.underlying29 Try.infoByte rfl _ _ j 1 _ _ _ _ rfl rfl rfl rfl (by intro u hu; simp at hu; subst hu; rfl) (by omega) ?_
                intro A8 c8 w8 hR2
                replace hR := hR2
                clear hR2
                refine hK.out _ _ trivial (fun hHeld => ?_)
                clear hK K
                try simp only [Act.put, List.setIfInBounds_toArray, List.set_cons_zero, List.set_cons_succ]
                refine wpAnyH_take (i := 17) (oi := ⟨some 8, Op.assign (Operand.tmp 27), 29, _, _, none⟩) (v := ?v17n3k38) rfl (by kernel_rfl) (by kernel_rfl) (by kernel_rfl) (fun _ _ _ h => h) (Or.inl ⟨by rfl, ?y17n3k38⟩) hHeld ?z17n3k38
                case y17n3k38 => intro w hSw; (try dsimp only at hSw); go_simp <;> rfl
                try simp only [Act.put, List.setIfInBounds_toArray, List.set_cons_zero, List.set_cons_succ]
                refine wpAnyH_take (i := 18) (oi := ⟨some 9, Op.assign (Operand.tmp 34), 29, _, _, none⟩) (v := ?v18n3k39) rfl (by kernel_rfl) (by kernel_rfl) (by kernel_rfl) (fun _ _ _ h => h) (Or.inl ⟨by rfl, ?y18n3k39⟩) hHeld ?z18n3k39
                case y18n3k39 => intro w hSw; (try dsimp only at hSw); go_simp <;> rfl
                try simp only [Act.put, List.setIfInBounds_toArray, List.set_cons_zero, List.set_cons_succ]
                refine wpAnyH_take (i := 19) (oi := ⟨some 10, Op.assign (Operand.tmp 37), 29, _, _, none⟩) (v := ?v19n3k40) rfl (by kernel_rfl) (by kernel_rfl) (by kernel_rfl) (fun _ _ _ h => h) (Or.inl ⟨by rfl, ?y19n3k40⟩) hHeld ?z19n3k40
                case y19n3k40 => intro w hSw; (try dsimp only at hSw); go_simp <;> rfl
                try simp only [Act.put, List.setIfInBounds_toArray, List.set_cons_zero, List.set_cons_succ]
                refine wpAnyH_done (by kernel_rfl) ?_ _
                refine NoPanic.normal ?_
                go_wp2
                go_meet
                case rel => exact ⟨A6, A7, A8, c6, c7, c8, rfl, rfl, rfl, Lib.hid (hR.four (by rw [EA.out]; rfl) (by rw [EB.out]; rfl) (by rw [EC.out]; rfl) rfl)⟩
            case b15n3k31 =>
              refine hR.step_build 15 rfl 29 (.const (.int .u8 0)) rfl (.int .u8 0) Try.underlying29 Try.infoByte (bv 0) rfl rfl ?_
              intro B15 w15 hR2
              replace hR := hR2
              clear hR2
              refine hK.out _ _ trivial (fun hHeld => ?_)
              clear hK K
              try simp only [Act.put, List.setIfInBounds_toArray, List.set_cons_zero, List.set_cons_succ]
              refine wpAnyH_ready (rs := [6]) (by kernel_rfl) (by simp) ?_
              refine AllReadyH.cons (o := ⟨some 27, Op.call { callee := Callee.builtin Builtin.append, args := #[Operand.tmp 21, Operand.tmp 26], argTypes := #[29, 29] }, 29, _, _, none⟩) rfl (fun K hK => ?_) AllReadyH.nil
              refine hR.step_append 0 5 rfl (.tmp 21) (.tmp 26) 29 rfl (.int .u8 0) Try.underlying29 Try.infoByte rfl _ _ j 1 _ _ _ _ rfl rfl rfl rfl (by intro u hu; simp at hu; subst hu; rfl) (by omega) ?_
              intro A6 c6 w6 hR2
              replace hR := hR2
              clear hR2
              refine hK.out _ _ trivial (fun hHeld => ?_)
              clear hK K
              try simp only [Act.put, List.setIfInBounds_toArray, List.set_cons_zero, List.set_cons_succ]
              refine wpAnyH_ready (rs := [13]) (by kernel_rfl) (by simp) ?_
              refine AllReadyH.cons (o := ⟨some 34, Op.call { callee := Callee.builtin Builtin.append, args := #[Operand.tmp 28, Operand.tmp 33], argTypes := #[29, 29] }, 29, _, _, none⟩) rfl (fun K hK => ?_) AllReadyH.nil
              refine hR.step_append 1 12 rfl (.tmp 28) (.tmp 33) 29 rfl (.int .u8 0) Try.underlying29 Try.infoByte rfl _ _ j 1 _ _ _ _ rfl rfl rfl rfl (by intro u hu; simp at hu; subst hu; rfl) (by omega) ?_
              intro A7 c7 w7 hR2
              replace hR := hR2
              clear hR2
              refine hK.out _ _ trivial (fun hHeld => ?_)
              clear hK K
              try simp only [Act.put, List.setIfInBounds_toArray, List.set_cons_zero, List.set_cons_succ]
              refine wpAnyH_ready (rs := [16]) (by kernel_rfl) (by simp) ?_
              refine AllReadyH.cons (o := ⟨some 37, Op.call { callee := Callee.builtin Builtin.append, args := #[Operand.tmp 35, Operand.tmp 36], argTypes := #[29, 29] }, 29, _, _, none⟩) rfl (fun K hK => ?_) AllReadyH.nil
              refine hR.step_append 2 15 rfl (.tmp 35) (.tmp 36) 29 rfl (.int .u8 0) Try.underlying29 Try.infoByte rfl _ _ j 1 _ _ _ _ rfl rfl rfl rfl (by intro u hu; simp at hu; subst hu; rfl) (by omega) ?_
              intro A8 c8 w8 hR2
              replace hR := hR2
              clear hR2
              refine hK.out _ _ trivial (fun hHeld => ?_)
              clear hK K
              try simp only [Act.put, List.setIfInBounds_toArray, List.set_cons_zero, List.set_cons_succ]
              refine wpAnyH_take (i := 17) (oi := ⟨some 8, Op.assign (Operand.tmp 27), 29, _, _, none⟩) (v := ?v17n3k41) rfl (by kernel_rfl) (by kernel_rfl) (by kernel_rfl) (fun _ _ _ h => h) (Or.inl ⟨by rfl, ?y17n3k41⟩) hHeld ?z17n3k41
              case y17n3k41 => intro w hSw; (try dsimp only at hSw); go_simp <;> rfl
              try simp only [Act.put, List.setIfInBounds_toArray, List.set_cons_zero, List.set_cons_succ]
              refine wpAnyH_take (i := 18) (oi := ⟨some 9, Op.assign (Operand.tmp 34), 29, _, _, none⟩) (v := ?v18n3k42) rfl (by kernel_rfl) (by kernel_rfl) (by kernel_rfl) (fun _ _ _ h => h) (Or.inl ⟨by rfl, ?y18n3k42⟩) hHeld ?z18n3k42
              case y18n3k42 => intro w hSw; (try dsimp only at hSw); go_simp <;> rfl
              try simp only [Act.put, List.setIfInBounds_toArray, List.set_cons_zero, List.set_cons_succ]
              refine wpAnyH_take (i := 19) (oi := ⟨some 10, Op.assign (Operand.tmp 37), 29, _, _, none⟩) (v := ?v19n3k43) rfl (by kernel_rfl) (by kernel_rfl) (by kernel_rfl) (fun _ _ _ h => h) (Or.inl ⟨by rfl, ?y19n3k43⟩) hHeld ?z19n3k43
              case y19n3k43 => intro w hSw; (try dsimp only at hSw); go_simp <;> rfl
              try simp only [Act.put, List.setIfInBounds_toArray, List.set_cons_zero, List.set_cons_succ]
              refine wpAnyH_done (by kernel_rfl) ?_ _
              refine NoPanic.normal ?_
              go_wp2
              go_meet
              case rel => exact ⟨A6, A7, A8, c6, c7, c8, rfl, rfl, rfl, Lib.hid (hR.four (by rw [EA.out]; rfl) (by rw [EB.out]; rfl) (by rw [EC.out]; rfl) rfl)⟩
          case b15n3k15 =>
            refine hR.step_build 15 rfl 29 (.const (.int .u8 0)) rfl (.int .u8 0) Try.underlying29 Try.infoByte (bv 0) rfl rfl ?_
            intro B15 w15 hR2
            replace hR := hR2
            clear hR2
            refine hK.out _ _ trivial (fun hHeld => ?_)
            clear hK K
            try simp only [Act.put, List.setIfInBounds_toArray, List.set_cons_zero, List.set_cons_succ]
            refine wpAnyH_ready (rs := [6, 12]) (by kernel_rfl) (by simp) ?_
            refine (AllReadyH.cons (o := ⟨some 27, Op.call { callee := Callee.builtin Builtin.append, args := #[Operand.tmp 21, Operand.tmp 26], argTypes := #[29, 29] }, 29, _, _, none⟩) rfl (fun K hK => ?b6n3k45) (AllReadyH.cons (o := ⟨some 33, Op.buildSlice 29 1 #[(0, Operand.tmp 32)], 29, _, _, none⟩) rfl (fun K hK => ?b12n3k44) AllReadyH.nil))
            case b6n3k45 =>
              refine hR.step_append 0 5 rfl (.tmp 21) (.tmp 26) 29 rfl (.int .u8 0) Try.underlying29 Try.infoByte rfl _ _ j 1 _ _ _ _ rfl rfl rfl rfl (by intro u hu; simp at hu; subst hu; rfl) (by omega) ?_
              intro A6 c6 w6 hR2
              replace hR := hR2
              clear hR2
              refine hK.out _ _ trivial (fun hHeld => ?_)
              clear hK K
              try simp only [Act.put, List.setIfInBounds_toArray, List.set_cons_zero, List.set_cons_succ]
              refine wpAnyH_ready (rs := [12]) (by kernel_rfl) (by simp) ?_
              refine AllReadyH.cons (o := ⟨some 33, Op.buildSlice 29 1 #[(0, Operand.tmp 32)], 29, _, _, none⟩) rfl (fun K hK => ?_) AllReadyH.nil
              refine hR.step_build 12 rfl 29 (.tmp 32) rfl (.int .u8 0) Try.underlying29 Try.infoByte (bv ub) rfl rfl ?_
              intro B12 w12 hR2
              replace hR := hR2
              clear hR2
              refine hK.out _ _ trivial (fun hHeld => ?_)
              clear hK K
              try simp only [Act.put, List.setIfInBounds_toArray, List.set_cons_zero, List.set_cons_succ]
              refine wpAnyH_ready (rs := [13]) (by kernel_rfl) (by simp) ?_
              refine AllReadyH.cons (o := ⟨some 34, Op.call { callee := Callee.builtin Builtin.append, args := #[Operand.tmp 28, Operand.tmp 33], argTypes := #[29, 29] }, 29, _, _, none⟩) rfl (fun K hK => ?_) AllReadyH.nil
              refine hR.step_append 1 12 rfl (.tmp 28) (.tmp 33) 29 rfl (.int .u8 0) Try.underlying29 Try.infoByte rfl _ _ j 1 _ _ _ _ rfl rfl rfl rfl (by intro u hu; simp at hu; subst hu; rfl) (by omega) ?_
              intro A7 c7 w7 hR2
              replace hR := hR2
              clear hR2
              refine hK.out _ _ trivial (fun hHeld => ?_)
              clear hK K
              try simp only [Act.put, List.setIfInBounds_toArray, List.set_cons_zero, List.set_cons_succ]
              refine wpAnyH_ready (rs := [16]) (by kernel_rfl) (by simp) ?_
              refine AllReadyH.cons (o := ⟨some 37, Op.call { callee := Callee.builtin Builtin.append, args := #[Operand.tmp 35, Operand.tmp 36], argTypes := #[29, 29] }, 29, _, _, none⟩) rfl (fun K hK => ?_) AllReadyH.nil
              refine hR.step_append 2 15 rfl (.tmp 35) (.tmp 36) 29 rfl (.int .u8 0) Try.underlying29 Try.infoByte rfl _ _ j 1 _ _ _ _ rfl rfl rfl rfl (by intro u hu; simp at hu; subst hu; rfl) (by omega) ?_
              intro A8 c8 w8 hR2
              replace hR := hR2
              clear hR2
              refine hK.out _ _ trivial (fun hHeld => ?_)
              clear hK K
              try simp only [Act.put, List.setIfInBounds_toArray, List.set_cons_zero, List.set_cons_succ]
              refine wpAnyH_take (i := 17) (oi := ⟨some 8, Op.assign (Operand.tmp 27), 29, _, _, none⟩) (v := ?v17n3k46) rfl (by kernel_rfl) (by kernel_rfl) (by kernel_rfl) (fun _ _ _ h => h) (Or.inl ⟨by rfl, ?y17n3k46⟩) hHeld ?z17n3k46
              case y17n3k46 => intro w hSw; (try dsimp only at hSw); go_simp <;> rfl
              try simp only [Act.put, List.setIfInBounds_toArray, List.set_cons_zero, List.set_cons_succ]
              refine wpAnyH_take (i := 18) (oi := ⟨some 9, Op.assign (Operand.tmp 34), 29, _, _, none⟩) (v := ?v18n3k47) rfl (by kernel_rfl) (by kernel_rfl) (by kernel_rfl) (fun _ _ _ h => h) (Or.inl ⟨by rfl, ?y18n3k47⟩) hHeld ?z18n3k47
              case y18n3k47 => intro w hSw; (try dsimp only at hSw); go_simp <;> rfl
              try simp only [Act.put, List.setIfInBounds_toArray, List.set_cons_zero, List.set_cons_succ]
              refine wpAnyH_take (i := 19) (oi := ⟨some 10, Op.assign (Operand.tmp 37), 29, _, _, none⟩) (v := ?v19n3k48) rfl (by kernel_rfl) (by kernel_rfl) (by kernel_rfl) (fun _ _ _ h => h) (Or.inl ⟨by rfl, ?y19n3k48⟩) hHeld ?z19n3k48
              case y19n3k48 => intro w hSw; (try dsimp only at hSw); go_simp <;> rfl
              try simp only [Act.put, List.setIfInBounds_toArray, List.set_cons_zero, List.set_cons_succ]
              refine wpAnyH_done (by kernel_rfl) ?_ _
              refine NoPanic.normal ?_
              go_wp2
              go_meet
              case rel => exact ⟨A6, A7, A8, c6, c7, c8, rfl, rfl, rfl, Lib.hid (hR.four (by rw [EA.out]; rfl) (by rw [EB.out]; rfl) (by rw [EC.out]; rfl) rfl)⟩
            case b12n3k44 =>
              refine hR.step_build 12 rfl 29 (.tmp 32) rfl (.int .u8 0) Try.underlying29 Try.infoByte (bv ub) rfl rfl ?_
              intro B12 w12 hR2
              replace hR := hR2
              clear hR2
              refine hK.out _ _ trivial (fun hHeld => ?_)
              clear hK K
              try simp only [Act.put, List.setIfInBounds_toArray, List.set_cons_zero, List.set_cons_succ]
              refine wpAnyH_ready (rs := [6]) (by kernel_rfl) (by simp) ?_
              refine AllReadyH.cons (o := ⟨some 27, Op.call { callee := Callee.builtin Builtin.append, args := #[Operand.tmp 21, Operand.tmp 26], argTypes := #[29, 29] }, 29, _, _, none⟩) rfl (fun K hK => ?_) AllReadyH.nil
              refine hR.step_append 0 5 rfl (.tmp 21) (.tmp 26) 29 rfl (.int .u8 0) Try.underlying29 Try.infoByte rfl _ _ j 1 _ _ _ _ rfl rfl rfl rfl (by intro u hu; simp at hu; subst hu; rfl) (by omega) ?_
              intro A6 c6 w6 hR2
              replace hR := hR2
              clear hR2
              refine hK.out _ _ trivial (fun hHeld => ?_)
              clear hK K
              try simp only [Act.put, List.setIfInBounds_toArray, List.set_cons_zero, List.set_cons_succ]
              refine wpAnyH_ready (rs := [13]) (by kernel_rfl) (by simp) ?_
              refine AllReadyH.cons (o := ⟨some 34, Op.call { callee := Callee.builtin Builtin.append, args := #[Operand.tmp 28, Operand.tmp 33], argTypes := #[29, 29] }, 29, _, _, none⟩) rfl (fun K hK => ?_) AllReadyH.nil
              refine hR.step_append 1 12 rfl (.tmp 28) (.tmp 33) 29 rfl (.int .u8 0) Try.underlying29 Try.infoByte rfl _ _ j 1 _ _ _ _ rfl rfl rfl rfl (by intro u hu; simp at hu; subst hu; rfl) (by omega) ?_
              intro A7 c7 w7 hR2
              replace hR := hR2
              clear hR2
              refine hK.out _ _ trivial (fun hHeld => ?_)
              clear hK K
              try simp only [Act.put, List.setIfInBounds_toArray, List.set_cons_zero, List.set_cons_succ]
              refine wpAnyH_ready (rs := [16]) (by kernel_rfl) (by simp) ?_
              refine AllReadyH.cons (o := ⟨some 37, Op.call { callee := Callee.builtin Builtin.append, args := #[Operand.tmp 35, Operand.tmp 36], argTypes := #[29, 29] }, 29, _, _, none⟩) rfl (fun K hK => ?_) AllReadyH.nil
              refine hR.step_append 2 15 rfl (.tmp 35) (.tmp 36) 29 rfl (.int .u8 0) Try.underlying29 Try.infoByte rfl _ _ j 1 _ _ _ _ rfl rfl rfl rfl (by intro u hu; simp at hu; subst hu; rfl) (by omega) ?_
              intro A8 c8 w8 hR2
              replace hR := hR2
              clear hR2
              refine hK.out _ _ trivial (fun hHeld => ?_)
              clear hK K
              try simp only [Act.put, List.setIfInBounds_toArray, List.set_cons_zero, List.set_cons_succ]
              refine wpAnyH_take (i := 17) (oi := ⟨some 8, Op.assign (Operand.tmp 27), 29, _, _, none⟩) (v := ?v17n3k49) rfl (by kernel_rfl) (by kernel_rfl) (by kernel_rfl) (fun _ _ _ h => h) (Or.inl ⟨by rfl, ?y17n3k49⟩) hHeld ?z17n3k49
              case y17n3k49 => intro w hSw; (try dsimp only at hSw); go_simp <;> rfl
              try simp only [Act.put, List.setIfInBounds_toArray, List.set_cons_zero, List.set_cons_succ]
              refine wpAnyH_take (i := 18) (oi := ⟨some 9, Op.assign (Operand.tmp 34), 29, _, _, none⟩) (v := ?v18n3k50) rfl (by kernel_rfl) (by kernel_rfl) (by kernel_rfl) (fun _ _ _ h => h) (Or.inl ⟨by rfl, ?y18n3k50⟩) hHeld ?z18n3k50
              case y18n3k50 => intro w hSw; (try dsimp only at hSw); go_simp <;> rfl
              try simp only [Act.put, List.setIfInBounds_toArray, List.set_cons_zero, List.set_cons_succ]
              refine wpAnyH_take (i := 19) (oi := ⟨some 10, Op.assign (Operand.tmp 37), 29, _, _, none⟩) (v := ?v19n3k51) rfl (by kernel_rfl) (by kernel_rfl) (by kernel_rfl) (fun _ _ _ h => h) (Or.inl ⟨by rfl, ?y19n3k51⟩) hHeld ?z19n3k51
              case y19n3k51 => intro w hSw; (try dsimp only at hSw); go_simp <;> rfl
              try simp only [Act.put, List.setIfInBounds_toArray, List.set_cons_zero, List.set_cons_succ]
              refine wpAnyH_done (by kernel_rfl) ?_ _
              refine NoPanic.normal ?_
              go_wp2
              go_meet
              case rel => exact ⟨A6, A7, A8, c6, c7, c8, rfl, rfl, rfl, Lib.hid (hR.four (by rw [EA.out]; rfl) (by rw [EB.out]; rfl) (by rw [EC.out]; rfl) rfl)⟩
        case b12n3k13 =>
          refine hR.step_build 12 rfl 29 (.tmp 32) rfl (.int .u8 0) Try.underlying29 Try.infoByte (bv ub) rfl rfl ?_
          intro B12 w12 hR2
          replace hR := hR2
          clear hR2
          refine hK.out _ _ trivial (fun hHeld => ?_)
          clear hK K
          try simp only [Act.put, List.setIfInBounds_toArray, List.set_cons_zero, List.set_cons_succ]
          refine wpAnyH_ready (rs := [5, 15]) (by kernel_rfl) (by simp) ?_
          refine (AllReadyH.cons (o := ⟨some 26, Op.buildSlice 29 1 #[(0, Operand.tmp 25)], 29, _, _, none⟩) rfl (fun K hK => ?b5n3k53) (AllReadyH.cons (o := ⟨some 36, Op.buildSlice 29 1 #[(0, Operand.const (Value.int IntKind.u8 0))], 29, _, _, none⟩) rfl (fun K hK => ?b15n3k52) AllReadyH.nil))
          case b5n3k53 =>
            refine hR.step_build 5 rfl 29 (.tmp 25) rfl (.int .u8 0) Try.underlying29 Try.infoByte (bv ua) rfl rfl ?_
            intro B5 w5 hR2
            replace hR := hR2
            clear hR2
            refine hK.out _ _ trivial (fun hHeld => ?_)
            clear hK K
            try simp only [Act.put, List.setIfInBounds_toArray, List.set_cons_zero, List.set_cons_succ]
            refine wpAnyH_ready (rs := [6, 15]) (by kernel_rfl) (by simp) ?_
            refine (AllReadyH.cons (o := ⟨some 27, Op.call { callee := Callee.builtin Builtin.append, args := #[Operand.tmp 21, Operand.tmp 26], argTypes := #[29, 29] }, 29, _, _, none⟩) rfl (fun K hK => ?b6n3k55) (AllReadyH.cons (o := ⟨some 36, Op.buildSlice 29 1 #[(0, Operand.const (Value.int IntKind.u8 0))], 29, _, _, none⟩) rfl (fun K hK => ?b15n3k54) AllReadyH.nil))
            case b6n3k55 =>
              refine hR.step_append 0 5 rfl (.tmp 21) (.tmp 26) 29 rfl (.int .u8 0) Try.underlying29 Try.infoByte rfl _ _ j 1 _ _ _ _ rfl rfl rfl rfl (by intro u hu; simp at hu; subst hu; rfl) (by omega) ?_
              intro A6 c6 w6 hR2
              replace hR := hR2
              clear hR2
              refine hK.out _ _ trivial (fun hHeld => ?_)
              clear hK K
              try simp only [Act.put, List.setIfInBounds_toArray, List.set_cons_zero, List.set_cons_succ]
              refine wpAnyH_ready (rs := [13, 15]) (by kernel_rfl) (by simp) ?_
              refine (AllReadyH.cons (o := ⟨some 34, Op.call { callee := Callee.builtin Builtin.append, args := #[Operand.tmp 28, Operand.tmp 33], argTypes := #[29, 29] }, 29, _, _, none⟩) rfl (fun K hK => ?b13n3k57) (AllReadyH.cons (o := ⟨some 36, Op.buildSlice 29 1 #[(0, Operand.const (Value.int IntKind.u8 0))], 29, _, _, none⟩) rfl (fun K hK => ?b15n3k56) AllReadyH.nil))
              case b13n3k57 =>
                refine hR.step_append 1 12 rfl (.tmp 28) (.tmp 33) 29 rfl (.int .u8 0) Try.underlying29 Try.infoByte rfl _ _ j 1 _ _ _ _ rfl rfl rfl rfl (by intro u hu; simp at hu; subst hu; rfl) (by omega) ?_
                intro A7 c7 w7 hR2
                replace hR := hR2
                clear hR2
                refine hK.out _ _ trivial (fun hHeld => ?_)
                clear hK K
                try simp only [Act.put, List.setIfInBounds_toArray, List.set_cons_zero, List.set_cons_succ]
                refine wpAnyH_ready (rs := [15]) (by kernel_rfl) (by simp) ?_
                refine AllReadyH.cons (o := ⟨some 36, Op.buildSlice 29 1 #[(0, Operand.const (Value.int IntKind.u8 0))], 29, _, _, none⟩) rfl (fun K hK => ?_) AllReadyH.nil
                refine hR.step_build 15 rfl 29 (.const (.int .u8 0)) rfl (.int .u8 0) Try.underlying29 Try.infoByte (bv 0) rfl rfl ?_
                intro B15 w15 hR2
                replace hR := hR2
                clear hR2
                refine hK.out _ _ trivial (fun hHeld => ?_)
                clear hK K
                try simp only [Act.put, List.setIfInBounds_toArray, List.set_cons_zero, List.set_cons_succ]
                refine wpAnyH_ready (rs := [16]) (by kernel_rfl) (by simp) ?_
                refine AllReadyH.cons (o := ⟨some 37, Op.call { callee := Callee.builtin Builtin.append, args := #[Operand.tmp 35, Operand.tmp 36], argTypes := #[29, 29] }, 29, _, _, none⟩) rfl (fun K hK => ?_) AllReadyH.nil
                refine hR.step_append 2 15 rfl (.tmp 35) (.tmp 36) 29 rfl (.int .u8 0) Try.underlying29 Try.infoByte rfl _ _ j 1 _ _ _ _ rfl rfl rfl rfl (by intro u hu; simp at hu; subst hu; rfl) (by omega) ?_
                intro A8 c8 w8 hR2
                replace hR := hR2
                clear hR2
                refine hK.out _ _ trivial (fun hHeld => ?_)
                clear hK K
                try simp only [Act.put, List.setIfInBounds_toArray, List.set_cons_zero, List.set_cons_succ]
                refine wpAnyH_take (i := 17) (oi := ⟨some 8, Op.assign (Operand.tmp 27), 29, _, _, none⟩) (v := ?v17n3k58) rfl (by kernel_rfl) (by kernel_rfl) (by kernel_rfl) (fun _ _ _ h => h) (Or.inl ⟨by rfl, ?y17n3k58⟩) hHeld ?z17n3k58
                case y17n3k58 => intro w hSw; (try dsimp only at hSw); go_simp <;> rfl
                try simp only [Act.put, List.setIfInBounds_toArray, List.set_cons_zero, List.set_cons_succ]
                refine wpAnyH_take (i := 18) (oi := ⟨some 9, Op.assign (Operand.tmp 34), 29, _, _, none⟩) (v := ?v18n3k59) rfl (by kernel_rfl) (by kernel_rfl) (by kernel_rfl) (fun _ _ _ h => h) (Or.inl ⟨by rfl, ?y18n3k59⟩) hHeld ?z18n3k59
                case y18n3k59 => intro w hSw; (try dsimp only at hSw); go_simp <;> rfl
                try simp only [Act.put, List.setIfInBounds_toArray, List.set_cons_zero, List.set_cons_succ]
                refine wpAnyH_take (i := 19) (oi := ⟨some 10, Op.assign (Operand.tmp 37), 29, _, _, none⟩) (v := ?v19n3k60) rfl (by kernel_rfl) (by kernel_rfl) (by kernel_rfl) (fun _ _ _ h => h) (Or.inl ⟨by rfl, ?y19n3k60⟩) hHeld ?z19n3k60
                case y19n3k60 => intro w hSw; (try dsimp only at hSw); go_simp <;> rfl
                try simp only [Act.put, List.setIfInBounds_toArray, List.set_cons_zero, List.set_cons_succ]
                refine wpAnyH_done (by kernel_rfl) ?_ _
                refine NoPanic.normal ?_
                go_wp2
                go_meet
                case rel => exact ⟨A6, A7, A8, c6, c7, c8, rfl, rfl, rfl, Lib.hid (hR.four (by rw [EA.out]; rfl) (by rw [EB.out]; rfl) (by rw [EC.out]; rfl) rfl)⟩
              case b15n3k56 =>
                refine hR.step_build 15 rfl 29 (.const (.int .u8 0)) rfl (.int .u8 0) Try.underlying29 Try.infoByte (bv 0) rfl rfl ?_
                intro B15 w15 hR2
                replace hR := hR2
                clear hR2
                refine hK.out _ _ trivial (fun hHeld => ?_)
                clear hK K
                try simp only [Act.put, List.setIfInBounds_toArray, List.set_cons_zero, List.set_cons_succ]
                refine wpAnyH_ready (rs := [13]) (by kernel_rfl) (by simp) ?_
                refine AllReadyH.cons (o := ⟨some 34, Op.call { callee := Callee.builtin Builtin.append, args := #[Operand.tmp 28, Operand.tmp 33], argTypes := #[29, 29] }, 29, _, _, none⟩) rfl (fun K hK => ?_) AllReadyH.nil
                refine hR.step_append 1 12 rfl (.tmp 28) (.tmp 33) 29 rfl (.int .u8 0) Try.underlying29 Try.infoByte rfl _ _ j 1 _ _ _ _ rfl rfl rfl rfl (by intro u hu; simp at hu; subst hu; rfl) (by omega) ?_
                intro A7 c7 w7 hR2
                replace hR := hR2
                clear hR2
                refine hK.out _ _ trivial (fun hHeld => ?_)
                clear hK K
                try simp only [Act.put, List.setIfInBounds_toArray, List.set_cons_zero, List.set_cons_succ]
                refine wpAnyH_ready (rs := [16]) (by kernel_rfl) (by simp) ?_
                refine AllReadyH.cons (o := ⟨some 37, Op.call { callee := Callee.builtin Builtin.append, args := #[Operand.tmp 35, Operand.tmp 36], argTypes := #[29, 29] }, 29, _, _, none⟩) rfl (fun K hK => ?_) AllReadyH.nil
                refine hR.step_append 2 15 rfl (.tmp 35) (.tmp 36) 29 rfl (.int .u8 0) Try.underlying29 Try.infoByte rfl _ _ j 1 _ _ _ _ rfl rfl rfl rfl (by intro u hu; simp at hu; subst hu; rfl) (by omega) ?_
                intro A8 c8 w8 hR2
                replace hR := hR2
                clear hR2
                refine hK.out _ _ trivial (fun hHeld => ?_)
                clear hK K
                try simp only [Act.put, List.setIfInBounds_toArray, List.set_cons_zero, List.set_cons_succ]
                refine wpAnyH_take (i := 17) (oi := ⟨some 8, Op.assign (Operand.tmp 27), 29, _, _, none⟩) (v := ?v17n3k61) rfl (by kernel_rfl) (by kernel_rfl) (by kernel_rfl) (fun _ _ _ h => h) (Or.inl ⟨by rfl, ?y17n3k61⟩) hHeld ?z17n3k61
                case y17n3k61 => intro w hSw; (try dsimp only at hSw); go_simp <;> rfl
                try simp only [Act.put, List.setIfInBounds_toArray, List.set_cons_zero, List.set_cons_succ]
                refine wpAnyH_take (i := 18) (oi := ⟨some 9, Op.assign (Operand.tmp 34), 29, _, _, none⟩) (v := ?v18n3k62) rfl (by kernel_rfl) (by kernel_rfl) (by kernel_rfl) (fun _ _ _ h => h) (Or.inl ⟨by rfl, ?y18n3k62⟩) hHeld ?z18n3k62
                case y18n3k62 => intro w hSw; (try dsimp only at hSw); go_simp <;> rfl
                try simp only [Act.put, List.setIfInBounds_toArray, List.set_cons_zero, List.set_cons_succ]
                refine wpAnyH_take (i := 19) (oi := ⟨some 10, Op.assign (Operand.tmp 37), 29, _, _, none⟩) (v := ?v19n3k63) rfl (by kernel_rfl) (by kernel_rfl) (by kernel_rfl) (fun _ _ _ h => h) (Or.inl ⟨by rfl, ?y19n3k63⟩) hHeld ?z19n3k63
                case y19n3k63 => intro w hSw; (try dsimp only at hSw); go_simp <;> rfl
                try simp only [Act.put, List.setIfInBounds_toArray, List.set_cons_zero, List.set_cons_succ]
                refine wpAnyH_done (by kernel_rfl) ?_ _
                refine NoPanic.normal ?_
                go_wp2
                go_meet
                case rel => exact ⟨A6, A7, A8, c6, c7, c8, rfl, rfl, rfl, Lib.hid (hR.four (by rw [EA.out]; rfl) (by rw [EB.out]; rfl) (by rw [EC.out]; rfl) rfl)⟩
            case b15n3k54 =>
              refine hR.step_build 15 rfl 29 (.const (.int .u8 0)) rfl (.int .u8 0) Try.underlying29 Try.infoByte (bv 0) rfl rfl ?_
              intro B15 w15 hR2
              replace hR := hR2
              clear hR2
              refine hK.out _ _ trivial (fun hHeld => ?_)
              clear hK K
              try simp only [Act.put, List.setIfInBounds_toArray, List.set_cons_zero, List.set_cons_succ]
              refine wpAnyH_ready (rs := [6]) (by kernel_rfl) (by simp) ?_
              refine AllReadyH.cons (o := ⟨some 27, Op.call { callee := Callee.builtin Builtin.append, args := #[Operand.tmp 21, Operand.tmp 26], argTypes := #[29, 29] }, 29, _, _, none⟩) rfl (fun K hK => ?_) AllReadyH.nil
              refine hR.step_append 0 5 rfl (.tmp 21) (.tmp 26) 29 rfl (.int .u8 0) Try.underlying29 Try.infoByte rfl _ _ j 1 _ _ _ _ rfl rfl rfl rfl (by intro u hu; simp at hu; subst hu; rfl) (by omega) ?_
              intro A6 c6 w6 hR2
              replace hR := hR2
              clear hR2
              refine hK.out _ _ trivial (fun hHeld => ?_)
              clear hK K
              try simp only [Act.put, List.setIfInBounds_toArray, List.set_cons_zero, List.set_cons_succ]
              refine wpAnyH_ready (rs := [13]) (by kernel_rfl) (by simp) ?_
              refine AllReadyH.cons (o := ⟨some 34, Op.call { callee := Callee.builtin Builtin.append, args := #[Operand.tmp 28, Operand.tmp 33], argTypes := #[29, 29] }, 29, _, _, none⟩) rfl (fun K hK => ?_) AllReadyH.nil
              refine hR.step_append 1 12 rfl (.tmp 28) (.tmp 33) 29 rfl (.int .u8 0) Try.underlying29 Try.infoByte rfl _ _ j 1 _ _ _ _ rfl rfl rfl rfl (by intro u hu; simp at hu; subst hu; rfl) (by omega) ?_
              intro A7 c7 w7 hR2
              replace hR := hR2
              clear hR2
              refine hK.out _ _ trivial (fun hHeld => ?_)
              clear hK K
              try simp only [Act.put, List.setIfInBounds_toArray, List.set_cons_zero, List.set_cons_succ]
              refine wpAnyH_ready (rs := [16]) (by kernel_rfl) (by simp) ?_
              refine AllReadyH.cons (o := ⟨some 37, Op.call { callee := Callee.builtin Builtin.append, args := #[Operand.tmp 35, Operand.tmp 36], argTypes := #[29, 29] }, 29, _, _, none⟩) rfl (fun K hK => ?_) AllReadyH.nil
              refine hR.step_append 2 15 rfl (.tmp 35) (.tmp 36) 29 rfl (.int .u8 0) Try.underlying29 Try.infoByte rfl _ _ j 1 _ _ _ _ rfl rfl rfl rfl (by intro u hu; simp at hu; subst hu; rfl) (by omega) ?_
              intro A8 c8 w8 hR2
              replace hR := hR2
              clear hR2
              refine hK.out _ _ trivial (fun hHeld => ?_)
              clear hK K
              try simp only [Act.put, List.setIfInBounds_toArray, List.set_cons_zero, List.set_cons_succ]
              refine wpAnyH_take (i := 17) (oi := ⟨some 8, Op.assign (Operand.tmp 27), 29, _, _, none⟩) (v := ?v17n3k64) rfl (by kernel_rfl) (by kernel_rfl) (by kernel_rfl) (fun _ _ _ h => h) (Or.inl ⟨by rfl, ?y17n3k64⟩) hHeld ?z17n3k64
              case y17n3k64 => intro w hSw; (try dsimp only at hSw); go_simp <;> rfl
              try simp only [Act.put, List.setIfInBounds_toArray, List.set_cons_zero, List.set_cons_succ]
              refine wpAnyH_take (i := 18) (oi := ⟨some 9, Op.assign (Operand.tmp 34), 29, _, _, none⟩) (v := ?v18n3k65) rfl (by kernel_rfl) (by kernel_rfl) (by kernel_rfl) (fun _ _ _ h => h) (Or.inl ⟨by rfl, ?y18n3k65⟩) hHeld ?z18n3k65
              case y18n3k65 => intro w hSw; (try dsimp only at hSw); go_simp <;> rfl
              try simp only [Act.put, List.setIfInBounds_toArray, List.set_cons_zero, List.set_cons_succ]
              refine wpAnyH_take (i := 19) (oi := ⟨some 10, Op.assign (Operand.tmp 37), 29, _, _, none⟩) (v := ?v19n3k66) rfl (by kernel_rfl) (by kernel_rfl) (by kernel_rfl) (fun _ _ _ h => h) (Or.inl ⟨by rfl, ?y19n3k66⟩) hHeld ?z19n3k66
              case y19n3k66 => intro w hSw; (try dsimp only at hSw); go_simp <;> rfl
              try simp only [Act.put, List.setIfInBounds_toArray, List.set_cons_zero, List.set_cons_succ]
              refine wpAnyH_done (by kernel_rfl) ?_ _
              refine NoPanic.normal ?_
              go_wp2
              go_meet
              case rel => exact ⟨A6, A7, A8, c6, c7, c8, rfl, rfl, rfl, Lib.hid (hR.four (by rw [EA.out]; rfl) (by rw [EB.out]; rfl) (by rw [EC.out]; rfl) rfl)⟩
          case b15n3k52 =>
            refine hR.step_build 15 rfl 29 (.const (.int .u8 0)) rfl (.int .u8 0) Try.underlying29 Try.infoByte (bv 0) rfl rfl ?_
            intro B15 w15 hR2
            replace hR := hR2
            clear hR2
            refine hK.out _ _ trivial (fun hHeld => ?_)
            clear hK K
            try simp only [Act.put, List.setIfInBounds_toArray, List.set_cons_zero, List.set_cons_succ]
            refine wpAnyH_ready (rs := [5]) (by kernel_rfl) (by simp) ?_
            refine AllReadyH.cons (o := ⟨some 26, Op.buildSlice 29 1 #[(0, Operand.tmp 25)], 29, _, _, none⟩) rfl (fun K hK => ?_) AllReadyH.nil
            refine hR.step_build 5 rfl 29 (.tmp 25) rfl (.int .u8 0) Try.underlying29 Try.infoByte (bv ua) rfl rfl ?_
            intro B5 w5 hR2
            replace hR := hR2
            clear hR2
            refine hK.out _ _ trivial (fun hHeld => ?_)
            clear hK K
            try simp only [Act.put, List.setIfInBounds_toArray, List.set_cons_zero, List.set_cons_succ]
            refine wpAnyH_ready (rs := [6]) (by kernel_rfl) (by simp) ?_
            refine AllReadyH.cons (o := ⟨some 27, Op.call { callee := Callee.builtin Builtin.append, args := #[Operand.tmp 21, Operand.tmp 26], argTypes := #[29, 29] }, 29, _, _, none⟩) rfl (fun K hK => ?_) AllReadyH.nil
            refine hR.step_append 0 5 rfl (.tmp 21) (.tmp 26) 29 rfl (.int .u8 0) Try.underlying29 Try.infoByte rfl _ _ j 1 _ _ _ _ rfl rfl rfl rfl (by intro u hu; simp at hu; subst hu; rfl) (by omega) ?_
            intro A6 c6 w6 hR2
            replace hR := hR2
            clear hR2
            refine hK.out _ _ trivial (fun hHeld => ?_)
            clear hK K
            try simp only [Act.put, List.setIfInBounds_toArray, List.set_cons_zero, List.set_cons_succ]
            refine wpAnyH_ready (rs := [13]) (by kernel_rfl) (by simp) ?_
            refine AllReadyH.cons (o := ⟨some 34, Op.call { callee := Callee.builtin Builtin.append, args := #[Operand.tmp 28, Operand.tmp 33], argTypes := #[29, 29] }, 29, _, _, none⟩) rfl (fun K hK => ?_) AllReadyH.nil
            refine hR.step_append 1 12 rfl (.tmp 28) (.tmp 33) 29 rfl (.int .u8 0) Try.underlying29 Try.infoByte rfl _ _ j 1 _ _ _ _ rfl rfl rfl rfl (by intro u hu; simp at hu; subst hu; rfl) (by omega) ?_
            intro A7 c7 w7 hR2
            replace hR := hR2
            clear hR2
            refine hK.out _ _ trivial (fun hHeld => ?_)
            clear hK K
            try simp only [Act.put, List.setIfInBounds_toArray, List.set_cons_zero, List.set_cons_succ]
            refine wpAnyH_ready (rs := [16]) (by kernel_rfl) (by simp) ?_
            refine AllReadyH.cons (o := ⟨some 37, Op.call { callee := Callee.builtin Builtin.append, args := #[Operand.tmp 35, Operand.tmp 36], argTypes := #[29, 29] }, 29, _, _, none⟩) rfl (fun K hK => ?_) AllReadyH.nil
            refine hR.step_append 2 15 rfl (.tmp 35) (.tmp 36) 29 rfl (.int .u8 0) Try.underlying29 Try.infoByte rfl _ _ j 1 _ _ _ _ rfl rfl rfl rfl (by intro u hu; simp at hu; subst hu; rfl) (by omega) ?_
            intro A8 c8 w8 hR2
            replace hR := hR2
            clear hR2
            refine hK.out _ _ trivial (fun hHeld => ?_)
            clear hK K
            try simp only [Act.put, List.setIfInBounds_toArray, List.set_cons_zero, List.set_cons_succ]
            refine wpAnyH_take (i := 17) (oi := ⟨some 8, Op.assign (Operand.tmp 27), 29, _, _, none⟩) (v := ?v17n3k67) rfl (by kernel_rfl) (by kernel_rfl) (by kernel_rfl) (fun _ _ _ h => h) (Or.inl ⟨by rfl, ?y17n3k67⟩) hHeld ?z17n3k67
            case y17n3k67 => intro w hSw; (try dsimp only at hSw); go_simp <;> rfl
            try simp only [Act.put, List.setIfInBounds_toArray, List.set_cons_zero, List.set_cons_succ]
            refine wpAnyH_take (i := 18) (oi := ⟨some 9, Op.assign (Operand.tmp 34), 29, _, _, none⟩) (v := ?v18n3k68) rfl (by kernel_rfl) (by kernel_rfl) (by kernel_rfl) (fun _ _ _ h => h) (Or.inl ⟨by rfl, ?y18n3k68⟩) hHeld ?z18n3k68
            case y18n3k68 => intro w hSw; (try dsimp only at hSw); go_simp <;> rfl
            try simp only [Act.put, List.setIfInBounds_toArray, List.set_cons_zero, List.set_cons_succ]
            refine wpAnyH_take (i := 19) (oi := ⟨some 10, Op.assign (Operand.tmp 37), 29, _, _, none⟩) (v := ?v19n3k69) rfl (by kernel_rfl) (by kernel_rfl) (by kernel_rfl) (fun _ _ _ h => h) (Or.inl ⟨by rfl, ?y19n3k69⟩) hHeld ?z19n3k69
            case y19n3k69 => intro w hSw; (try dsimp only at hSw); go_simp <;> rfl
            try simp only [Act.put, List.setIfInBounds_toArray, List.set_cons_zero, List.set_cons_succ]
            refine wpAnyH_done (by kernel_rfl) ?_ _
            refine NoPanic.normal ?_
            go_wp2
            go_meet
            case rel => exact ⟨A6, A7, A8, c6, c7, c8, rfl, rfl, rfl, Lib.hid (hR.four (by rw [EA.out]; rfl) (by rw [EB.out]; rfl) (by rw [EC.out]; rfl) rfl)⟩
        case b15n3k12 =>
          refine hR.step_build 15 rfl 29 (.const (.int .u8 0)) rfl (.int .u8 0) Try.underlying29 Try.infoByte (bv 0) rfl rfl ?_
          intro B15 w15 hR2
          replace hR := hR2
          clear hR2
          refine hK.out _ _ trivial (fun hHeld => ?_)
          clear hK K
          try simp only [Act.put, List.setIfInBounds_toArray, List.set_cons_zero, List.set_cons_succ]
          refine wpAnyH_ready (rs := [5, 12]) (by kernel_rfl) (by simp) ?_
          refine (AllReadyH.cons (o := ⟨some 26, Op.buildSlice 29 1 #[(0, Operand.tmp 25)], 29, _, _, none⟩) rfl (fun K hK => ?b5n3k71) (AllReadyH.cons (o := ⟨some 33, Op.buildSlice 29 1 #[(0, Operand.tmp 32)], 29, _, _, none⟩) rfl (fun K hK => ?b12n3k70) AllReadyH.nil))
          case b5n3k71 =>
            refine hR.step_build 5 rfl 29 (.tmp 25) rfl (.int .u8 0) Try.underlying29 Try.infoByte (bv ua) rfl rfl ?_
            intro B5 w5 hR2
            replace hR := hR2
            clear hR2
            refine hK.out _ _ trivial (fun hHeld => ?_)
            clear hK K
            try simp only [Act.put, List.setIfInBounds_toArray, List.set_cons_zero, List.set_cons_succ]
            refine wpAnyH_ready (rs := [6, 12]) (by kernel_rfl) (by simp) ?_
            refine (AllReadyH.cons (o := ⟨some 27, Op.call { callee := Callee.builtin Builtin.append, args := #[Operand.tmp 21, Operand.tmp 26], argTypes := #[29, 29] }, 29, _, _, none⟩) rfl (fun K hK => ?b6n3k73) (AllReadyH.cons (o := ⟨some 33, Op.buildSlice 29 1 #[(0, Operand.tmp 32)], 29, _, _, none⟩) rfl (fun K hK => ?b12n3k72) AllReadyH.nil))
            case b6n3k73 =>
              refine hR.step_append 0 5 rfl (.tmp 21) (.tmp 26) 29 rfl (.int .u8 0) Try.underlying29 Try.infoByte rfl _ _ j 1 _ _ _ _ rfl rfl rfl rfl (by intro u hu; simp at hu; subst hu; rfl) (by omega) ?_
              intro A6 c6 w6 hR2
              replace hR := hR2
              clear hR2
              refine hK.out _ _ trivial (fun hHeld => ?_)
              clear hK K
              try simp only [Act.put, List.setIfInBounds_toArray, List.set_cons_zero, List.set_cons_succ]
              refine wpAnyH_ready (rs := [12]) (by kernel_rfl) (by simp) ?_
              refine AllReadyH.cons (o := ⟨some 33, Op.buildSlice 29 1 #[(0, Operand.tmp 32)], 29, _, _, none⟩) rfl (fun K hK => ?_) AllReadyH.nil
              refine hR.step_build 12 rfl 29 (.tmp 32) rfl (.int .u8 0) Try.underlying29 Try.infoByte (bv ub) rfl rfl ?_
              intro B12 w12 hR2
              replace hR := hR2
              clear hR2
              refine hK.out _ _ trivial (fun hHeld => ?_)
              clear hK K
              try simp only [Act.put, List.setIfInBounds_toArray, List.set_cons_zero, List.set_cons_succ]
              refine wpAnyH_ready (rs := [13]) (by kernel_rfl) (by simp) ?_
              refine AllReadyH.cons (o := ⟨some 34, Op.call { callee := Callee.builtin Builtin.append, args := #[Operand.tmp 28, Operand.tmp 33], argTypes := #[29, 29] }, 29, _, _, none⟩) rfl (fun K hK => ?_) AllReadyH.nil
              refine hR.step_append 1 12 rfl (.tmp 28) (.tmp 33) 29 rfl (.int .u8 0) Try.underlying29 Try.infoByte rfl _ _ j 1 _ _ _ _ rfl rfl rfl rfl (by intro u hu; simp at hu; subst hu; rfl) (by omega) ?_
              intro A7 c7 w7 hR2
              replace hR := hR2
              clear hR2
              refine hK.out _ _ trivial (fun hHeld => ?_)
              clear hK K
              try simp only [Act.put, List.setIfInBounds_toArray, List.set_cons_zero, List.set_cons_succ]
              refine wpAnyH_ready (rs := [16]) (by kernel_rfl) (by simp) ?_
              refine AllReadyH.cons (o := ⟨some 37, Op.call { callee := Callee.builtin Builtin.append, args := #[Operand.tmp 35, Operand.tmp 36], argTypes := #[29, 29] }, 29, _, _, none⟩) rfl (fun K hK => ?_) AllReadyH.nil
              refine hR.step_append 2 15 rfl (.tmp 35) (.tmp 36) 29 rfl (.int .u8 0) Try.underlying29 Try.infoByte rfl _ _ j 1 _ _ _ _ rfl rfl rfl rfl (by intro u hu; simp at hu; subst hu; rfl) (by omega) ?_
              intro A8 c8 w8 hR2
              replace hR := hR2
              clear hR2
              refine hK.out _ _ trivial (fun hHeld => ?_)
              clear hK K
              try simp only [Act.put, List.setIfInBounds_toArray, List.set_cons_zero, List.set_cons_succ]
              refine wpAnyH_take (i := 17) (oi := ⟨some 8, Op.assign (Operand.tmp 27), 29, _, _, none⟩) (v := ?v17n3k74) rfl (by kernel_rfl) (by kernel_rfl) (by kernel_rfl) (fun _ _ _ h => h) (Or.inl ⟨by rfl, ?y17n3k74⟩) hHeld ?z17n3k74
              case y17n3k74 => intro w hSw; (try dsimp only at hSw); go_simp <;> rfl
              try simp only [Act.put, List.setIfInBounds_toArray, List.set_cons_zero, List.set_cons_succ]
              refine wpAnyH_take (i := 18) (oi := ⟨some 9, Op.assign (Operand.tmp 34), 29, _, _, none⟩) (v := ?v18n3k75) rfl (by kernel_rfl) (by kernel_rfl) (by kernel_rfl) (fun _ _ _ h => h) (Or.inl ⟨by rfl, ?y18n3k75⟩) hHeld ?z18n3k75
              case y18n3k75 => intro w hSw; (try dsimp only at hSw); go_simp <;> rfl
              try simp only [Act.put, List.setIfInBounds_toArray, List.set_cons_zero, List.set_cons_succ]
              refine wpAnyH_take (i := 19) (oi := ⟨some 10, Op.assign (Operand.tmp 37), 29, _, _, none⟩) (v := ?v19n3k76) rfl (by kernel_rfl) (by kernel_rfl) (by kernel_rfl) (fun _ _ _ h => h) (Or.inl ⟨by rfl, ?y19n3k76⟩) hHeld ?z19n3k76
              case y19n3k76 => intro w hSw; (try dsimp only at hSw); go_simp <;> rfl
              try simp only [Act.put, List.setIfInBounds_toArray, List.set_cons_zero, List.set_cons_succ]
              refine wpAnyH_done (by kernel_rfl) ?_ _
              refine NoPanic.normal ?_
              go_wp2
              go_meet
              case rel => exact ⟨A6, A7, A8, c6, c7, c8, rfl, rfl, rfl, Lib.hid (hR.four (by rw [EA.out]; rfl) (by rw [EB.out]; rfl) (by rw [EC.out]; rfl) rfl)⟩
            case b12n3k72 =>
              refine hR.step_build 12 rfl 29 (.tmp 32) rfl (.int .u8 0) Try.underlying29 Try.infoByte (bv ub) rfl rfl ?_
              intro B12 w12 hR2
              replace hR := hR2
              clear hR2
              refine hK.out _ _ trivial (fun hHeld => ?_)
              clear hK K
              try simp only [Act.put, List.setIfInBounds_toArray, List.set_cons_zero, List.set_cons_succ]
              refine wpAnyH_ready (rs := [6]) (by kernel_rfl) (by simp) ?_
              refine AllReadyH.cons (o := ⟨some 27, Op.call { callee := Callee.builtin Builtin.append, args := #[Operand.tmp 21, Operand.tmp 26], argTypes := #[29, 29] }, 29, _, _, none⟩) rfl (fun K hK => ?_) AllReadyH.nil
              refine hR.step_append 0 5 rfl (.tmp 21) (.tmp 26) 29 rfl (.int .u8 0) Try.underlying29 Try.infoByte rfl _ _ j 1 _ _ _ _ rfl rfl rfl rfl (by intro u hu; simp at hu; subst hu; rfl) (by omega) ?_
              intro A6 c6 w6 hR2
              replace hR := hR2
              clear hR2
              refine hK.out _ _ trivial (fun hHeld => ?_)
              clear hK K
              try simp only [Act.put, List.setIfInBounds_toArray, List.set_cons_zero, List.set_cons_succ]
              refine wpAnyH_ready (rs := [13]) (by kernel_rfl) (by simp) ?_
              refine AllReadyH.cons (o := ⟨some 34, Op.call { callee := Callee.builtin Builtin.append, args := #[Operand.tmp 28, Operand.tmp 33], argTypes := #[29, 29] }, 29, _, _, none⟩) rfl (fun K hK => ?_) AllReadyH.nil
              refine hR.step_append 1 12 rfl (.tmp 28) (.tmp 33) 29 rfl (.int .u8 0) Try.underlying29 Try.infoByte rfl _ _ j 1 _ _ _ _ rfl rfl rfl rfl (by intro u hu; simp at hu; subst hu; rfl) (by omega) ?_
              intro A7 c7 w7 hR2
              replace hR := hR2
              clear hR2
              refine hK.out _ _ trivial (fun hHeld => ?_)
              clear hK K
              try simp only [Act.put, List.setIfInBounds_toArray, List.set_cons_zero, List.set_cons_succ]
              refine wpAnyH_ready (rs := [16]) (by kernel_rfl) (by simp) ?_
              refine AllReadyH.cons (o := ⟨some 37, Op.call { callee := Callee.builtin Builtin.append, args := #[Operand.tmp 35, Operand.tmp 36], argTypes := #[29, 29] }, 29, _, _, none⟩) rfl (fun K hK => ?_) AllReadyH.nil
              refine hR.step_append 2 15 rfl (.tmp 35) (.tmp 36) 29 rfl (.int .u8 0) Try.underlying29 Try.infoByte rfl _ _ j 1 _ _ _ _ rfl rfl rfl rfl (by intro u hu; simp at hu; subst hu; rfl) (by omega) ?_
              intro A8 c8 w8 hR2
              replace hR := hR2
              clear hR2
              refine hK.out _ _ trivial (fun hHeld => ?_)
              clear hK K
              try simp only [Act.put, List.setIfInBounds_toArray, List.set_cons_zero, List.set_cons_succ]
              refine wpAnyH_take (i := 17) (oi := ⟨some 8, Op.assign (Operand.tmp 27), 29, _, _, none⟩) (v := ?v17n3k77) rfl (by kernel_rfl) (by kernel_rfl) (by kernel_rfl) (fun _ _ _ h => h) (Or.inl ⟨by rfl, ?y17n3k77⟩) hHeld ?z17n3k77
              case y17n3k77 => intro w hSw; (try dsimp only at hSw); go_simp <;> rfl
              try simp only [Act.put, List.setIfInBounds_toArray, List.set_cons_zero, List.set_cons_succ]
              refine wpAnyH_take (i := 18) (oi := ⟨some 9, Op.assign (Operand.tmp 34), 29, _, _, none⟩) (v := ?v18n3k78) rfl (by kernel_rfl) (by kernel_rfl) (by kernel_rfl) (fun _ _ _ h => h) (Or.inl ⟨by rfl, ?y18n3k78⟩) hHeld ?z18n3k78
              case y18n3k78 => intro w hSw; (try dsimp only at hSw); go_simp <;> rfl
              try simp only [Act.put, List.setIfInBounds_toArray, List.set_cons_zero, List.set_cons_succ]
              refine wpAnyH_take (i := 19) (oi := ⟨some 10, Op.assign (Operand.tmp 37), 29, _, _, none⟩) (v := ?v19n3k79) rfl (by kernel_rfl) (by kernel_rfl) (by kernel_rfl) (fun _ _ _ h => h) (Or.inl ⟨by rfl, ?y19n3k79⟩) hHeld ?z19n3k79
              case y19n3k79 => intro w hSw; (try dsimp only at hSw); go_simp <;> rfl
              try simp only [Act.put, List.setIfInBounds_toArray, List.set_cons_zero, List.set_cons_succ]
              refine wpAnyH_done (by kernel_rfl) ?_ _
              refine NoPanic.normal ?_
              go_wp2
              go_meet
              case rel => exact ⟨A6, A7, A8, c6, c7, c8, rfl, rfl, rfl, Lib.hid (hR.four (by rw [EA.out]; rfl) (by rw [EB.out]; rfl) (by rw [EC.out]; rfl) rfl)⟩
          case b12n3k70 =>
            refine hR.step_build 12 rfl 29 (.tmp 32) rfl (.int .u8 0) Try.underlying29 Try.infoByte (bv ub) rfl rfl ?_
            intro B12 w12 hR2
            replace hR := hR2
            clear hR2
            refine hK.out _ _ trivial (fun hHeld => ?_)
            clear hK K
            try simp only [Act.put, List.setIfInBounds_toArray, List.set_cons_zero, List.set_cons_succ]
            refine wpAnyH_ready (rs := [5]) (by kernel_rfl) (by simp) ?_
            refine AllReadyH.cons (o := ⟨some 26, Op.buildSlice 29 1 #[(0, Operand.tmp 25)], 29, _, _, none⟩) rfl (fun K hK => ?_) AllReadyH.nil
            refine hR.step_build 5 rfl 29 (.tmp 25) rfl (.int .u8 0) Try.underlying29 Try.infoByte (bv ua) rfl rfl ?_
            intro B5 w5 hR2
            replace hR := hR2
            clear hR2
            refine hK.out _ _ trivial (fun hHeld => ?_)
            clear hK K
            try simp only [Act.put, List.setIfInBounds_toArray, List.set_cons_zero, List.set_cons_succ]
            refine wpAnyH_ready (rs := [6]) (by kernel_rfl) (by simp) ?_
            refine AllReadyH.cons (o := ⟨some 27, Op.call { callee := Callee.builtin Builtin.append, args := #[Operand.tmp 21, Operand.tmp 26], argTypes := #[29, 29] }, 29, _, _, none⟩) rfl (fun K hK => ?_) AllReadyH.nil
            refine hR.step_append 0 5 rfl (.tmp 21) (.tmp 26) 29 rfl (.int .u8 0) Try.underlying29 Try.infoByte rfl _ _ j 1 _ _ _ _ rfl rfl rfl rfl (by intro u hu; simp at hu; subst hu; rfl) (by omega) ?_
            intro A6 c6 w6 hR2
            replace hR := hR2
            clear hR2
            refine hK.out _ _ trivial (fun hHeld => ?_)
            clear hK K
            try simp only [Act.put, List.setIfInBounds_toArray, List.set_cons_zero, List.set_cons_succ]
            refine wpAnyH_ready (rs := [13]) (by kernel_rfl) (by simp) ?_
            refine AllReadyH.cons (o := ⟨some 34, Op.call { callee := Callee.builtin Builtin.append, args := #[Operand.tmp 28, Operand.tmp 33], argTypes := #[29, 29] }, 29, _, _, none⟩) rfl (fun K hK => ?_) AllReadyH.nil
            refine hR.step_append 1 12 rfl (.tmp 28) (.tmp 33) 29 rfl (.int .u8 0) Try.underlying29 Try.infoByte rfl _ _ j 1 _ _ _ _ rfl rfl rfl rfl (by intro u hu; simp at hu; subst hu; rfl) (by omega) ?_
            intro A7 c7 w7 hR2
            replace hR := hR2
            clear hR2
            refine hK.out _ _ trivial (fun hHeld => ?_)
            clear hK K
            try simp only [Act.put, List.setIfInBounds_toArray, List.set_cons_zero, List.set_cons_succ]
            refine wpAnyH_ready (rs := [16]) (by kernel_rfl) (by simp) ?_
            refine AllReadyH.cons (o := ⟨some 37, Op.call { callee := Callee.builtin Builtin.append, args := #[Operand.tmp 35, Operand.tmp 36], argTypes := #[29, 29] }, 29, _, _, none⟩) rfl (fun K hK => ?_) AllReadyH.nil
            refine hR.step_append 2 15 rfl (.tmp 35) (.tmp 36) 29 rfl (.int .u8 0) Try.underlying29 Try.infoByte rfl _ _ j 1 _ _ _ _ rfl rfl rfl rfl (by intro u hu; simp at hu; subst hu; rfl) (by omega) ?_
            intro A8 c8 w8 hR2
            replace hR := hR2
            clear hR2
            refine hK.out _ _ trivial (fun hHeld => ?_)
            clear hK K
            try simp only [Act.put, List.setIfInBounds_toArray, List.set_cons_zero, List.set_cons_succ]
            refine wpAnyH_take (i := 17) (oi := ⟨some 8, Op.assign (Operand.tmp 27), 29, _, _, none⟩) (v := ?v17n3k80) rfl (by kernel_rfl) (by kernel_rfl) (by kernel_rfl) (fun _ _ _ h => h) (Or.inl ⟨by rfl, ?y17n3k80⟩) hHeld ?z17n3k80
            case y17n3k80 => intro w hSw; (try dsimp only at hSw); go_simp <;> rfl
            try simp only [Act.put, List.setIfInBounds_toArray, List.set_cons_zero, List.set_cons_succ]
            refine wpAnyH_take (i := 18) (oi := ⟨some 9, Op.assign (Operand.tmp 34), 29, _, _, none⟩) (v := ?v18n3k81) rfl (by kernel_rfl) (by kernel_rfl) (by kernel_rfl) (fun _ _ _ h => h) (Or.inl ⟨by rfl, ?y18n3k81⟩) hHeld ?z18n3k81
            case y18n3k81 => intro w hSw; (try dsimp only at hSw); go_simp <;> rfl
            try simp only [Act.put, List.setIfInBounds_toArray, List.set_cons_zero, List.set_cons_succ]
            refine wpAnyH_take (i := 19) (oi := ⟨some 10, Op.assign (Operand.tmp 37), 29, _, _, none⟩) (v := ?v19n3k82) rfl (by kernel_rfl) (by kernel_rfl) (by kernel_rfl) (fun _ _ _ h => h) (Or.inl ⟨by rfl, ?y19n3k82⟩) hHeld ?z19n3k82
            case y19n3k82 => intro w hSw; (try dsimp only at hSw); go_simp <;> rfl
            try simp only [Act.put, List.setIfInBounds_toArray, List.set_cons_zero, List.set_cons_succ]
            refine wpAnyH_done (by kernel_rfl) ?_ _
            refine NoPanic.normal ?_
            go_wp2
            go_meet
            case rel => exact ⟨A6, A7, A8, c6, c7, c8, rfl, rfl, rfl, Lib.hid (hR.four (by rw [EA.out]; rfl) (by rw [EB.out]; rfl) (by rw [EC.out]; rfl) rfl)⟩
      case rest =>
        obtain ⟨A', B', C', ca', cb', cc', rfl, rfl, rfl, HS⟩ := hcut
        go_wp2_with (at_builtin; refine Sep.list_append (HS.out.build 4 #[.int .u8 (uq.toNat : Int)] 1 rfl (by decide)) 3 4 rfl _ _ 29 rfl (.int .u8 0) Try.underlying29 Try.infoByte rfl _ _ j 1 _ _ _ _ rfl rfl rfl rfl ?hone ?hlen ?_)
        case hone => rfl
        case hlen => omega
        intro A9 c9 w9 hR9
        have HR9 := Lib.hid (hR9.four (A := .slice A' (j + 1) ca') (B := .slice B' (j + 1) cb') (C := .slice C' (j + 1) cc') (D := .slice A9 (j + 1) c9) rfl rfl rfl (d := (lows q (j + 1)).map bv) (by rw [ED.out]; rfl))
        clear hR9 HS
        go_wp2
        go_roundw
        case rel => exact ⟨j + 1, A', B', C', A9, ca', cb', cc', c9, by omega, by rw [H8.out]; go_num, rfl, rfl, rfl, rfl, HR9⟩
        case measure => simp [intOf]; omega
    · obtain rfl : j = 8 := by omega
      have hS := HR.out
      clear HR
      have tt : ∀ w', Kept noBlock w3 w' → ∀ j, j < 256 → w'.cell? ⟨w2.heap.size, j, none⟩ = some (uv (stpN p 8 j)) := fun w' k j hj => k.cell (HT.out j hj) (fun h => h)
      have TT := Lib.hid tt; clear tt
      go_wp2_with fail
      refine (tsum_any _ p _ D 8 cd (lows q 8) wr (TT.out _ hS.kept) HP.out (hS.lies (i := 3) rfl) (lows_length q 8) (by decide)).mono ?_
      rintro e w4 ⟨rfl, rfl⟩
      go_wp2_with fail
      refine (tsum_any _ p _ C 8 cc (lows 0 8) wr (TT.out _ hS.kept) HP.out (hS.lies (i := 2) rfl) (lows_length 0 8) (by decide)).mono ?_
      rintro e w4 ⟨rfl, rfl⟩
      go_wp2_with fail
      refine (tsum_any _ p _ A 8 ca (lows a 8) wr (TT.out _ hS.kept) HP.out (hS.lies (i := 0) rfl) (lows_length a 8) (by decide)).mono ?_
      rintro e w4 ⟨rfl, rfl⟩
      go_wp2_with fail
      refine (tsum_any _ p _ B 8 cb (lows b 8) wr (TT.out _ hS.kept) HP.out (hS.lies (i := 1) rfl) (lows_length b 8) (by decide)).mono ?_
      rintro e w4 ⟨rfl, rfl⟩
      have hk5 := hS.kept
      clear hS
      have l1 := crc_lt HP.out (lows a 8)
      have l2 := crc_lt HP.out (lows b 8)
      have l3 := crc_lt HP.out (lows 0 8)
      have l4 := crc_lt HP.out (lows q 8)
      have e3 := crc_three p a b 0 8
      rw [Nat.xor_zero, ← HQ.out] at e3
      generalize crc p (lows a 8) = x at *
      generalize crc p (lows b 8) = y at *
      generalize crc p (lows 0 8) = z at *
      generalize crc p (lows q 8) = v at *
      have y1 := u32_xor_nat x y l1 l2
      have y2 := u32_xor_nat v z l4 l3
      have e4 : v ^^^ z = x ^^^ y := by rw [e3, Nat.xor_assoc, Nat.xor_self, Nat.xor_zero]
      rw [e4] at y2
      obtain ⟨xy, hxy⟩ : ∃ q, q = x ^^^ y := ⟨_, rfl⟩
      rw [← hxy] at y1 y2
      clear hxy e3 e4 l1 l2 l3 l4
      go_wp2
      go_ret
      exact ⟨rfl, ((k1.step k2).step kw3).step hk5⟩

end Go.Proofs.Ytfegoeepjmjlcaa
