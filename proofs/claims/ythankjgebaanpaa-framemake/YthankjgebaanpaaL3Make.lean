/-
  FrameMake: what it does with whatever bytes and number. No statement is proved here.
-/
import Derived.Test.YthankjgebaanpaaL3Awake
namespace Go.Proofs.Ythankjgebaanpaa
open Go.RowKit

theorem same_str (l : List UInt8) : ((str l).toList == (str l).toList) = true := by simp

set_option maxRecDepth 100000 in
set_option maxHeartbeats 2000000 in
theorem make_walk (F : Nat → Prop) (a : Option Addr) (n c : Nat) (l : List UInt8) (v : Nat) (w : World) (hv : v < 65536) (h : Lies w F a (l.map bv)) (hl : l.length = n) :
    Calls Try.prog 3 #[.slice a n c, .int .u16 (v : Int)] w fun e w' => e = .returned (.bool true) ∧ Kept noBlock w w' := by
  have HL := Lib.hid hl; clear hl
  go_enter Try.func3, Try.ntmps3
  go_wp2_with fail
  refine (awake_any w).mono ?_
  rintro e w1 ⟨rfl, k1⟩
  have h1 := h.keep k1 (fun _ _ h => h)
  clear h
  obtain ⟨r, hr⟩ : ∃ r, r = v % 800 := ⟨_, rfl⟩
  have hmod : (v : Int) % 800 = (r : Int) := by omega
  obtain ⟨Z, hZ⟩ : ∃ Z, Z = 16000 + r := ⟨_, rfl⟩
  have hsum : 16000 + (r : Int) = (Z : Int) := by omega
  have hZb : Z ≤ 16800 := by omega
  have hr8 : r < 800 := by omega
  clear hr hZ
  by_cases hn : 16384 < n
  · go_wp2_with fail
    refine (make_full a n c w1 hn).mono ?_
    rintro e w2 ⟨rfl, rfl⟩
    have k2 := k1.step (Kept.drew noBlock w1)
    go_upto_region 4 with (fail)
    have ni : ¬ (n : Int) ≤ 16384 := by omega
    have ni2 : decide ((16384 : Int) < (n : Int)) = true := decide_eq_true (by omega)
    refine wp_region_noPanic ?_
    refine wp_region_held_drew (S := fun _ => True) (by kernel_rfl) trivial (fun hHeld => ?_)
    refine wpAnyH_take (i := 0) (oi := ⟨some 20, Op.move (Operand.tmp 0), 22, _, _, none⟩) (v := ?v0n5k1) rfl (by kernel_rfl) (by kernel_rfl) (by kernel_rfl) (fun _ _ _ h => h) (Or.inl ⟨by rfl, ?y0n5k1⟩) hHeld ?z0n5k1
    case y0n5k1 => intro w hSw; (try dsimp only at hSw); go_simp <;> rfl
    try simp only [Act.put, List.setIfInBounds_toArray, List.set_cons_zero, List.set_cons_succ]
    refine wpAnyH_take (i := 1) (oi := ⟨some 21, Op.call { callee := Callee.builtin Builtin.len, args := #[Operand.tmp 20], argTypes := #[22] }, 3, _, _, none⟩) (v := ?v1n5k2) rfl (by kernel_rfl) (by kernel_rfl) (by kernel_rfl) (fun _ _ _ h => h) (Or.inl ⟨by rfl, ?y1n5k2⟩) hHeld ?z1n5k2
    case y1n5k2 => intro w hSw; (try dsimp only at hSw); go_simp <;> rfl
    try simp only [Act.put, List.setIfInBounds_toArray, List.set_cons_zero, List.set_cons_succ]
    refine wpAnyH_take (i := 2) (oi := ⟨some 22, Op.binOp BinOp.leq 3 (Operand.tmp 21) (Operand.const (Value.int IntKind.i64 16384)) 3, 4, _, _, none⟩) (v := ?v2n5k3) rfl (by kernel_rfl) (by kernel_rfl) (by kernel_rfl) (fun _ _ _ h => h) (Or.inl ⟨by rfl, ?y2n5k3⟩) hHeld ?z2n5k3
    case y2n5k3 => intro w hSw; (try dsimp only at hSw); go_simp <;> rfl
    try simp only [Act.put, List.setIfInBounds_toArray, List.set_cons_zero, List.set_cons_succ]
    refine wpAnyH_take (i := 3) (oi := ⟨some 23, Op.move (Operand.tmp 22), 4, _, _, none⟩) (v := ?v3n5k4) rfl (by kernel_rfl) (by kernel_rfl) (by kernel_rfl) (fun _ _ _ h => h) (Or.inl ⟨by rfl, ?y3n5k4⟩) hHeld ?z3n5k4
    case y3n5k4 => intro w hSw; (try dsimp only at hSw); go_simp <;> rfl
    try simp only [Act.put, List.setIfInBounds_toArray, List.set_cons_zero, List.set_cons_succ]
    refine wpAnyH_take (i := 4) (oi := ⟨some 24, Op.move (Operand.tmp 6), 25, _, _, some (3, true)⟩) (v := undef) rfl (by kernel_rfl) (by kernel_rfl) (by kernel_rfl) (fun _ _ _ h => h) (Or.inr ⟨by rfl, rfl⟩) hHeld ?z4n5k5
    try simp only [Act.put, List.setIfInBounds_toArray, List.set_cons_zero, List.set_cons_succ]
    refine wpAnyH_take (i := 5) (oi := ⟨some 25, Op.binOp BinOp.neq 25 (Operand.tmp 24) (Operand.const (Value.int IntKind.i64 0)) 25, 4, _, _, some (3, true)⟩) (v := undef) rfl (by kernel_rfl) (by kernel_rfl) (by kernel_rfl) (fun _ _ _ h => h) (Or.inr ⟨by rfl, rfl⟩) hHeld ?z5n5k6
    try simp only [Act.put, List.setIfInBounds_toArray, List.set_cons_zero, List.set_cons_succ]
    refine wpAnyH_take (i := 6) (oi := ⟨some 26, Op.move (Operand.tmp 25), 4, _, _, some (3, true)⟩) (v := undef) rfl (by kernel_rfl) (by kernel_rfl) (by kernel_rfl) (fun _ _ _ h => h) (Or.inr ⟨by rfl, rfl⟩) hHeld ?z6n5k7
    try simp only [Act.put, List.setIfInBounds_toArray, List.set_cons_zero, List.set_cons_succ]
    refine wpAnyH_take (i := 7) (oi := ⟨some 27, Op.move (Operand.tmp 5), 22, _, _, some (6, false)⟩) (v := undef) rfl (by kernel_rfl) (by kernel_rfl) (by kernel_rfl) (fun _ _ _ h => h) (Or.inr ⟨by rfl, rfl⟩) hHeld ?z7n5k8
    try simp only [Act.put, List.setIfInBounds_toArray, List.set_cons_zero, List.set_cons_succ]
    refine wpAnyH_take (i := 8) (oi := ⟨some 28, Op.convert 22 9 (Operand.tmp 27), 9, _, _, some (6, false)⟩) (v := undef) rfl (by kernel_rfl) (by kernel_rfl) (by kernel_rfl) (fun _ _ _ h => h) (Or.inr ⟨by rfl, rfl⟩) hHeld ?z8n5k9
    try simp only [Act.put, List.setIfInBounds_toArray, List.set_cons_zero, List.set_cons_succ]
    refine wpAnyH_take (i := 9) (oi := ⟨some 29, Op.move (Operand.tmp 0), 22, _, _, some (6, false)⟩) (v := undef) rfl (by kernel_rfl) (by kernel_rfl) (by kernel_rfl) (fun _ _ _ h => h) (Or.inr ⟨by rfl, rfl⟩) hHeld ?z9n5k10
    try simp only [Act.put, List.setIfInBounds_toArray, List.set_cons_zero, List.set_cons_succ]
    refine wpAnyH_take (i := 10) (oi := ⟨some 30, Op.call { callee := Callee.value (Operand.func 13), args := #[Operand.tmp 29], argTypes := #[22] }, 9, _, _, some (6, false)⟩) (v := undef) rfl (by kernel_rfl) (by kernel_rfl) (by kernel_rfl) (fun _ _ _ h => h) (Or.inr ⟨by rfl, rfl⟩) hHeld ?z10n5k11
    try simp only [Act.put, List.setIfInBounds_toArray, List.set_cons_zero, List.set_cons_succ]
    refine wpAnyH_take (i := 11) (oi := ⟨some 31, Op.binOp BinOp.neq 9 (Operand.tmp 28) (Operand.tmp 30) 9, 4, _, _, some (6, false)⟩) (v := undef) rfl (by kernel_rfl) (by kernel_rfl) (by kernel_rfl) (fun _ _ _ h => h) (Or.inr ⟨by rfl, rfl⟩) hHeld ?z11n5k12
    try simp only [Act.put, List.setIfInBounds_toArray, List.set_cons_zero, List.set_cons_succ]
    refine wpAnyH_take (i := 12) (oi := ⟨some 32, Op.pick (Operand.tmp 26) (Operand.const (Value.bool true)) (Operand.tmp 31), 4, _, _, some (3, true)⟩) (v := undef) rfl (by kernel_rfl) (by kernel_rfl) (by kernel_rfl) (fun _ _ _ h => h) (Or.inr ⟨by rfl, rfl⟩) hHeld ?z12n5k13
    try simp only [Act.put, List.setIfInBounds_toArray, List.set_cons_zero, List.set_cons_succ]
    refine wpAnyH_take (i := 13) (oi := ⟨some 33, Op.pick (Operand.tmp 23) (Operand.tmp 32) (Operand.const (Value.bool false)), 4, _, _, none⟩) (v := ?v13n5k14) rfl (by kernel_rfl) (by kernel_rfl) (by kernel_rfl) (fun _ _ _ h => h) (Or.inl ⟨by rfl, ?y13n5k14⟩) hHeld ?z13n5k14
    case y13n5k14 => intro w hSw; (try dsimp only at hSw); go_simp <;> rfl
    try simp only [Act.put, List.setIfInBounds_toArray, List.set_cons_zero, List.set_cons_succ]
    refine wpAnyH_take (i := 14) (oi := ⟨some 34, Op.move (Operand.tmp 33), 4, _, _, none⟩) (v := ?v14n5k15) rfl (by kernel_rfl) (by kernel_rfl) (by kernel_rfl) (fun _ _ _ h => h) (Or.inl ⟨by rfl, ?y14n5k15⟩) hHeld ?z14n5k15
    case y14n5k15 => intro w hSw; (try dsimp only at hSw); go_simp <;> rfl
    try simp only [Act.put, List.setIfInBounds_toArray, List.set_cons_zero, List.set_cons_succ]
    refine wpAnyH_take (i := 15) (oi := ⟨some 35, Op.move (Operand.tmp 0), 22, _, _, some (14, false)⟩) (v := ?v15n5k16) rfl (by kernel_rfl) (by kernel_rfl) (by kernel_rfl) (fun _ _ _ h => h) (Or.inl ⟨by rfl, ?y15n5k16⟩) hHeld ?z15n5k16
    case y15n5k16 => intro w hSw; (try dsimp only at hSw); go_simp <;> rfl
    try simp only [Act.put, List.setIfInBounds_toArray, List.set_cons_zero, List.set_cons_succ]
    refine wpAnyH_take (i := 16) (oi := ⟨some 36, Op.call { callee := Callee.builtin Builtin.len, args := #[Operand.tmp 35], argTypes := #[22] }, 3, _, _, some (14, false)⟩) (v := ?v16n5k17) rfl (by kernel_rfl) (by kernel_rfl) (by kernel_rfl) (fun _ _ _ h => h) (Or.inl ⟨by rfl, ?y16n5k17⟩) hHeld ?z16n5k17
    case y16n5k17 => intro w hSw; (try dsimp only at hSw); go_simp <;> rfl
    try simp only [Act.put, List.setIfInBounds_toArray, List.set_cons_zero, List.set_cons_succ]
    refine wpAnyH_take (i := 17) (oi := ⟨some 37, Op.binOp BinOp.gtr 3 (Operand.tmp 36) (Operand.const (Value.int IntKind.i64 16384)) 3, 4, _, _, some (14, false)⟩) (v := ?v17n5k18) rfl (by kernel_rfl) (by kernel_rfl) (by kernel_rfl) (fun _ _ _ h => h) (Or.inl ⟨by rfl, ?y17n5k18⟩) hHeld ?z17n5k18
    case y17n5k18 => intro w hSw; (try dsimp only at hSw); go_simp <;> rfl
    try simp only [Act.put, List.setIfInBounds_toArray, List.set_cons_zero, List.set_cons_succ]
    refine wpAnyH_take (i := 18) (oi := ⟨some 38, Op.move (Operand.tmp 37), 4, _, _, some (14, false)⟩) (v := ?v18n5k19) rfl (by kernel_rfl) (by kernel_rfl) (by kernel_rfl) (fun _ _ _ h => h) (Or.inl ⟨by rfl, ?y18n5k19⟩) hHeld ?z18n5k19
    case y18n5k19 => intro w hSw; (try dsimp only at hSw); go_simp <;> rfl
    try simp only [Act.put, List.setIfInBounds_toArray, List.set_cons_zero, List.set_cons_succ]
    refine wpAnyH_take (i := 19) (oi := ⟨some 39, Op.move (Operand.tmp 6), 25, _, _, some (18, true)⟩) (v := ?v19n5k20) rfl (by kernel_rfl) (by kernel_rfl) (by kernel_rfl) (fun _ _ _ h => h) (Or.inl ⟨by rfl, ?y19n5k20⟩) hHeld ?z19n5k20
    case y19n5k20 => intro w hSw; (try dsimp only at hSw); go_simp <;> rfl
    try simp only [Act.put, List.setIfInBounds_toArray, List.set_cons_zero, List.set_cons_succ]
    refine wpAnyH_take (i := 20) (oi := ⟨some 40, Op.binOp BinOp.neq 25 (Operand.tmp 39) (Operand.const (Value.int IntKind.i64 4)) 25, 4, _, _, some (18, true)⟩) (v := ?v20n5k21) rfl (by kernel_rfl) (by kernel_rfl) (by kernel_rfl) (fun _ _ _ h => h) (Or.inl ⟨by rfl, ?y20n5k21⟩) hHeld ?z20n5k21
    case y20n5k21 => intro w hSw; (try dsimp only at hSw); go_simp <;> rfl
    try simp only [Act.put, List.setIfInBounds_toArray, List.set_cons_zero, List.set_cons_succ]
    refine wpAnyH_take (i := 21) (oi := ⟨some 41, Op.move (Operand.tmp 40), 4, _, _, some (18, true)⟩) (v := ?v21n5k22) rfl (by kernel_rfl) (by kernel_rfl) (by kernel_rfl) (fun _ _ _ h => h) (Or.inl ⟨by rfl, ?y21n5k22⟩) hHeld ?z21n5k22
    case y21n5k22 => intro w hSw; (try dsimp only at hSw); go_simp <;> rfl
    try simp only [Act.put, List.setIfInBounds_toArray, List.set_cons_zero, List.set_cons_succ]
    refine wpAnyH_take (i := 22) (oi := ⟨some 42, Op.move (Operand.tmp 5), 22, _, _, some (21, false)⟩) (v := ?v22n5k23) rfl (by kernel_rfl) (by kernel_rfl) (by kernel_rfl) (fun _ _ _ h => h) (Or.inl ⟨by rfl, ?y22n5k23⟩) hHeld ?z22n5k23
    case y22n5k23 => intro w hSw; (try dsimp only at hSw); go_simp <;> rfl
    try simp only [Act.put, List.setIfInBounds_toArray, List.set_cons_zero, List.set_cons_succ]
    refine wpAnyH_take (i := 23) (oi := ⟨some 43, Op.call { callee := Callee.builtin Builtin.len, args := #[Operand.tmp 42], argTypes := #[22] }, 3, _, _, some (21, false)⟩) (v := ?v23n5k24) rfl (by kernel_rfl) (by kernel_rfl) (by kernel_rfl) (fun _ _ _ h => h) (Or.inl ⟨by rfl, ?y23n5k24⟩) hHeld ?z23n5k24
    case y23n5k24 => intro w hSw; (try dsimp only at hSw); go_simp <;> rfl
    try simp only [Act.put, List.setIfInBounds_toArray, List.set_cons_zero, List.set_cons_succ]
    refine wpAnyH_take (i := 24) (oi := ⟨some 44, Op.binOp BinOp.neq 3 (Operand.tmp 43) (Operand.const (Value.int IntKind.i64 0)) 3, 4, _, _, some (21, false)⟩) (v := ?v24n5k25) rfl (by kernel_rfl) (by kernel_rfl) (by kernel_rfl) (fun _ _ _ h => h) (Or.inl ⟨by rfl, ?y24n5k25⟩) hHeld ?z24n5k25
    case y24n5k25 => intro w hSw; (try dsimp only at hSw); go_simp <;> rfl
    try simp only [Act.put, List.setIfInBounds_toArray, List.set_cons_zero, List.set_cons_succ]
    refine wpAnyH_take (i := 25) (oi := ⟨some 45, Op.pick (Operand.tmp 41) (Operand.const (Value.bool true)) (Operand.tmp 44), 4, _, _, some (18, true)⟩) (v := ?v25n5k26) rfl (by kernel_rfl) (by kernel_rfl) (by kernel_rfl) (fun _ _ _ h => h) (Or.inl ⟨by rfl, ?y25n5k26⟩) hHeld ?z25n5k26
    case y25n5k26 => intro w hSw; (try dsimp only at hSw); go_simp <;> rfl
    try simp only [Act.put, List.setIfInBounds_toArray, List.set_cons_zero, List.set_cons_succ]
    refine wpAnyH_take (i := 26) (oi := ⟨some 46, Op.pick (Operand.tmp 38) (Operand.tmp 45) (Operand.const (Value.bool false)), 4, _, _, some (14, false)⟩) (v := ?v26n5k27) rfl (by kernel_rfl) (by kernel_rfl) (by kernel_rfl) (fun _ _ _ h => h) (Or.inl ⟨by rfl, ?y26n5k27⟩) hHeld ?z26n5k27
    case y26n5k27 => intro w hSw; (try dsimp only at hSw); go_simp <;> rfl
    try simp only [Act.put, List.setIfInBounds_toArray, List.set_cons_zero, List.set_cons_succ]
    refine wpAnyH_take (i := 27) (oi := ⟨some 47, Op.pick (Operand.tmp 34) (Operand.const (Value.bool true)) (Operand.tmp 46), 4, _, _, none⟩) (v := ?v27n5k28) rfl (by kernel_rfl) (by kernel_rfl) (by kernel_rfl) (fun _ _ _ h => h) (Or.inl ⟨by rfl, ?y27n5k28⟩) hHeld ?z27n5k28
    case y27n5k28 => intro w hSw; (try dsimp only at hSw); go_simp <;> rfl
    try simp only [Act.put, List.setIfInBounds_toArray, List.set_cons_zero, List.set_cons_succ]
    refine wpAnyH_done (by kernel_rfl) ?_ _
    refine NoPanic.normal ?_
    clear ni ni2
    go_wp2_with (refine wpList_make rfl 22 5 _ _ rfl (.int .u8 0) Try.underlying22 Try.infoU8 rfl .i64 .i64 Z Z rfl rfl (Nat.le_refl _) (by omega) ?_)
    intro w5 o5 k5 _
    have eZ : List.replicate Z (Value.int IntKind.u8 0) = (List.replicate Z (0 : UInt8)).map bv := by rw [List.map_replicate]; rfl
    rw [eZ] at o5
    obtain ⟨zs, hzs⟩ : ∃ zs, zs = List.replicate Z (0 : UInt8) := ⟨_, rfl⟩
    have hzl : zs.length = Z := by rw [hzs, List.length_replicate]
    rw [← hzs] at o5
    have l5 := Lies.of_own (F := fun _ => True) o5 (fun _ _ => trivial)
    have kk5 := k2.step k5
    obtain ⟨B5, hB5⟩ : ∃ B5, B5 = w1.heap.size := ⟨_, rfl⟩
    rw [← hB5] at l5 ⊢
    clear o5 hB5 eZ hzs hmod hsum hv
    have HZL := Lib.hid hzl; clear hzl
    by_cases hbig : 16384 < Z
    · go_wp2_with fail
      refine (make_full _ Z Z w5 hbig).mono ?_
      rintro e w6 ⟨rfl, rfl⟩
      go_wp2
      go_ret
      exact ⟨rfl, kk5⟩
    · go_wp2_with fail
      refine (make_any _ _ Z Z zs w5 l5 HZL.out (by omega)).mono ?_
      rintro e w6 ⟨A6, c6, rfl, o6, k6⟩
      have l6 := Lies.of_own (F := fun _ => True) o6 (fun _ _ => trivial)
      have hcap : Z + 9 ≤ c6 := by obtain ⟨_, _, e, hle⟩ := own_form o6; injection e with _ _ e; omega
      clear o6
      have l56 := l5.keep k6 (fun _ _ h => h)
      clear l5
      go_wp2_with fail
      refine (fone_any _ _ (Z + 9) c6 (frm zs) w6 l6 (by rw [frm_length, HZL.out]) (by omega) hcap).mono ?_
      have e1 := rd_frm zs [] (by rw [HZL.out]; omega)
      rw [List.append_nil] at e1
      rw [e1, HZL.out]
      rintro e w7 ⟨A7, c7, rfl, o7, k7⟩
      have l7 := Lies.of_own (F := fun _ => True) o7 (fun _ _ => trivial)
      have v7 := run_str l7 HZL.out
      have v5 := run_str (l56.keep k7 (fun _ _ h => h)) HZL.out
      obtain ⟨S, hS⟩ : ∃ S, S = str zs := ⟨_, rfl⟩
      rw [← hS] at v7 v5
      clear o7 l7 l56 l6 hS e1
      go_wp2
      go_ret
      exact ⟨rfl, (kk5.step k6).step k7⟩
  · go_wp2_with fail
    refine (make_any F a n c l w1 h1 HL.out (by omega)).mono ?_
    rintro e w2 ⟨A2, c2, rfl, o2, k2⟩
    have l2 := Lies.of_own (F := fun _ => True) o2 (fun _ _ => trivial)
    have v2 := run_str (l2.keep (Kept.drew noBlock w2) (fun _ _ h => h)) (by rw [frm_length, HL.out])
    obtain ⟨X, hX⟩ : ∃ X, X = str (frm l) := ⟨_, rfl⟩
    rw [← hX] at v2
    obtain ⟨N, hN⟩ : ∃ N, N = n + 9 := ⟨_, rfl⟩
    rw [← hN] at v2 ⊢
    have HX := Lib.hid hX; clear hX
    have HN := Lib.hid hN; clear hN
    clear o2
    have h2 := (h1.keep k2 (fun _ _ h => h)).keep (Kept.drew noBlock w2) (fun _ _ h => h)
    have kd := k2.step (Kept.drew noBlock w2)
    have l2d := l2.keep (Kept.drew noBlock w2) (fun _ _ h => h)
    go_upto_region 4 with (fail)
    have ni : (n : Int) ≤ 16384 := by omega
    have ni2 : decide ((16384 : Int) < (n : Int)) = false := decide_eq_false (by omega)
    refine wp_region_noPanic ?_
    refine wp_region_held_drew (S := fun w' => ∀ c, (convert 22 9 (.slice A2 N c)).run Try.prog w' = .ok (.string X) w') (by kernel_rfl) v2 (fun hHeld => ?_)
    refine wpAnyH_take (i := 0) (oi := ⟨some 20, Op.move (Operand.tmp 0), 22, _, _, none⟩) (v := ?v0n6k1) rfl (by kernel_rfl) (by kernel_rfl) (by kernel_rfl) (fun _ _ _ h => h) (Or.inl ⟨by rfl, ?y0n6k1⟩) hHeld ?z0n6k1
    case y0n6k1 => intro w hSw; (try dsimp only at hSw); go_simp <;> rfl
    try simp only [Act.put, List.setIfInBounds_toArray, List.set_cons_zero, List.set_cons_succ]
    refine wpAnyH_take (i := 1) (oi := ⟨some 21, Op.call { callee := Callee.builtin Builtin.len, args := #[Operand.tmp 20], argTypes := #[22] }, 3, _, _, none⟩) (v := ?v1n6k2) rfl (by kernel_rfl) (by kernel_rfl) (by kernel_rfl) (fun _ _ _ h => h) (Or.inl ⟨by rfl, ?y1n6k2⟩) hHeld ?z1n6k2
    case y1n6k2 => intro w hSw; (try dsimp only at hSw); go_simp <;> rfl
    try simp only [Act.put, List.setIfInBounds_toArray, List.set_cons_zero, List.set_cons_succ]
    refine wpAnyH_take (i := 2) (oi := ⟨some 22, Op.binOp BinOp.leq 3 (Operand.tmp 21) (Operand.const (Value.int IntKind.i64 16384)) 3, 4, _, _, none⟩) (v := ?v2n6k3) rfl (by kernel_rfl) (by kernel_rfl) (by kernel_rfl) (fun _ _ _ h => h) (Or.inl ⟨by rfl, ?y2n6k3⟩) hHeld ?z2n6k3
    case y2n6k3 => intro w hSw; (try dsimp only at hSw); go_simp <;> rfl
    try simp only [Act.put, List.setIfInBounds_toArray, List.set_cons_zero, List.set_cons_succ]
    refine wpAnyH_take (i := 3) (oi := ⟨some 23, Op.move (Operand.tmp 22), 4, _, _, none⟩) (v := ?v3n6k4) rfl (by kernel_rfl) (by kernel_rfl) (by kernel_rfl) (fun _ _ _ h => h) (Or.inl ⟨by rfl, ?y3n6k4⟩) hHeld ?z3n6k4
    case y3n6k4 => intro w hSw; (try dsimp only at hSw); go_simp <;> rfl
    try simp only [Act.put, List.setIfInBounds_toArray, List.set_cons_zero, List.set_cons_succ]
    refine wpAnyH_take (i := 4) (oi := ⟨some 24, Op.move (Operand.tmp 6), 25, _, _, some (3, true)⟩) (v := ?v4n6k5) rfl (by kernel_rfl) (by kernel_rfl) (by kernel_rfl) (fun _ _ _ h => h) (Or.inl ⟨by rfl, ?y4n6k5⟩) hHeld ?z4n6k5
    case y4n6k5 => intro w hSw; (try dsimp only at hSw); go_simp <;> rfl
    try simp only [Act.put, List.setIfInBounds_toArray, List.set_cons_zero, List.set_cons_succ]
    refine wpAnyH_take (i := 5) (oi := ⟨some 25, Op.binOp BinOp.neq 25 (Operand.tmp 24) (Operand.const (Value.int IntKind.i64 0)) 25, 4, _, _, some (3, true)⟩) (v := ?v5n6k6) rfl (by kernel_rfl) (by kernel_rfl) (by kernel_rfl) (fun _ _ _ h => h) (Or.inl ⟨by rfl, ?y5n6k6⟩) hHeld ?z5n6k6
    case y5n6k6 => intro w hSw; (try dsimp only at hSw); go_simp <;> rfl
    try simp only [Act.put, List.setIfInBounds_toArray, List.set_cons_zero, List.set_cons_succ]
    refine wpAnyH_take (i := 6) (oi := ⟨some 26, Op.move (Operand.tmp 25), 4, _, _, some (3, true)⟩) (v := ?v6n6k7) rfl (by kernel_rfl) (by kernel_rfl) (by kernel_rfl) (fun _ _ _ h => h) (Or.inl ⟨by rfl, ?y6n6k7⟩) hHeld ?z6n6k7
    case y6n6k7 => intro w hSw; (try dsimp only at hSw); go_simp <;> rfl
    try simp only [Act.put, List.setIfInBounds_toArray, List.set_cons_zero, List.set_cons_succ]
    refine wpAnyH_take (i := 7) (oi := ⟨some 27, Op.move (Operand.tmp 5), 22, _, _, some (6, false)⟩) (v := ?v7n6k8) rfl (by kernel_rfl) (by kernel_rfl) (by kernel_rfl) (fun _ _ _ h => h) (Or.inl ⟨by rfl, ?y7n6k8⟩) hHeld ?z7n6k8
    case y7n6k8 => intro w hSw; (try dsimp only at hSw); go_simp <;> rfl
    try simp only [Act.put, List.setIfInBounds_toArray, List.set_cons_zero, List.set_cons_succ]
    refine wpAnyH_take (i := 8) (oi := ⟨some 28, Op.convert 22 9 (Operand.tmp 27), 9, _, _, some (6, false)⟩) (v := ?v8n6k9) rfl (by kernel_rfl) (by kernel_rfl) (by kernel_rfl) (fun _ _ _ h => h) (Or.inl ⟨by rfl, ?y8n6k9⟩) hHeld ?z8n6k9
    case y8n6k9 => intro w hSw; (try dsimp only at hSw); go_simp <;> rfl
    try simp only [Act.put, List.setIfInBounds_toArray, List.set_cons_zero, List.set_cons_succ]
    refine wpAnyH_take (i := 9) (oi := ⟨some 29, Op.move (Operand.tmp 0), 22, _, _, some (6, false)⟩) (v := ?v9n6k10) rfl (by kernel_rfl) (by kernel_rfl) (by kernel_rfl) (fun _ _ _ h => h) (Or.inl ⟨by rfl, ?y9n6k10⟩) hHeld ?z9n6k10
    case y9n6k10 => intro w hSw; (try dsimp only at hSw); go_simp <;> rfl
    try simp only [Act.put, List.setIfInBounds_toArray, List.set_cons_zero, List.set_cons_succ]
    refine wpAnyH_ready (rs := [10]) (by kernel_rfl) (by simp) ?_
    refine AllReadyH.cons (o := ⟨some 30, Op.call { callee := Callee.value (Operand.func 13), args := #[Operand.tmp 29], argTypes := #[22] }, 9, _, _, some (6, false)⟩) rfl (fun K hK => ?_) AllReadyH.nil
    go_simp
    refine (form_any F a n c l _ h2 HL.out (by omega)).mono ?_
    rw [← HX.out]
    rintro e w4 ⟨rfl, k4⟩
    have v4 := run_str (l2d.keep k4 (fun _ _ h => h)) (n := N) (by rw [frm_length, HL.out, HN.out])
    rw [← HX.out] at v4
    dsimp only
    refine hK.out _ _ v4 (fun hHeld => ?_)
    clear hK K
    try simp only [Act.put, List.setIfInBounds_toArray, List.set_cons_zero, List.set_cons_succ]
    refine wpAnyH_take (i := 11) (oi := ⟨some 31, Op.binOp BinOp.neq 9 (Operand.tmp 28) (Operand.tmp 30) 9, 4, _, _, some (6, false)⟩) (v := ?v11n6k11) rfl (by kernel_rfl) (by kernel_rfl) (by kernel_rfl) (fun _ _ _ h => h) (Or.inl ⟨by rfl, ?y11n6k11⟩) hHeld ?z11n6k11
    case y11n6k11 => intro w hSw; (try dsimp only at hSw); go_simp <;> rfl
    try simp only [Act.put, List.setIfInBounds_toArray, List.set_cons_zero, List.set_cons_succ]
    refine wpAnyH_take (i := 12) (oi := ⟨some 32, Op.pick (Operand.tmp 26) (Operand.const (Value.bool true)) (Operand.tmp 31), 4, _, _, some (3, true)⟩) (v := ?v12n6k12) rfl (by kernel_rfl) (by kernel_rfl) (by kernel_rfl) (fun _ _ _ h => h) (Or.inl ⟨by rfl, ?y12n6k12⟩) hHeld ?z12n6k12
    case y12n6k12 => intro w hSw; (try dsimp only at hSw); go_simp <;> rfl
    try simp only [Act.put, List.setIfInBounds_toArray, List.set_cons_zero, List.set_cons_succ]
    refine wpAnyH_take (i := 13) (oi := ⟨some 33, Op.pick (Operand.tmp 23) (Operand.tmp 32) (Operand.const (Value.bool false)), 4, _, _, none⟩) (v := ?v13n6k13) rfl (by kernel_rfl) (by kernel_rfl) (by kernel_rfl) (fun _ _ _ h => h) (Or.inl ⟨by rfl, ?y13n6k13⟩) hHeld ?z13n6k13
    case y13n6k13 => intro w hSw; (try dsimp only at hSw); go_simp <;> rfl
    try simp only [Act.put, List.setIfInBounds_toArray, List.set_cons_zero, List.set_cons_succ]
    refine wpAnyH_take (i := 14) (oi := ⟨some 34, Op.move (Operand.tmp 33), 4, _, _, none⟩) (v := ?v14n6k14) rfl (by kernel_rfl) (by kernel_rfl) (by kernel_rfl) (fun _ _ _ h => h) (Or.inl ⟨by rfl, ?y14n6k14⟩) hHeld ?z14n6k14
    case y14n6k14 => intro w hSw; (try dsimp only at hSw); go_simp <;> rfl
    try simp only [Act.put, List.setIfInBounds_toArray, List.set_cons_zero, List.set_cons_succ]
    refine wpAnyH_take (i := 15) (oi := ⟨some 35, Op.move (Operand.tmp 0), 22, _, _, some (14, false)⟩) (v := ?v15n6k15) rfl (by kernel_rfl) (by kernel_rfl) (by kernel_rfl) (fun _ _ _ h => h) (Or.inl ⟨by rfl, ?y15n6k15⟩) hHeld ?z15n6k15
    case y15n6k15 => intro w hSw; (try dsimp only at hSw); go_simp <;> rfl
    try simp only [Act.put, List.setIfInBounds_toArray, List.set_cons_zero, List.set_cons_succ]
    refine wpAnyH_take (i := 16) (oi := ⟨some 36, Op.call { callee := Callee.builtin Builtin.len, args := #[Operand.tmp 35], argTypes := #[22] }, 3, _, _, some (14, false)⟩) (v := ?v16n6k16) rfl (by kernel_rfl) (by kernel_rfl) (by kernel_rfl) (fun _ _ _ h => h) (Or.inl ⟨by rfl, ?y16n6k16⟩) hHeld ?z16n6k16
    case y16n6k16 => intro w hSw; (try dsimp only at hSw); go_simp <;> rfl
    try simp only [Act.put, List.setIfInBounds_toArray, List.set_cons_zero, List.set_cons_succ]
    refine wpAnyH_take (i := 17) (oi := ⟨some 37, Op.binOp BinOp.gtr 3 (Operand.tmp 36) (Operand.const (Value.int IntKind.i64 16384)) 3, 4, _, _, some (14, false)⟩) (v := ?v17n6k17) rfl (by kernel_rfl) (by kernel_rfl) (by kernel_rfl) (fun _ _ _ h => h) (Or.inl ⟨by rfl, ?y17n6k17⟩) hHeld ?z17n6k17
    case y17n6k17 => intro w hSw; (try dsimp only at hSw); go_simp <;> rfl
    try simp only [Act.put, List.setIfInBounds_toArray, List.set_cons_zero, List.set_cons_succ]
    refine wpAnyH_take (i := 18) (oi := ⟨some 38, Op.move (Operand.tmp 37), 4, _, _, some (14, false)⟩) (v := ?v18n6k18) rfl (by kernel_rfl) (by kernel_rfl) (by kernel_rfl) (fun _ _ _ h => h) (Or.inl ⟨by rfl, ?y18n6k18⟩) hHeld ?z18n6k18
    case y18n6k18 => intro w hSw; (try dsimp only at hSw); go_simp <;> rfl
    try simp only [Act.put, List.setIfInBounds_toArray, List.set_cons_zero, List.set_cons_succ]
    refine wpAnyH_take (i := 19) (oi := ⟨some 39, Op.move (Operand.tmp 6), 25, _, _, some (18, true)⟩) (v := undef) rfl (by kernel_rfl) (by kernel_rfl) (by kernel_rfl) (fun _ _ _ h => h) (Or.inr ⟨by rfl, rfl⟩) hHeld ?z19n6k19
    try simp only [Act.put, List.setIfInBounds_toArray, List.set_cons_zero, List.set_cons_succ]
    refine wpAnyH_take (i := 20) (oi := ⟨some 40, Op.binOp BinOp.neq 25 (Operand.tmp 39) (Operand.const (Value.int IntKind.i64 4)) 25, 4, _, _, some (18, true)⟩) (v := undef) rfl (by kernel_rfl) (by kernel_rfl) (by kernel_rfl) (fun _ _ _ h => h) (Or.inr ⟨by rfl, rfl⟩) hHeld ?z20n6k20
    try simp only [Act.put, List.setIfInBounds_toArray, List.set_cons_zero, List.set_cons_succ]
    refine wpAnyH_take (i := 21) (oi := ⟨some 41, Op.move (Operand.tmp 40), 4, _, _, some (18, true)⟩) (v := undef) rfl (by kernel_rfl) (by kernel_rfl) (by kernel_rfl) (fun _ _ _ h => h) (Or.inr ⟨by rfl, rfl⟩) hHeld ?z21n6k21
    try simp only [Act.put, List.setIfInBounds_toArray, List.set_cons_zero, List.set_cons_succ]
    refine wpAnyH_take (i := 22) (oi := ⟨some 42, Op.move (Operand.tmp 5), 22, _, _, some (21, false)⟩) (v := undef) rfl (by kernel_rfl) (by kernel_rfl) (by kernel_rfl) (fun _ _ _ h => h) (Or.inr ⟨by rfl, rfl⟩) hHeld ?z22n6k22
    try simp only [Act.put, List.setIfInBounds_toArray, List.set_cons_zero, List.set_cons_succ]
    refine wpAnyH_take (i := 23) (oi := ⟨some 43, Op.call { callee := Callee.builtin Builtin.len, args := #[Operand.tmp 42], argTypes := #[22] }, 3, _, _, some (21, false)⟩) (v := undef) rfl (by kernel_rfl) (by kernel_rfl) (by kernel_rfl) (fun _ _ _ h => h) (Or.inr ⟨by rfl, rfl⟩) hHeld ?z23n6k23
    try simp only [Act.put, List.setIfInBounds_toArray, List.set_cons_zero, List.set_cons_succ]
    refine wpAnyH_take (i := 24) (oi := ⟨some 44, Op.binOp BinOp.neq 3 (Operand.tmp 43) (Operand.const (Value.int IntKind.i64 0)) 3, 4, _, _, some (21, false)⟩) (v := undef) rfl (by kernel_rfl) (by kernel_rfl) (by kernel_rfl) (fun _ _ _ h => h) (Or.inr ⟨by rfl, rfl⟩) hHeld ?z24n6k24
    try simp only [Act.put, List.setIfInBounds_toArray, List.set_cons_zero, List.set_cons_succ]
    refine wpAnyH_take (i := 25) (oi := ⟨some 45, Op.pick (Operand.tmp 41) (Operand.const (Value.bool true)) (Operand.tmp 44), 4, _, _, some (18, true)⟩) (v := undef) rfl (by kernel_rfl) (by kernel_rfl) (by kernel_rfl) (fun _ _ _ h => h) (Or.inr ⟨by rfl, rfl⟩) hHeld ?z25n6k25
    try simp only [Act.put, List.setIfInBounds_toArray, List.set_cons_zero, List.set_cons_succ]
    refine wpAnyH_take (i := 26) (oi := ⟨some 46, Op.pick (Operand.tmp 38) (Operand.tmp 45) (Operand.const (Value.bool false)), 4, _, _, some (14, false)⟩) (v := ?v26n6k26) rfl (by kernel_rfl) (by kernel_rfl) (by kernel_rfl) (fun _ _ _ h => h) (Or.inl ⟨by rfl, ?y26n6k26⟩) hHeld ?z26n6k26
    case y26n6k26 => intro w hSw; (try dsimp only at hSw); go_simp <;> rfl
    try simp only [Act.put, List.setIfInBounds_toArray, List.set_cons_zero, List.set_cons_succ]
    refine wpAnyH_take (i := 27) (oi := ⟨some 47, Op.pick (Operand.tmp 34) (Operand.const (Value.bool true)) (Operand.tmp 46), 4, _, _, none⟩) (v := ?v27n6k27) rfl (by kernel_rfl) (by kernel_rfl) (by kernel_rfl) (fun _ _ _ h => h) (Or.inl ⟨by rfl, ?y27n6k27⟩) hHeld ?z27n6k27
    case y27n6k27 => intro w hSw; (try dsimp only at hSw); go_simp <;> rfl
    try simp only [Act.put, List.setIfInBounds_toArray, List.set_cons_zero, List.set_cons_succ]
    refine wpAnyH_done (by kernel_rfl) ?_ _
    refine NoPanic.normal ?_
    have k24 := (k1.step kd).step k4
    clear l2 l2d v2 v4 k2 kd k4 h2 h1 ni ni2
    go_wp2_with (refine wpList_make rfl 22 5 _ _ rfl (.int .u8 0) Try.underlying22 Try.infoU8 rfl .i64 .i64 Z Z rfl rfl (Nat.le_refl _) (by omega) ?_)
    intro w5 o5 k5 _
    have eZ : List.replicate Z (Value.int IntKind.u8 0) = (List.replicate Z (0 : UInt8)).map bv := by rw [List.map_replicate]; rfl
    rw [eZ] at o5
    obtain ⟨zs, hzs⟩ : ∃ zs, zs = List.replicate Z (0 : UInt8) := ⟨_, rfl⟩
    have hzl : zs.length = Z := by rw [hzs, List.length_replicate]
    rw [← hzs] at o5
    have l5 := Lies.of_own (F := fun _ => True) o5 (fun _ _ => trivial)
    have kk5 := k24.step k5
    obtain ⟨B5, hB5⟩ : ∃ B5, B5 = w4.heap.size := ⟨_, rfl⟩
    rw [← hB5] at l5 ⊢
    clear o5 hB5 eZ hzs hmod hsum hv
    have HZL := Lib.hid hzl; clear hzl
    by_cases hbig : 16384 < Z
    · go_wp2_with fail
      refine (make_full _ Z Z w5 hbig).mono ?_
      rintro e w6 ⟨rfl, rfl⟩
      go_wp2
      go_ret
      exact ⟨rfl, kk5⟩
    · go_wp2_with fail
      refine (make_any _ _ Z Z zs w5 l5 HZL.out (by omega)).mono ?_
      rintro e w6 ⟨A6, c6, rfl, o6, k6⟩
      have l6 := Lies.of_own (F := fun _ => True) o6 (fun _ _ => trivial)
      have hcap : Z + 9 ≤ c6 := by obtain ⟨_, _, e, hle⟩ := own_form o6; injection e with _ _ e; omega
      clear o6
      have l56 := l5.keep k6 (fun _ _ h => h)
      clear l5
      go_wp2_with fail
      refine (fone_any _ _ (Z + 9) c6 (frm zs) w6 l6 (by rw [frm_length, HZL.out]) (by omega) hcap).mono ?_
      have e1 := rd_frm zs [] (by rw [HZL.out]; omega)
      rw [List.append_nil] at e1
      rw [e1, HZL.out]
      rintro e w7 ⟨A7, c7, rfl, o7, k7⟩
      have l7 := Lies.of_own (F := fun _ => True) o7 (fun _ _ => trivial)
      have v7 := run_str l7 HZL.out
      have v5 := run_str (l56.keep k7 (fun _ _ h => h)) HZL.out
      obtain ⟨S, hS⟩ : ∃ S, S = str zs := ⟨_, rfl⟩
      rw [← hS] at v7 v5
      clear o7 l7 l56 l6 hS e1
      go_wp2
      go_ret
      exact ⟨rfl, (kk5.step k6).step k7⟩

end Go.Proofs.Ythankjgebaanpaa
