/-
  FrameApart: what it does with whatever bytes. No statement is proved here.
-/
import Derived.Test.YthankjgebaanpaaL3Awake
namespace Go.Proofs.Ythankjgebaanpaa
open Go.RowKit

set_option maxRecDepth 100000 in
set_option maxHeartbeats 2000000 in
theorem apart_walk (F : Nat → Prop) (a b : Option Addr) (n c n' c' : Nat) (l l' : List UInt8) (w : World) (h : Lies w F a (l.map bv)) (h' : Lies w F b (l'.map bv)) (hl : l.length = n) (hl' : l'.length = n') (hc : n ≤ c) (hc' : n' ≤ c') :
    Calls Try.prog 10 #[.slice a n c, .slice b n' c'] w fun e w' => e = .returned (.bool true) ∧ Kept noBlock w w' := by
  obtain ⟨m, hm⟩ : ∃ m, m = min n 16384 := ⟨_, rfl⟩
  obtain ⟨m', hm'⟩ : ∃ m', m' = min n' 16384 := ⟨_, rfl⟩
  have q1 : (if (16384 : Int) < (n : Int) then (16384 : Int) else (n : Int)) = (m : Int) := by split <;> omega
  have q2 : (if (16384 : Int) < (n' : Int) then (16384 : Int) else (n' : Int)) = (m' : Int) := by split <;> omega
  have i1 : (m : Int) ≤ c := by omega
  have i2 : (m' : Int) ≤ c' := by omega
  have hmn : m ≤ n ∧ m ≤ 16384 := by omega
  have hmn' : m' ≤ n' ∧ m' ≤ 16384 := by omega
  obtain ⟨u, hu⟩ : ∃ u, u = l.take m := ⟨_, rfl⟩
  obtain ⟨u', hu'⟩ : ∃ u', u' = l'.take m' := ⟨_, rfl⟩
  have hul : u.length = m := by rw [hu, List.length_take]; omega
  have hul' : u'.length = m' := by rw [hu', List.length_take]; omega
  have hL : Lies w F a (u.map bv) := by rw [hu, List.map_take]; exact h.take m
  have hL' : Lies w F b (u'.map bv) := by rw [hu', List.map_take]; exact h'.take m'
  have hb : u.length ≤ 16384 := by omega
  have hb' : u'.length ≤ 16384 := by omega
  have HU := Lib.hid hul; clear hul
  have HU' := Lib.hid hul'; clear hul'
  obtain ⟨N, hN⟩ : ∃ N, N = m + 9 := ⟨_, rfl⟩
  obtain ⟨N', hN'⟩ : ∃ N', N' = m' + 9 := ⟨_, rfl⟩
  have HFL : Hid ((frm u).length = N) := Lib.hid (by rw [frm_length, HU.out, hN])
  have HFL' : Hid ((frm u').length = N') := Lib.hid (by rw [frm_length, HU'.out, hN'])
  have mk := fun w1 k1 => make_any F a m c u w1 (hL.keep (S := noBlock) k1 (fun _ _ h => h)) HU.out (by omega)
  have mk' := fun w1 k1 => make_any F b m' c' u' w1 (hL'.keep (S := noBlock) k1 (fun _ _ h => h)) HU'.out (by omega)
  have cv := fun w1 k1 (k : Nat) => run_str (hL.keep (S := noBlock) (w' := w1) k1 (fun _ _ h => h)) HU.out k
  have cv' := fun w1 k1 (k : Nat) => run_str (hL'.keep (S := noBlock) (w' := w1) k1 (fun _ _ h => h)) HU'.out k
  rw [← hN] at mk
  rw [← hN'] at mk'
  have hpq : frm u = frm u' ↔ u = u' := ⟨fun h => frm_inj hb hb' h, fun h => by rw [h]⟩
  obtain ⟨X, hX⟩ : ∃ X, X = str (frm u) := ⟨_, rfl⟩
  obtain ⟨Y, hY⟩ : ∃ Y, Y = str (frm u') := ⟨_, rfl⟩
  obtain ⟨Z, hZ⟩ : ∃ Z, Z = str u := ⟨_, rfl⟩
  obtain ⟨V, hV⟩ : ∃ V, V = str u' := ⟨_, rfl⟩
  have hfin : ((X.toList == Y.toList) == (Z.toList == V.toList)) = true := by
    have e : ∀ p q : List UInt8, ((str p).toList == (str q).toList) = decide (p = q) := fun p q => by
      rw [ByteArray.toList_eq, ByteArray.toList_eq]
      by_cases h : p = q <;> simp [str, h]
    rw [hX, hY, hZ, hV, e, e]
    simp [hpq]
  rw [← hZ] at cv
  rw [← hV] at cv'
  have MK := Lib.hid mk; clear mk
  have MK' := Lib.hid mk'; clear mk'
  have CV := Lib.hid cv; clear cv
  have CV' := Lib.hid cv'; clear cv'
  have HX := Lib.hid hX; clear hX
  have HY := Lib.hid hY; clear hY
  clear h h' hL hL' hu hu' hl hl' hpq hb hb' hZ hV HU HU' hN hN' hmn hmn' hm hm' hc hc'
  go_enter Try.func10, Try.ntmps10
  go_wp2_with fail
  refine (awake_any w).mono ?_
  rintro e w1 ⟨rfl, k1⟩
  go_wp2_with fail
  refine (MK.out w1 k1).mono ?_
  rintro e w2 ⟨A2, c2, rfl, o2, k2⟩
  have l2 := Lies.of_own (F := fun _ => True) o2 (fun _ _ => trivial)
  clear o2
  go_wp2_with fail
  refine (MK'.out w2 (k1.step k2)).mono ?_
  rintro e w3 ⟨A3, c3, rfl, o3, k3⟩
  have l3 := Lies.of_own (F := fun _ => True) o3 (fun _ _ => trivial)
  clear o3
  have kk := ((k1.step k2).step k3).step (Kept.drew noBlock w3)
  have v1 := run_str ((l2.keep k3 (fun _ _ h => h)).keep (Kept.drew noBlock w3) (fun _ _ h => h)) HFL.out
  have v2 := run_str (l3.keep (Kept.drew noBlock w3) (fun _ _ h => h)) HFL'.out
  have v3 := CV.out w3.drew kk
  have v4 := CV'.out w3.drew kk
  rw [← HX.out] at v1
  rw [← HY.out] at v2
  clear l2 l3
  go_wp2_with fail
  refine wp_region_noPanic ?_
  refine wp_region_held_drew (S := fun w' => (∀ c, (convert 22 9 (.slice A2 N c)).run Try.prog w' = .ok (.string X) w') ∧ (∀ c, (convert 22 9 (.slice A3 N' c)).run Try.prog w' = .ok (.string Y) w') ∧ (∀ c, (convert 22 9 (.slice a m c)).run Try.prog w' = .ok (.string Z) w') ∧ (∀ c, (convert 22 9 (.slice b m' c)).run Try.prog w' = .ok (.string V) w')) (by kernel_rfl) ⟨v1, v2, v3, v4⟩ (fun hHeld => ?_)
  refine wpAnyH_take (i := 0) (oi := ⟨some 29, Op.move (Operand.tmp 6), 25, _, _, none⟩) (v := ?v0n4k1) rfl (by kernel_rfl) (by kernel_rfl) (by kernel_rfl) (fun _ _ _ h => h) (Or.inl ⟨by rfl, ?y0n4k1⟩) hHeld ?z0n4k1
  case y0n4k1 => intro w hSw; (try dsimp only at hSw); go_simp <;> rfl
  try simp only [Act.put, List.setIfInBounds_toArray, List.set_cons_zero, List.set_cons_succ]
  refine wpAnyH_take (i := 1) (oi := ⟨some 30, Op.binOp BinOp.eql 25 (Operand.tmp 29) (Operand.const (Value.int IntKind.i64 0)) 25, 4, _, _, none⟩) (v := ?v1n4k2) rfl (by kernel_rfl) (by kernel_rfl) (by kernel_rfl) (fun _ _ _ h => h) (Or.inl ⟨by rfl, ?y1n4k2⟩) hHeld ?z1n4k2
  case y1n4k2 => intro w hSw; (try dsimp only at hSw); go_simp <;> rfl
  try simp only [Act.put, List.setIfInBounds_toArray, List.set_cons_zero, List.set_cons_succ]
  refine wpAnyH_take (i := 2) (oi := ⟨some 31, Op.move (Operand.tmp 30), 4, _, _, none⟩) (v := ?v2n4k3) rfl (by kernel_rfl) (by kernel_rfl) (by kernel_rfl) (fun _ _ _ h => h) (Or.inl ⟨by rfl, ?y2n4k3⟩) hHeld ?z2n4k3
  case y2n4k3 => intro w hSw; (try dsimp only at hSw); go_simp <;> rfl
  try simp only [Act.put, List.setIfInBounds_toArray, List.set_cons_zero, List.set_cons_succ]
  refine wpAnyH_take (i := 3) (oi := ⟨some 32, Op.move (Operand.tmp 8), 25, _, _, some (2, true)⟩) (v := ?v3n4k4) rfl (by kernel_rfl) (by kernel_rfl) (by kernel_rfl) (fun _ _ _ h => h) (Or.inl ⟨by rfl, ?y3n4k4⟩) hHeld ?z3n4k4
  case y3n4k4 => intro w hSw; (try dsimp only at hSw); go_simp <;> rfl
  try simp only [Act.put, List.setIfInBounds_toArray, List.set_cons_zero, List.set_cons_succ]
  refine wpAnyH_take (i := 4) (oi := ⟨some 33, Op.binOp BinOp.eql 25 (Operand.tmp 32) (Operand.const (Value.int IntKind.i64 0)) 25, 4, _, _, some (2, true)⟩) (v := ?v4n4k5) rfl (by kernel_rfl) (by kernel_rfl) (by kernel_rfl) (fun _ _ _ h => h) (Or.inl ⟨by rfl, ?y4n4k5⟩) hHeld ?z4n4k5
  case y4n4k5 => intro w hSw; (try dsimp only at hSw); go_simp <;> rfl
  try simp only [Act.put, List.setIfInBounds_toArray, List.set_cons_zero, List.set_cons_succ]
  refine wpAnyH_take (i := 5) (oi := ⟨some 34, Op.pick (Operand.tmp 31) (Operand.tmp 33) (Operand.const (Value.bool false)), 4, _, _, none⟩) (v := ?v5n4k6) rfl (by kernel_rfl) (by kernel_rfl) (by kernel_rfl) (fun _ _ _ h => h) (Or.inl ⟨by rfl, ?y5n4k6⟩) hHeld ?z5n4k6
  case y5n4k6 => intro w hSw; (try dsimp only at hSw); go_simp <;> rfl
  try simp only [Act.put, List.setIfInBounds_toArray, List.set_cons_zero, List.set_cons_succ]
  refine wpAnyH_take (i := 6) (oi := ⟨some 35, Op.move (Operand.tmp 34), 4, _, _, none⟩) (v := ?v6n4k7) rfl (by kernel_rfl) (by kernel_rfl) (by kernel_rfl) (fun _ _ _ h => h) (Or.inl ⟨by rfl, ?y6n4k7⟩) hHeld ?z6n4k7
  case y6n4k7 => intro w hSw; (try dsimp only at hSw); go_simp <;> rfl
  try simp only [Act.put, List.setIfInBounds_toArray, List.set_cons_zero, List.set_cons_succ]
  refine wpAnyH_take (i := 7) (oi := ⟨some 36, Op.move (Operand.tmp 5), 22, _, _, some (6, true)⟩) (v := ?v7n4k8) rfl (by kernel_rfl) (by kernel_rfl) (by kernel_rfl) (fun _ _ _ h => h) (Or.inl ⟨by rfl, ?y7n4k8⟩) hHeld ?z7n4k8
  case y7n4k8 => intro w hSw; (try dsimp only at hSw); go_simp <;> rfl
  try simp only [Act.put, List.setIfInBounds_toArray, List.set_cons_zero, List.set_cons_succ]
  refine wpAnyH_take (i := 8) (oi := ⟨some 37, Op.convert 22 9 (Operand.tmp 36), 9, _, _, some (6, true)⟩) (v := ?v8n4k9) rfl (by kernel_rfl) (by kernel_rfl) (by kernel_rfl) (fun _ _ _ h => h) (Or.inl ⟨by rfl, ?y8n4k9⟩) hHeld ?z8n4k9
  case y8n4k9 => intro w hSw; (try dsimp only at hSw); go_simp <;> rfl
  try simp only [Act.put, List.setIfInBounds_toArray, List.set_cons_zero, List.set_cons_succ]
  refine wpAnyH_take (i := 9) (oi := ⟨some 38, Op.move (Operand.tmp 7), 22, _, _, some (6, true)⟩) (v := ?v9n4k10) rfl (by kernel_rfl) (by kernel_rfl) (by kernel_rfl) (fun _ _ _ h => h) (Or.inl ⟨by rfl, ?y9n4k10⟩) hHeld ?z9n4k10
  case y9n4k10 => intro w hSw; (try dsimp only at hSw); go_simp <;> rfl
  try simp only [Act.put, List.setIfInBounds_toArray, List.set_cons_zero, List.set_cons_succ]
  refine wpAnyH_take (i := 10) (oi := ⟨some 39, Op.convert 22 9 (Operand.tmp 38), 9, _, _, some (6, true)⟩) (v := ?v10n4k11) rfl (by kernel_rfl) (by kernel_rfl) (by kernel_rfl) (fun _ _ _ h => h) (Or.inl ⟨by rfl, ?y10n4k11⟩) hHeld ?z10n4k11
  case y10n4k11 => intro w hSw; (try dsimp only at hSw); go_simp <;> rfl
  try simp only [Act.put, List.setIfInBounds_toArray, List.set_cons_zero, List.set_cons_succ]
  refine wpAnyH_take (i := 11) (oi := ⟨some 40, Op.binOp BinOp.eql 9 (Operand.tmp 37) (Operand.tmp 39) 9, 4, _, _, some (6, true)⟩) (v := ?v11n4k12) rfl (by kernel_rfl) (by kernel_rfl) (by kernel_rfl) (fun _ _ _ h => h) (Or.inl ⟨by rfl, ?y11n4k12⟩) hHeld ?z11n4k12
  case y11n4k12 => intro w hSw; (try dsimp only at hSw); go_simp <;> rfl
  try simp only [Act.put, List.setIfInBounds_toArray, List.set_cons_zero, List.set_cons_succ]
  refine wpAnyH_take (i := 12) (oi := ⟨some 41, Op.move (Operand.tmp 0), 22, _, _, some (6, true)⟩) (v := ?v12n4k13) rfl (by kernel_rfl) (by kernel_rfl) (by kernel_rfl) (fun _ _ _ h => h) (Or.inl ⟨by rfl, ?y12n4k13⟩) hHeld ?z12n4k13
  case y12n4k13 => intro w hSw; (try dsimp only at hSw); go_simp <;> rfl
  try simp only [Act.put, List.setIfInBounds_toArray, List.set_cons_zero, List.set_cons_succ]
  refine wpAnyH_take (i := 13) (oi := ⟨some 42, Op.move (Operand.tmp 0), 22, _, _, some (6, true)⟩) (v := ?v13n4k14) rfl (by kernel_rfl) (by kernel_rfl) (by kernel_rfl) (fun _ _ _ h => h) (Or.inl ⟨by rfl, ?y13n4k14⟩) hHeld ?z13n4k14
  case y13n4k14 => intro w hSw; (try dsimp only at hSw); go_simp <;> rfl
  try simp only [Act.put, List.setIfInBounds_toArray, List.set_cons_zero, List.set_cons_succ]
  refine wpAnyH_take (i := 14) (oi := ⟨some 43, Op.call { callee := Callee.builtin Builtin.len, args := #[Operand.tmp 42], argTypes := #[22] }, 3, _, _, some (6, true)⟩) (v := ?v14n4k15) rfl (by kernel_rfl) (by kernel_rfl) (by kernel_rfl) (fun _ _ _ h => h) (Or.inl ⟨by rfl, ?y14n4k15⟩) hHeld ?z14n4k15
  case y14n4k15 => intro w hSw; (try dsimp only at hSw); go_simp <;> rfl
  try simp only [Act.put, List.setIfInBounds_toArray, List.set_cons_zero, List.set_cons_succ]
  refine wpAnyH_take (i := 15) (oi := ⟨some 44, Op.call { callee := Callee.builtin Builtin.min, args := #[Operand.tmp 43, Operand.const (Value.int IntKind.i64 16384)], argTypes := #[3, 3] }, 3, _, _, some (6, true)⟩) (v := ?v15n4k16) rfl (by kernel_rfl) (by kernel_rfl) (by kernel_rfl) (fun _ _ _ h => h) (Or.inl ⟨by rfl, ?y15n4k16⟩) hHeld ?z15n4k16
  case y15n4k16 => intro w hSw; (try dsimp only at hSw); go_simp <;> rfl
  try simp only [Act.put, List.setIfInBounds_toArray, List.set_cons_zero, List.set_cons_succ]
  refine wpAnyH_take (i := 16) (oi := ⟨some 45, Op.slice 22 (Operand.tmp 41) none (some (Operand.tmp 44)) none, 22, _, _, some (6, true)⟩) (v := ?v16n4k17) rfl (by kernel_rfl) (by kernel_rfl) (by kernel_rfl) (fun _ _ _ h => h) (Or.inl ⟨by rfl, ?y16n4k17⟩) hHeld ?z16n4k17
  case y16n4k17 => intro w hSw; (try dsimp only at hSw); go_simp <;> rfl
  try simp only [Act.put, List.setIfInBounds_toArray, List.set_cons_zero, List.set_cons_succ]
  refine wpAnyH_take (i := 17) (oi := ⟨some 46, Op.convert 22 9 (Operand.tmp 45), 9, _, _, some (6, true)⟩) (v := ?v17n4k18) rfl (by kernel_rfl) (by kernel_rfl) (by kernel_rfl) (fun _ _ _ h => h) (Or.inl ⟨by rfl, ?y17n4k18⟩) hHeld ?z17n4k18
  case y17n4k18 => intro w hSw; (try dsimp only at hSw); go_simp <;> rfl
  try simp only [Act.put, List.setIfInBounds_toArray, List.set_cons_zero, List.set_cons_succ]
  refine wpAnyH_take (i := 18) (oi := ⟨some 47, Op.move (Operand.tmp 1), 22, _, _, some (6, true)⟩) (v := ?v18n4k19) rfl (by kernel_rfl) (by kernel_rfl) (by kernel_rfl) (fun _ _ _ h => h) (Or.inl ⟨by rfl, ?y18n4k19⟩) hHeld ?z18n4k19
  case y18n4k19 => intro w hSw; (try dsimp only at hSw); go_simp <;> rfl
  try simp only [Act.put, List.setIfInBounds_toArray, List.set_cons_zero, List.set_cons_succ]
  refine wpAnyH_take (i := 19) (oi := ⟨some 48, Op.move (Operand.tmp 1), 22, _, _, some (6, true)⟩) (v := ?v19n4k20) rfl (by kernel_rfl) (by kernel_rfl) (by kernel_rfl) (fun _ _ _ h => h) (Or.inl ⟨by rfl, ?y19n4k20⟩) hHeld ?z19n4k20
  case y19n4k20 => intro w hSw; (try dsimp only at hSw); go_simp <;> rfl
  try simp only [Act.put, List.setIfInBounds_toArray, List.set_cons_zero, List.set_cons_succ]
  refine wpAnyH_take (i := 20) (oi := ⟨some 49, Op.call { callee := Callee.builtin Builtin.len, args := #[Operand.tmp 48], argTypes := #[22] }, 3, _, _, some (6, true)⟩) (v := ?v20n4k21) rfl (by kernel_rfl) (by kernel_rfl) (by kernel_rfl) (fun _ _ _ h => h) (Or.inl ⟨by rfl, ?y20n4k21⟩) hHeld ?z20n4k21
  case y20n4k21 => intro w hSw; (try dsimp only at hSw); go_simp <;> rfl
  try simp only [Act.put, List.setIfInBounds_toArray, List.set_cons_zero, List.set_cons_succ]
  refine wpAnyH_take (i := 21) (oi := ⟨some 50, Op.call { callee := Callee.builtin Builtin.min, args := #[Operand.tmp 49, Operand.const (Value.int IntKind.i64 16384)], argTypes := #[3, 3] }, 3, _, _, some (6, true)⟩) (v := ?v21n4k22) rfl (by kernel_rfl) (by kernel_rfl) (by kernel_rfl) (fun _ _ _ h => h) (Or.inl ⟨by rfl, ?y21n4k22⟩) hHeld ?z21n4k22
  case y21n4k22 => intro w hSw; (try dsimp only at hSw); go_simp <;> rfl
  try simp only [Act.put, List.setIfInBounds_toArray, List.set_cons_zero, List.set_cons_succ]
  refine wpAnyH_take (i := 22) (oi := ⟨some 51, Op.slice 22 (Operand.tmp 47) none (some (Operand.tmp 50)) none, 22, _, _, some (6, true)⟩) (v := ?v22n4k23) rfl (by kernel_rfl) (by kernel_rfl) (by kernel_rfl) (fun _ _ _ h => h) (Or.inl ⟨by rfl, ?y22n4k23⟩) hHeld ?z22n4k23
  case y22n4k23 => intro w hSw; (try dsimp only at hSw); go_simp <;> rfl
  try simp only [Act.put, List.setIfInBounds_toArray, List.set_cons_zero, List.set_cons_succ]
  refine wpAnyH_take (i := 23) (oi := ⟨some 52, Op.convert 22 9 (Operand.tmp 51), 9, _, _, some (6, true)⟩) (v := ?v23n4k24) rfl (by kernel_rfl) (by kernel_rfl) (by kernel_rfl) (fun _ _ _ h => h) (Or.inl ⟨by rfl, ?y23n4k24⟩) hHeld ?z23n4k24
  case y23n4k24 => intro w hSw; (try dsimp only at hSw); go_simp <;> rfl
  try simp only [Act.put, List.setIfInBounds_toArray, List.set_cons_zero, List.set_cons_succ]
  refine wpAnyH_take (i := 24) (oi := ⟨some 53, Op.binOp BinOp.eql 9 (Operand.tmp 46) (Operand.tmp 52) 9, 4, _, _, some (6, true)⟩) (v := ?v24n4k25) rfl (by kernel_rfl) (by kernel_rfl) (by kernel_rfl) (fun _ _ _ h => h) (Or.inl ⟨by rfl, ?y24n4k25⟩) hHeld ?z24n4k25
  case y24n4k25 => intro w hSw; (try dsimp only at hSw); go_simp <;> rfl
  try simp only [Act.put, List.setIfInBounds_toArray, List.set_cons_zero, List.set_cons_succ]
  refine wpAnyH_take (i := 25) (oi := ⟨some 54, Op.binOp BinOp.eql 4 (Operand.tmp 40) (Operand.tmp 53) 4, 4, _, _, some (6, true)⟩) (v := ?v25n4k26) rfl (by kernel_rfl) (by kernel_rfl) (by kernel_rfl) (fun _ _ _ h => h) (Or.inl ⟨by rfl, ?y25n4k26⟩) hHeld ?z25n4k26
  case y25n4k26 => intro w hSw; (try dsimp only at hSw); go_simp <;> rfl
  try simp only [Act.put, List.setIfInBounds_toArray, List.set_cons_zero, List.set_cons_succ]
  refine wpAnyH_take (i := 26) (oi := ⟨some 55, Op.pick (Operand.tmp 35) (Operand.tmp 54) (Operand.const (Value.bool false)), 4, _, _, none⟩) (v := ?v26n4k27) rfl (by kernel_rfl) (by kernel_rfl) (by kernel_rfl) (fun _ _ _ h => h) (Or.inl ⟨by rfl, ?y26n4k27⟩) hHeld ?z26n4k27
  case y26n4k27 => intro w hSw; (try dsimp only at hSw); go_simp <;> rfl
  try simp only [Act.put, List.setIfInBounds_toArray, List.set_cons_zero, List.set_cons_succ]
  refine wpAnyH_take (i := 27) (oi := ⟨some 4, Op.assign (Operand.tmp 55), 4, _, _, none⟩) (v := ?v27n4k28) rfl (by kernel_rfl) (by kernel_rfl) (by kernel_rfl) (fun _ _ _ h => h) (Or.inl ⟨by rfl, ?y27n4k28⟩) hHeld ?z27n4k28
  case y27n4k28 => intro w hSw; (try dsimp only at hSw); go_simp <;> rfl
  try simp only [Act.put, List.setIfInBounds_toArray, List.set_cons_zero, List.set_cons_succ]
  refine wpAnyH_done (by kernel_rfl) ?_ _
  refine NoPanic.normal ?_
  go_wp2
  go_ret
  exact ⟨by simp, kk⟩

end Go.Proofs.Ythankjgebaanpaa
