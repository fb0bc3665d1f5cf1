/-
  FilesCut: what it does with whatever bytes. No statement is proved here.
-/
import Derived.Test.YtaelkmcohdfboaaL4Awake
namespace Go.Proofs.Ytaelkmcohdfboaa
open Go.RowKit Go.Maps

theorem small_name (s : List UInt8) (h : s.length ≤ 1000) : s.length ≤ maxLen := by unfold maxLen; omega

set_option maxRecDepth 100000 in
set_option maxHeartbeats 2000000 in
theorem cut_walk (F : Nat → Prop) (a b : Option Addr) (n c n' c' : Nat) (l l' : List UInt8) (kn kp : Nat) (w : World) (h : Lies w F a (l.map bv)) (h' : Lies w F b (l'.map bv)) (hl : l.length = n) (hl' : l'.length = n') (hc : n ≤ c) (hc' : n' ≤ c') (hkn : kn < 256) (hkp : kp < 256) :
    Calls Try.prog 10 #[.slice a n c, .int .u8 (kn : Int), .slice b n' c', .int .u8 (kp : Int)] w fun e w' => e = .returned (.bool true) ∧ Kept noBlock w w' := by
  obtain ⟨m, hm⟩ : ∃ m, m = min n 100 := ⟨_, rfl⟩
  obtain ⟨m', hm'⟩ : ∃ m', m' = min n' 100 := ⟨_, rfl⟩
  have q1 : (if (100 : Int) < (n : Int) then (100 : Int) else (n : Int)) = (m : Int) := by split <;> omega
  have q2 : (if (100 : Int) < (n' : Int) then (100 : Int) else (n' : Int)) = (m' : Int) := by split <;> omega
  have i1 : (m : Int) ≤ c := by omega
  have i2 : (m' : Int) ≤ c' := by omega
  have hm100 : m ≤ 100 := by omega
  have hm100' : m' ≤ 100 := by omega
  obtain ⟨u, hu⟩ : ∃ u, u = l.take m := ⟨_, rfl⟩
  obtain ⟨u', hu'⟩ : ∃ u', u' = l'.take m' := ⟨_, rfl⟩
  have hul : u.length = m := by rw [hu, List.length_take]; omega
  have hul' : u'.length = m' := by rw [hu', List.length_take]; omega
  have hL : Lies w F a (u.map bv) := by rw [hu, List.map_take]; exact h.take m
  have hL' : Lies w F b (u'.map bv) := by rw [hu', List.map_take]; exact h'.take m'
  have HU := Lib.hid hul; clear hul
  have HU' := Lib.hid hul'; clear hul'
  have HL := Lib.hid hL; clear hL
  have HL' := Lib.hid hL'; clear hL'
  obtain ⟨k, hk⟩ : ∃ k, k = kn % (m + 1) := ⟨_, rfl⟩
  have hki : (kn : Int) % ((m : Int) + 1) = (k : Int) := by rw [hk]; simp
  have hkm : k ≤ m := by have := Nat.mod_lt kn (show 0 < m + 1 by omega); omega
  clear hu hu' h h' hl hl' hm hm' hc hc' hk
  go_enter Try.func10, Try.ntmps10
  go_wp2_with fail
  refine (awake_any w).mono ?_
  rintro e w1 ⟨rfl, k1⟩
  go_wp2_with fail
  refine wp_region_noPanic ?_
  refine wp_region_held_drew (S := fun _ => True) (by kernel_rfl) trivial (fun hHeld => ?_)
  refine wpAnyH_take (i := 0) (oi := ⟨some 17, Op.move (Operand.tmp 0), 32, _, _, none⟩) (v := ?v0n2k1) rfl (by kernel_rfl) (by kernel_rfl) (by kernel_rfl) (fun _ _ _ h => h) (Or.inl ⟨by rfl, ?y0n2k1⟩) hHeld ?z0n2k1
  case y0n2k1 => intro w hSw; (try dsimp only at hSw); go_simp <;> rfl
  try simp only [Act.put, List.setIfInBounds_toArray, List.set_cons_zero, List.set_cons_succ]
  refine wpAnyH_take (i := 1) (oi := ⟨some 18, Op.move (Operand.tmp 0), 32, _, _, none⟩) (v := ?v1n2k2) rfl (by kernel_rfl) (by kernel_rfl) (by kernel_rfl) (fun _ _ _ h => h) (Or.inl ⟨by rfl, ?y1n2k2⟩) hHeld ?z1n2k2
  case y1n2k2 => intro w hSw; (try dsimp only at hSw); go_simp <;> rfl
  try simp only [Act.put, List.setIfInBounds_toArray, List.set_cons_zero, List.set_cons_succ]
  refine wpAnyH_take (i := 2) (oi := ⟨some 19, Op.call { callee := Callee.builtin Builtin.len, args := #[Operand.tmp 18], argTypes := #[32] }, 3, _, _, none⟩) (v := ?v2n2k3) rfl (by kernel_rfl) (by kernel_rfl) (by kernel_rfl) (fun _ _ _ h => h) (Or.inl ⟨by rfl, ?y2n2k3⟩) hHeld ?z2n2k3
  case y2n2k3 => intro w hSw; (try dsimp only at hSw); go_simp <;> rfl
  try simp only [Act.put, List.setIfInBounds_toArray, List.set_cons_zero, List.set_cons_succ]
  refine wpAnyH_take (i := 3) (oi := ⟨some 20, Op.call { callee := Callee.builtin Builtin.min, args := #[Operand.tmp 19, Operand.const (Value.int IntKind.i64 100)], argTypes := #[3, 3] }, 3, _, _, none⟩) (v := ?v3n2k4) rfl (by kernel_rfl) (by kernel_rfl) (by kernel_rfl) (fun _ _ _ h => h) (Or.inl ⟨by rfl, ?y3n2k4⟩) hHeld ?z3n2k4
  case y3n2k4 => intro w hSw; (try dsimp only at hSw); go_simp <;> rfl
  try simp only [Act.put, List.setIfInBounds_toArray, List.set_cons_zero, List.set_cons_succ]
  refine wpAnyH_take (i := 4) (oi := ⟨some 21, Op.slice 32 (Operand.tmp 17) none (some (Operand.tmp 20)) none, 32, _, _, none⟩) (v := ?v4n2k5) rfl (by kernel_rfl) (by kernel_rfl) (by kernel_rfl) (fun _ _ _ h => h) (Or.inl ⟨by rfl, ?y4n2k5⟩) hHeld ?z4n2k5
  case y4n2k5 => intro w hSw; (try dsimp only at hSw); go_simp <;> rfl
  try simp only [Act.put, List.setIfInBounds_toArray, List.set_cons_zero, List.set_cons_succ]
  refine wpAnyH_take (i := 5) (oi := ⟨some 22, Op.move (Operand.tmp 2), 32, _, _, none⟩) (v := ?v5n2k6) rfl (by kernel_rfl) (by kernel_rfl) (by kernel_rfl) (fun _ _ _ h => h) (Or.inl ⟨by rfl, ?y5n2k6⟩) hHeld ?z5n2k6
  case y5n2k6 => intro w hSw; (try dsimp only at hSw); go_simp <;> rfl
  try simp only [Act.put, List.setIfInBounds_toArray, List.set_cons_zero, List.set_cons_succ]
  refine wpAnyH_take (i := 6) (oi := ⟨some 23, Op.move (Operand.tmp 2), 32, _, _, none⟩) (v := ?v6n2k7) rfl (by kernel_rfl) (by kernel_rfl) (by kernel_rfl) (fun _ _ _ h => h) (Or.inl ⟨by rfl, ?y6n2k7⟩) hHeld ?z6n2k7
  case y6n2k7 => intro w hSw; (try dsimp only at hSw); go_simp <;> rfl
  try simp only [Act.put, List.setIfInBounds_toArray, List.set_cons_zero, List.set_cons_succ]
  refine wpAnyH_take (i := 7) (oi := ⟨some 24, Op.call { callee := Callee.builtin Builtin.len, args := #[Operand.tmp 23], argTypes := #[32] }, 3, _, _, none⟩) (v := ?v7n2k8) rfl (by kernel_rfl) (by kernel_rfl) (by kernel_rfl) (fun _ _ _ h => h) (Or.inl ⟨by rfl, ?y7n2k8⟩) hHeld ?z7n2k8
  case y7n2k8 => intro w hSw; (try dsimp only at hSw); go_simp <;> rfl
  try simp only [Act.put, List.setIfInBounds_toArray, List.set_cons_zero, List.set_cons_succ]
  refine wpAnyH_take (i := 8) (oi := ⟨some 25, Op.call { callee := Callee.builtin Builtin.min, args := #[Operand.tmp 24, Operand.const (Value.int IntKind.i64 100)], argTypes := #[3, 3] }, 3, _, _, none⟩) (v := ?v8n2k9) rfl (by kernel_rfl) (by kernel_rfl) (by kernel_rfl) (fun _ _ _ h => h) (Or.inl ⟨by rfl, ?y8n2k9⟩) hHeld ?z8n2k9
  case y8n2k9 => intro w hSw; (try dsimp only at hSw); go_simp <;> rfl
  try simp only [Act.put, List.setIfInBounds_toArray, List.set_cons_zero, List.set_cons_succ]
  refine wpAnyH_take (i := 9) (oi := ⟨some 26, Op.slice 32 (Operand.tmp 22) none (some (Operand.tmp 25)) none, 32, _, _, none⟩) (v := ?v9n2k10) rfl (by kernel_rfl) (by kernel_rfl) (by kernel_rfl) (fun _ _ _ h => h) (Or.inl ⟨by rfl, ?y9n2k10⟩) hHeld ?z9n2k10
  case y9n2k10 => intro w hSw; (try dsimp only at hSw); go_simp <;> rfl
  try simp only [Act.put, List.setIfInBounds_toArray, List.set_cons_zero, List.set_cons_succ]
  refine wpAnyH_take (i := 10) (oi := ⟨some 0, Op.assign (Operand.tmp 21), 32, _, _, none⟩) (v := ?v10n2k11) rfl (by kernel_rfl) (by kernel_rfl) (by kernel_rfl) (fun _ _ _ h => h) (Or.inl ⟨by rfl, ?y10n2k11⟩) hHeld ?z10n2k11
  case y10n2k11 => intro w hSw; (try dsimp only at hSw); go_simp <;> rfl
  try simp only [Act.put, List.setIfInBounds_toArray, List.set_cons_zero]
  refine wpAnyH_take (i := 11) (oi := ⟨some 2, Op.assign (Operand.tmp 26), 32, _, _, none⟩) (v := ?v11n2k12) rfl (by kernel_rfl) (by kernel_rfl) (by kernel_rfl) (fun _ _ _ h => h) (Or.inl ⟨by rfl, ?y11n2k12⟩) hHeld ?z11n2k12
  case y11n2k12 => intro w hSw; (try dsimp only at hSw); go_simp <;> rfl
  try simp only [Act.put, List.setIfInBounds_toArray, List.set_cons_zero, List.set_cons_succ]
  refine wpAnyH_done (by kernel_rfl) ?_ _
  refine NoPanic.normal ?_
  go_wp2_with fail
  have k2 := k1.step (Kept.drew noBlock w1)
  generalize w1.drew = w2 at k2 ⊢
  clear k1
  refine (has_of 400 w2 (by omega)).mono ?_
  rintro e w3 ⟨d, rfl, h3⟩
  have H3 := Lib.hid h3; clear h3
  go_wp2_with fail
  refine (H3.out.create [120] (small_name _ (by simp)) (by simp [plain])).mono ?_
  rintro e w4 ⟨f, rfl, h4, hf⟩
  rw [solo_create] at h4 ⊢
  have H4 := Lib.hid h4; clear h4 hf
  go_wp2_with fail
  refine ((show Has w2 w4 d _ from H4.out).syncDir (by simp [solo, plain])).mono ?_
  rintro e w5 ⟨rfl, h5⟩
  rw [solo_syncDir] at h5 ⊢
  have hL5 := HL.out.keep (k2.step h5.kept) (fun _ _ h => h)
  have H5 := Lib.hid h5; clear h5
  go_wp2_with fail
  refine ((show Has w2 w5 d _ from H5.out).append [120] (small_name _ (by simp)) (by simp [solo, plain]) hL5 HU.out (by simp [solo, plain]; omega)).mono ?_
  rintro e w6 ⟨rfl, h6⟩
  rw [solo_append 400 2 0 f _ _ ⟨[], 0⟩ u (by simp [HU.out]; omega)] at h6 ⊢
  simp only [List.nil_append] at h6
  have H6 := Lib.hid h6; clear h6 hL5
  go_wp2_with fail
  refine ((show Has w2 w6 d _ from H6.out).sync [120] (small_name _ (by simp)) (by simp [solo, plain])).mono ?_
  rintro e w7 ⟨rfl, h7⟩
  rw [solo_sync] at h7 ⊢
  have H7 := Lib.hid h7; clear h7
  go_wp2_with fail
  refine ((show Has w2 w7 d _ from H7.out).cut [120] (k : Int) (small_name _ (by simp)) (by simp [solo, plain])).mono ?_
  rintro e w8 ⟨rfl, h8⟩
  rw [solo_cut _ _ _ _ _ _ _ k (by simp [HU.out]; omega)] at h8 ⊢
  have hL8 := HL'.out.keep (k2.step h8.kept) (fun _ _ h => h)
  have H8 := Lib.hid h8; clear h8
  go_wp2_with fail
  refine ((show Has w2 w8 d _ from H8.out).append [120] (small_name _ (by simp)) (by simp [solo, plain]) hL8 HU'.out (by simp [solo, plain, HU.out]; omega)).mono ?_
  rintro e w9 ⟨rfl, h9⟩
  rw [solo_append _ _ _ _ _ _ _ u' (by simp [Fl.keep, HU.out, HU'.out]; omega)] at h9 ⊢
  obtain ⟨S9, hS9⟩ : ∃ S9, S9 = solo 400 f [([120], f)] [] 6 ⟨u.take k ++ u', min u.length k⟩ (0 + u.length + u'.length) := ⟨_, rfl⟩
  have H9 : Hid (Has w2 w9 d S9) := by rw [hS9]; exact Lib.hid h9
  clear h9 hL8
  have hr9 : S9.read [120] = u.take k ++ u' := by rw [hS9]; exact solo_read _ _ _ _ _ _ _
  have hf9 : S9.find [120] = (some f, 0) := by rw [hS9]; exact solo_find _ _ _ _ _ _ _
  have hlen9 : (u.take k ++ u').length = k + m' := by rw [List.length_append, List.length_take, HU.out, HU'.out]; omega
  have HR9 := Lib.hid hr9
  have HF9 := Lib.hid hf9
  have HLN := Lib.hid hlen9
  clear hr9 hf9 hlen9
  go_wp2_with fail
  refine (H9.out.read [120] (small_name _ (by simp))).mono ?_
  rintro e w10 ⟨A', ca, rfl, hLx, kx⟩
  rw [HR9.out] at hLx ⊢
  rw [HF9.out, HLN.out]
  have H10 := Lib.hid (H9.out.then_ kx)
  have k10 := k2.step H10.out.kept
  have hLk : Lies w10.drew F a ((u.take k).map bv) := by
    rw [List.map_take]
    exact ((HL.out.keep k10 (fun _ _ h => h)).keep (Kept.drew noBlock w10) (fun _ _ h => h)).take k
  have hLm := (HL'.out.keep k10 (fun _ _ h => h)).keep (Kept.drew noBlock w10) (fun _ _ h => h)
  have huk : (u.take k).length = k := by rw [List.length_take, HU.out]; omega
  have HUK := Lib.hid huk; clear huk
  have v1 := run_str (hLx.keep (Kept.drew noBlock w10) (fun _ _ h => h)) HLN.out
  have v2 := run_str hLk HUK.out
  have v3 := run_str hLm HU'.out
  obtain ⟨X, hX⟩ : ∃ X, X = str (u.take k ++ u') := ⟨_, rfl⟩
  obtain ⟨Y, hY⟩ : ∃ Y, Y = str (u.take k) := ⟨_, rfl⟩
  obtain ⟨Z, hZ⟩ : ∃ Z, Z = str u' := ⟨_, rfl⟩
  rw [← hX] at v1
  rw [← hY] at v2
  rw [← hZ] at v3
  have hfin : (X.toList == (Y ++ Z).toList) = true := by rw [hX, hY, hZ, str_append]; simp
  have sy : Y.size = k := by rw [hY, str_size, HUK.out]
  have sz : Z.size = m' := by rw [hZ, str_size, HU'.out]
  have HY := Lib.hid hY
  have hkc : k ≤ c := by omega
  have hsum : ¬ 9223372036854775807 < k + m' := by omega
  clear hX hY hZ hLk hLm hLx
  go_wp2_with fail
  refine wp_region_noPanic ?_
  refine wp_region_held_drew (S := fun w' => (∀ c, (convert 32 9 (.slice A' (k + m') c)).run Try.prog w' = .ok (.string X) w') ∧ (∀ c, (convert 32 9 (.slice a k c)).run Try.prog w' = .ok (.string Y) w') ∧ (∀ c, (convert 32 9 (.slice b m' c)).run Try.prog w' = .ok (.string Z) w')) (by kernel_rfl) ⟨v1, v2, v3⟩ (fun hHeld => ?_)
  refine wpAnyH_take (i := 0) (oi := ⟨some 70, Op.move (Operand.tmp 12), 38, _, _, none⟩) (v := ?v0n3k1) rfl (by kernel_rfl) (by kernel_rfl) (by kernel_rfl) (fun _ _ _ h => h) (Or.inl ⟨by rfl, ?y0n3k1⟩) hHeld ?z0n3k1
  case y0n3k1 => intro w hSw; (try dsimp only at hSw); go_simp <;> rfl
  try simp only [Act.put, List.setIfInBounds_toArray, List.set_cons_zero, List.set_cons_succ]
  refine wpAnyH_take (i := 1) (oi := ⟨some 71, Op.binOp BinOp.neq 38 (Operand.tmp 70) (Operand.const (Value.int IntKind.i64 0)) 38, 4, _, _, none⟩) (v := ?v1n3k2) rfl (by kernel_rfl) (by kernel_rfl) (by kernel_rfl) (fun _ _ _ h => h) (Or.inl ⟨by rfl, ?y1n3k2⟩) hHeld ?z1n3k2
  case y1n3k2 => intro w hSw; (try dsimp only at hSw); go_simp <;> rfl
  try simp only [Act.put, List.setIfInBounds_toArray, List.set_cons_zero, List.set_cons_succ]
  refine wpAnyH_take (i := 2) (oi := ⟨some 72, Op.move (Operand.tmp 71), 4, _, _, none⟩) (v := ?v2n3k3) rfl (by kernel_rfl) (by kernel_rfl) (by kernel_rfl) (fun _ _ _ h => h) (Or.inl ⟨by rfl, ?y2n3k3⟩) hHeld ?z2n3k3
  case y2n3k3 => intro w hSw; (try dsimp only at hSw); go_simp <;> rfl
  try simp only [Act.put, List.setIfInBounds_toArray, List.set_cons_zero, List.set_cons_succ]
  refine wpAnyH_take (i := 3) (oi := ⟨some 73, Op.move (Operand.tmp 11), 32, _, _, some (2, false)⟩) (v := ?v3n3k4) rfl (by kernel_rfl) (by kernel_rfl) (by kernel_rfl) (fun _ _ _ h => h) (Or.inl ⟨by rfl, ?y3n3k4⟩) hHeld ?z3n3k4
  case y3n3k4 => intro w hSw; (try dsimp only at hSw); go_simp <;> rfl
  try simp only [Act.put, List.setIfInBounds_toArray, List.set_cons_zero, List.set_cons_succ]
  refine wpAnyH_take (i := 4) (oi := ⟨some 74, Op.convert 32 9 (Operand.tmp 73), 9, _, _, some (2, false)⟩) (v := ?v4n3k5) rfl (by kernel_rfl) (by kernel_rfl) (by kernel_rfl) (fun _ _ _ h => h) (Or.inl ⟨by rfl, ?y4n3k5⟩) hHeld ?z4n3k5
  case y4n3k5 => intro w hSw; (try dsimp only at hSw); go_simp <;> rfl
  try simp only [Act.put, List.setIfInBounds_toArray, List.set_cons_zero, List.set_cons_succ]
  refine wpAnyH_take (i := 5) (oi := ⟨some 75, Op.move (Operand.tmp 0), 32, _, _, some (2, false)⟩) (v := ?v5n3k6) rfl (by kernel_rfl) (by kernel_rfl) (by kernel_rfl) (fun _ _ _ h => h) (Or.inl ⟨by rfl, ?y5n3k6⟩) hHeld ?z5n3k6
  case y5n3k6 => intro w hSw; (try dsimp only at hSw); go_simp <;> rfl
  try simp only [Act.put, List.setIfInBounds_toArray, List.set_cons_zero, List.set_cons_succ]
  refine wpAnyH_take (i := 6) (oi := ⟨some 76, Op.move (Operand.tmp 9), 3, _, _, some (2, false)⟩) (v := ?v6n3k7) rfl (by kernel_rfl) (by kernel_rfl) (by kernel_rfl) (fun _ _ _ h => h) (Or.inl ⟨by rfl, ?y6n3k7⟩) hHeld ?z6n3k7
  case y6n3k7 => intro w hSw; (try dsimp only at hSw); go_simp <;> rfl
  try simp only [Act.put, List.setIfInBounds_toArray, List.set_cons_zero, List.set_cons_succ]
  refine wpAnyH_take (i := 7) (oi := ⟨some 77, Op.slice 32 (Operand.tmp 75) none (some (Operand.tmp 76)) none, 32, _, _, some (2, false)⟩) (v := ?v7n3k8) rfl (by kernel_rfl) (by kernel_rfl) (by kernel_rfl) (fun _ _ _ h => h) (Or.inl ⟨by rfl, ?y7n3k8⟩) hHeld ?z7n3k8
  case y7n3k8 => intro w hSw; (try dsimp only at hSw); go_simp <;> rfl
  try simp only [Act.put, List.setIfInBounds_toArray, List.set_cons_zero, List.set_cons_succ]
  refine wpAnyH_take (i := 8) (oi := ⟨some 78, Op.convert 32 9 (Operand.tmp 77), 9, _, _, some (2, false)⟩) (v := ?v8n3k9) rfl (by kernel_rfl) (by kernel_rfl) (by kernel_rfl) (fun _ _ _ h => h) (Or.inl ⟨by rfl, ?y8n3k9⟩) hHeld ?z8n3k9
  case y8n3k9 => intro w hSw; (try dsimp only at hSw); go_simp <;> rfl
  try simp only [Act.put, List.setIfInBounds_toArray, List.set_cons_zero, List.set_cons_succ]
  refine wpAnyH_take (i := 9) (oi := ⟨some 79, Op.move (Operand.tmp 2), 32, _, _, some (2, false)⟩) (v := ?v9n3k10) rfl (by kernel_rfl) (by kernel_rfl) (by kernel_rfl) (fun _ _ _ h => h) (Or.inl ⟨by rfl, ?y9n3k10⟩) hHeld ?z9n3k10
  case y9n3k10 => intro w hSw; (try dsimp only at hSw); go_simp <;> rfl
  try simp only [Act.put, List.setIfInBounds_toArray, List.set_cons_zero, List.set_cons_succ]
  refine wpAnyH_take (i := 10) (oi := ⟨some 80, Op.convert 32 9 (Operand.tmp 79), 9, _, _, some (2, false)⟩) (v := ?v10n3k11) rfl (by kernel_rfl) (by kernel_rfl) (by kernel_rfl) (fun _ _ _ h => h) (Or.inl ⟨by rfl, ?y10n3k11⟩) hHeld ?z10n3k11
  case y10n3k11 => intro w hSw; (try dsimp only at hSw); go_simp <;> rfl
  try simp only [Act.put, List.setIfInBounds_toArray, List.set_cons_zero, List.set_cons_succ]
  refine wpAnyH_take (i := 11) (oi := ⟨some 81, Op.binOp BinOp.add 9 (Operand.tmp 78) (Operand.tmp 80) 9, 9, _, _, some (2, false)⟩) (v := ?v11n3k12) rfl (by kernel_rfl) (by kernel_rfl) (by kernel_rfl) (fun _ _ _ h => h) (Or.inl ⟨by rfl, ?y11n3k12⟩) hHeld ?z11n3k12
  case y11n3k12 => intro w hSw; (try dsimp only at hSw); go_simp <;> rfl
  try simp only [Act.put, List.setIfInBounds_toArray, List.set_cons_zero, List.set_cons_succ]
  refine wpAnyH_take (i := 12) (oi := ⟨some 82, Op.binOp BinOp.neq 9 (Operand.tmp 74) (Operand.tmp 81) 9, 4, _, _, some (2, false)⟩) (v := ?v12n3k13) rfl (by kernel_rfl) (by kernel_rfl) (by kernel_rfl) (fun _ _ _ h => h) (Or.inl ⟨by rfl, ?y12n3k13⟩) hHeld ?z12n3k13
  case y12n3k13 => intro w hSw; (try dsimp only at hSw); go_simp <;> rfl
  try simp only [Act.put, List.setIfInBounds_toArray, List.set_cons_zero, List.set_cons_succ]
  refine wpAnyH_take (i := 13) (oi := ⟨some 83, Op.pick (Operand.tmp 72) (Operand.const (Value.bool true)) (Operand.tmp 82), 4, _, _, none⟩) (v := ?v13n3k14) rfl (by kernel_rfl) (by kernel_rfl) (by kernel_rfl) (fun _ _ _ h => h) (Or.inl ⟨by rfl, ?y13n3k14⟩) hHeld ?z13n3k14
  case y13n3k14 => intro w hSw; (try dsimp only at hSw); go_simp <;> rfl
  try simp only [Act.put, List.setIfInBounds_toArray, List.set_cons_zero, List.set_cons_succ]
  refine wpAnyH_done (by kernel_rfl) ?_ _
  refine NoPanic.normal ?_
  have K2 := Lib.hid k2
  have h11 := H10.out.then_ (Kept.drew noBlock w10)
  generalize w10.drew = w11 at h11 ⊢
  have H11 := Lib.hid h11
  clear h11 v1 v2 v3 hfin k10 kx H10 k2
  obtain ⟨p, hp⟩ : ∃ p, p = min kp m' := ⟨_, rfl⟩
  have q3 : (if (kp : Int) < (m' : Int) then (kp : Int) else (m' : Int)) = (p : Int) := by rw [hp]; split <;> omega
  have q4 : (if kp < m' then (kp : Int) else (m' : Int)) = (p : Int) := by rw [hp]; split <;> omega
  have hwk : IntKind.i64.wrap (kp : Int) = (kp : Int) := wrap_small (by omega) (by omega)
  have hpc : p ≤ c' := by omega
  have i3 : (p : Int) ≤ c' := by omega
  have hpm : p ≤ m' := by omega
  have hback : (S9.restart 0 (kp : Int)).read [120] = u.take k ++ u'.take p ∧ (S9.restart 0 (kp : Int)).find [120] = (some f, 0) := by
    rw [hS9]
    have hb := solo_back_read 400 6 (0 + u.length + u'.length) f ⟨u.take k ++ u', min u.length k⟩ 0 (kp : Int)
    refine ⟨hb.1.trans ?_, hb.2⟩
    unfold Fl.back
    have e1 : min u.length k = k := by rw [HU.out]; omega
    simp only [e1, HLN.out, Int.toNat_natCast]
    have e2 : k + min kp (k + m' - k) = k + p := by omega
    rw [e2]
    have e3 : (u.take k ++ u').take (k + p) = (u.take k ++ u').take ((u.take k).length + p) := by rw [HUK.out]
    rw [e3, List.take_length_add_append]
  have HBK := Lib.hid hback; clear hback
  have HP := Lib.hid hp; clear hp
  have hlen2 : (u.take k ++ u'.take p).length = k + p := by rw [List.length_append, HUK.out, List.length_take, HU'.out]; omega
  have HLN2 := Lib.hid hlen2; clear hlen2
  have HS9 := Lib.hid hS9; clear hS9
  go_wp2_with fail
  refine (H11.out.restart 0 (kp : Int)).mono ?_
  rintro e w12 ⟨rfl, h12⟩
  have H12 := Lib.hid h12; clear h12
  go_wp2_with fail
  refine (H12.out.read [120] (small_name _ (by simp))).mono ?_
  rintro e w13 ⟨A2, ca2, rfl, hLz, kz⟩
  rw [HBK.out.1] at hLz ⊢
  rw [HBK.out.2, HLN2.out]
  have k13' : Kept noBlock w w13 := (K2.out.step H12.out.kept).step kz
  have hLk : Lies w13.drew F a ((u.take k).map bv) := by
    rw [List.map_take]
    exact ((HL.out.keep k13' (fun _ _ h => h)).keep (Kept.drew noBlock w13) (fun _ _ h => h)).take k
  have hLm : Lies w13.drew F b ((u'.take p).map bv) := by
    rw [List.map_take]
    exact ((HL'.out.keep k13' (fun _ _ h => h)).keep (Kept.drew noBlock w13) (fun _ _ h => h)).take p
  have v1 := run_str (hLz.keep (Kept.drew noBlock w13) (fun _ _ h => h)) HLN2.out
  have v2 := run_str hLk HUK.out
  have hup : (u'.take p).length = p := by rw [List.length_take, HU'.out]; omega
  have v3 := run_str hLm hup
  obtain ⟨X, hX⟩ : ∃ X, X = str (u.take k ++ u'.take p) := ⟨_, rfl⟩
  obtain ⟨V, hV⟩ : ∃ V, V = str (u'.take p) := ⟨_, rfl⟩
  rw [← hX] at v1
  rw [← HY.out] at v2
  rw [← hV] at v3
  have hfin : (X.toList == (Y ++ V).toList) = true := by rw [hX, HY.out, hV, str_append]; simp
  have sv : V.size = p := by rw [hV, str_size, hup]
  have hsum2 : ¬ 9223372036854775807 < k + p := by omega
  clear hX hV hLk hLm hLz hup
  go_wp2_with fail
  refine wp_region_noPanic ?_
  refine wp_region_held_drew (S := fun w' => (∀ c, (convert 32 9 (.slice A2 (k + p) c)).run Try.prog w' = .ok (.string X) w') ∧ (∀ c, (convert 32 9 (.slice a k c)).run Try.prog w' = .ok (.string Y) w') ∧ (∀ c, (convert 32 9 (.slice b p c)).run Try.prog w' = .ok (.string V) w')) (by kernel_rfl) ⟨v1, v2, v3⟩ (fun hHeld => ?_)
  refine wpAnyH_take (i := 0) (oi := ⟨some 93, Op.move (Operand.tmp 14), 38, _, _, none⟩) (v := ?v0n4k1) rfl (by kernel_rfl) (by kernel_rfl) (by kernel_rfl) (fun _ _ _ h => h) (Or.inl ⟨by rfl, ?y0n4k1⟩) hHeld ?z0n4k1
  case y0n4k1 => intro w hSw; (try dsimp only at hSw); go_simp <;> rfl
  try simp only [Act.put, List.setIfInBounds_toArray, List.set_cons_zero, List.set_cons_succ]
  refine wpAnyH_take (i := 1) (oi := ⟨some 94, Op.binOp BinOp.eql 38 (Operand.tmp 93) (Operand.const (Value.int IntKind.i64 0)) 38, 4, _, _, none⟩) (v := ?v1n4k2) rfl (by kernel_rfl) (by kernel_rfl) (by kernel_rfl) (fun _ _ _ h => h) (Or.inl ⟨by rfl, ?y1n4k2⟩) hHeld ?z1n4k2
  case y1n4k2 => intro w hSw; (try dsimp only at hSw); go_simp <;> rfl
  try simp only [Act.put, List.setIfInBounds_toArray, List.set_cons_zero, List.set_cons_succ]
  refine wpAnyH_take (i := 2) (oi := ⟨some 95, Op.move (Operand.tmp 94), 4, _, _, none⟩) (v := ?v2n4k3) rfl (by kernel_rfl) (by kernel_rfl) (by kernel_rfl) (fun _ _ _ h => h) (Or.inl ⟨by rfl, ?y2n4k3⟩) hHeld ?z2n4k3
  case y2n4k3 => intro w hSw; (try dsimp only at hSw); go_simp <;> rfl
  try simp only [Act.put, List.setIfInBounds_toArray, List.set_cons_zero, List.set_cons_succ]
  refine wpAnyH_take (i := 3) (oi := ⟨some 96, Op.move (Operand.tmp 13), 32, _, _, some (2, true)⟩) (v := ?v3n4k4) rfl (by kernel_rfl) (by kernel_rfl) (by kernel_rfl) (fun _ _ _ h => h) (Or.inl ⟨by rfl, ?y3n4k4⟩) hHeld ?z3n4k4
  case y3n4k4 => intro w hSw; (try dsimp only at hSw); go_simp <;> rfl
  try simp only [Act.put, List.setIfInBounds_toArray, List.set_cons_zero, List.set_cons_succ]
  refine wpAnyH_take (i := 4) (oi := ⟨some 97, Op.convert 32 9 (Operand.tmp 96), 9, _, _, some (2, true)⟩) (v := ?v4n4k5) rfl (by kernel_rfl) (by kernel_rfl) (by kernel_rfl) (fun _ _ _ h => h) (Or.inl ⟨by rfl, ?y4n4k5⟩) hHeld ?z4n4k5
  case y4n4k5 => intro w hSw; (try dsimp only at hSw); go_simp <;> rfl
  try simp only [Act.put, List.setIfInBounds_toArray, List.set_cons_zero, List.set_cons_succ]
  refine wpAnyH_take (i := 5) (oi := ⟨some 98, Op.move (Operand.tmp 0), 32, _, _, some (2, true)⟩) (v := ?v5n4k6) rfl (by kernel_rfl) (by kernel_rfl) (by kernel_rfl) (fun _ _ _ h => h) (Or.inl ⟨by rfl, ?y5n4k6⟩) hHeld ?z5n4k6
  case y5n4k6 => intro w hSw; (try dsimp only at hSw); go_simp <;> rfl
  try simp only [Act.put, List.setIfInBounds_toArray, List.set_cons_zero, List.set_cons_succ]
  refine wpAnyH_take (i := 6) (oi := ⟨some 99, Op.move (Operand.tmp 9), 3, _, _, some (2, true)⟩) (v := ?v6n4k7) rfl (by kernel_rfl) (by kernel_rfl) (by kernel_rfl) (fun _ _ _ h => h) (Or.inl ⟨by rfl, ?y6n4k7⟩) hHeld ?z6n4k7
  case y6n4k7 => intro w hSw; (try dsimp only at hSw); go_simp <;> rfl
  try simp only [Act.put, List.setIfInBounds_toArray, List.set_cons_zero, List.set_cons_succ]
  refine wpAnyH_take (i := 7) (oi := ⟨some 100, Op.slice 32 (Operand.tmp 98) none (some (Operand.tmp 99)) none, 32, _, _, some (2, true)⟩) (v := ?v7n4k8) rfl (by kernel_rfl) (by kernel_rfl) (by kernel_rfl) (fun _ _ _ h => h) (Or.inl ⟨by rfl, ?y7n4k8⟩) hHeld ?z7n4k8
  case y7n4k8 => intro w hSw; (try dsimp only at hSw); go_simp <;> rfl
  try simp only [Act.put, List.setIfInBounds_toArray, List.set_cons_zero, List.set_cons_succ]
  refine wpAnyH_take (i := 8) (oi := ⟨some 101, Op.convert 32 9 (Operand.tmp 100), 9, _, _, some (2, true)⟩) (v := ?v8n4k9) rfl (by kernel_rfl) (by kernel_rfl) (by kernel_rfl) (fun _ _ _ h => h) (Or.inl ⟨by rfl, ?y8n4k9⟩) hHeld ?z8n4k9
  case y8n4k9 => intro w hSw; (try dsimp only at hSw); go_simp <;> rfl
  try simp only [Act.put, List.setIfInBounds_toArray, List.set_cons_zero, List.set_cons_succ]
  refine wpAnyH_take (i := 9) (oi := ⟨some 102, Op.move (Operand.tmp 2), 32, _, _, some (2, true)⟩) (v := ?v9n4k10) rfl (by kernel_rfl) (by kernel_rfl) (by kernel_rfl) (fun _ _ _ h => h) (Or.inl ⟨by rfl, ?y9n4k10⟩) hHeld ?z9n4k10
  case y9n4k10 => intro w hSw; (try dsimp only at hSw); go_simp <;> rfl
  try simp only [Act.put, List.setIfInBounds_toArray, List.set_cons_zero, List.set_cons_succ]
  refine wpAnyH_take (i := 10) (oi := ⟨some 103, Op.move (Operand.tmp 2), 32, _, _, some (2, true)⟩) (v := ?v10n4k11) rfl (by kernel_rfl) (by kernel_rfl) (by kernel_rfl) (fun _ _ _ h => h) (Or.inl ⟨by rfl, ?y10n4k11⟩) hHeld ?z10n4k11
  case y10n4k11 => intro w hSw; (try dsimp only at hSw); go_simp <;> rfl
  try simp only [Act.put, List.setIfInBounds_toArray, List.set_cons_zero, List.set_cons_succ]
  refine wpAnyH_take (i := 11) (oi := ⟨some 104, Op.call { callee := Callee.builtin Builtin.len, args := #[Operand.tmp 103], argTypes := #[32] }, 3, _, _, some (2, true)⟩) (v := ?v11n4k12) rfl (by kernel_rfl) (by kernel_rfl) (by kernel_rfl) (fun _ _ _ h => h) (Or.inl ⟨by rfl, ?y11n4k12⟩) hHeld ?z11n4k12
  case y11n4k12 => intro w hSw; (try dsimp only at hSw); go_simp <;> rfl
  try simp only [Act.put, List.setIfInBounds_toArray, List.set_cons_zero, List.set_cons_succ]
  refine wpAnyH_take (i := 12) (oi := ⟨some 105, Op.move (Operand.tmp 3), 5, _, _, some (2, true)⟩) (v := ?v12n4k13) rfl (by kernel_rfl) (by kernel_rfl) (by kernel_rfl) (fun _ _ _ h => h) (Or.inl ⟨by rfl, ?y12n4k13⟩) hHeld ?z12n4k13
  case y12n4k13 => intro w hSw; (try dsimp only at hSw); go_simp <;> rfl
  try simp only [Act.put, List.setIfInBounds_toArray, List.set_cons_zero, List.set_cons_succ]
  refine wpAnyH_take (i := 13) (oi := ⟨some 106, Op.convert 5 3 (Operand.tmp 105), 3, _, _, some (2, true)⟩) (v := ?v13n4k14) rfl (by kernel_rfl) (by kernel_rfl) (by kernel_rfl) (fun _ _ _ h => h) (Or.inl ⟨by rfl, ?y13n4k14⟩) hHeld ?z13n4k14
  case y13n4k14 => intro w hSw; (try dsimp only at hSw); go_simp <;> rfl
  try simp only [Act.put, List.setIfInBounds_toArray, List.set_cons_zero, List.set_cons_succ]
  refine wpAnyH_take (i := 14) (oi := ⟨some 107, Op.call { callee := Callee.builtin Builtin.min, args := #[Operand.tmp 104, Operand.tmp 106], argTypes := #[3, 3] }, 3, _, _, some (2, true)⟩) (v := ?v14n4k15) rfl (by kernel_rfl) (by kernel_rfl) (by kernel_rfl) (fun _ _ _ h => h) (Or.inl ⟨by rfl, ?y14n4k15⟩) hHeld ?z14n4k15
  case y14n4k15 => intro w hSw; (try dsimp only at hSw); go_simp <;> rfl
  try simp only [Act.put, List.setIfInBounds_toArray, List.set_cons_zero, List.set_cons_succ]
  refine wpAnyH_take (i := 15) (oi := ⟨some 108, Op.slice 32 (Operand.tmp 102) none (some (Operand.tmp 107)) none, 32, _, _, some (2, true)⟩) (v := ?v15n4k16) rfl (by kernel_rfl) (by kernel_rfl) (by kernel_rfl) (fun _ _ _ h => h) (Or.inl ⟨by rfl, ?y15n4k16⟩) hHeld ?z15n4k16
  case y15n4k16 => intro w hSw; (try dsimp only at hSw); go_simp <;> rfl
  try simp only [Act.put, List.setIfInBounds_toArray, List.set_cons_zero, List.set_cons_succ]
  refine wpAnyH_take (i := 16) (oi := ⟨some 109, Op.convert 32 9 (Operand.tmp 108), 9, _, _, some (2, true)⟩) (v := ?v16n4k17) rfl (by kernel_rfl) (by kernel_rfl) (by kernel_rfl) (fun _ _ _ h => h) (Or.inl ⟨by rfl, ?y16n4k17⟩) hHeld ?z16n4k17
  case y16n4k17 => intro w hSw; (try dsimp only at hSw); go_simp <;> rfl
  try simp only [Act.put, List.setIfInBounds_toArray, List.set_cons_zero, List.set_cons_succ]
  refine wpAnyH_take (i := 17) (oi := ⟨some 110, Op.binOp BinOp.add 9 (Operand.tmp 101) (Operand.tmp 109) 9, 9, _, _, some (2, true)⟩) (v := ?v17n4k18) rfl (by kernel_rfl) (by kernel_rfl) (by kernel_rfl) (fun _ _ _ h => h) (Or.inl ⟨by rfl, ?y17n4k18⟩) hHeld ?z17n4k18
  case y17n4k18 => intro w hSw; (try dsimp only at hSw); go_simp <;> rfl
  try simp only [Act.put, List.setIfInBounds_toArray, List.set_cons_zero, List.set_cons_succ]
  refine wpAnyH_take (i := 18) (oi := ⟨some 111, Op.binOp BinOp.eql 9 (Operand.tmp 97) (Operand.tmp 110) 9, 4, _, _, some (2, true)⟩) (v := ?v18n4k19) rfl (by kernel_rfl) (by kernel_rfl) (by kernel_rfl) (fun _ _ _ h => h) (Or.inl ⟨by rfl, ?y18n4k19⟩) hHeld ?z18n4k19
  case y18n4k19 => intro w hSw; (try dsimp only at hSw); go_simp <;> rfl
  try simp only [Act.put, List.setIfInBounds_toArray, List.set_cons_zero, List.set_cons_succ]
  refine wpAnyH_take (i := 19) (oi := ⟨some 112, Op.pick (Operand.tmp 95) (Operand.tmp 111) (Operand.const (Value.bool false)), 4, _, _, none⟩) (v := ?v19n4k20) rfl (by kernel_rfl) (by kernel_rfl) (by kernel_rfl) (fun _ _ _ h => h) (Or.inl ⟨by rfl, ?y19n4k20⟩) hHeld ?z19n4k20
  case y19n4k20 => intro w hSw; (try dsimp only at hSw); go_simp <;> rfl
  try simp only [Act.put, List.setIfInBounds_toArray, List.set_cons_zero, List.set_cons_succ]
  refine wpAnyH_take (i := 20) (oi := ⟨some 8, Op.assign (Operand.tmp 112), 4, _, _, none⟩) (v := ?v20n4k21) rfl (by kernel_rfl) (by kernel_rfl) (by kernel_rfl) (fun _ _ _ h => h) (Or.inl ⟨by rfl, ?y20n4k21⟩) hHeld ?z20n4k21
  case y20n4k21 => intro w hSw; (try dsimp only at hSw); go_simp <;> rfl
  try simp only [Act.put, List.setIfInBounds_toArray, List.set_cons_zero, List.set_cons_succ]
  refine wpAnyH_done (by kernel_rfl) ?_ _
  refine NoPanic.normal ?_
  go_wp2
  go_ret
  exact ⟨by simp, k13'.step (Kept.drew noBlock w13)⟩
end Go.Proofs.Ytaelkmcohdfboaa
