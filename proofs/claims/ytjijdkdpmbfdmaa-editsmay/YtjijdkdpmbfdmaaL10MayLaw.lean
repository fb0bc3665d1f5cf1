/-
  The walk of EditsMay. No statement is proved here.
-/
import Derived.Test.YtjijdkdpmbfdmaaL10Round
namespace Go.Proofs.Ytjijdkdpmbfdmaa
open Go.RowKit Tot

set_option maxRecDepth 100000 in
theorem fld_add (w : World) (a : Option Addr) (n c : Nat) (y z : Value) : (Instr.field 36 (.agg #[.slice a n c, y, z]) 0).run Try.prog w = .ok (.slice a n c) w := by
  have a5 := Try.isAgg24
  have z5 := Try.sizeOf24
  unfold Instr.field
  simp [run_underlying Try.underlying36, go_sem, asAgg]

set_option maxRecDepth 100000 in
set_option maxHeartbeats 2000000 in
theorem emay_walk (r : RefV) (n : UInt8) (w : World) :
    Calls Try.prog 4 #[r.val, .int .u8 (n.toNat : Int)] w fun e w' => e = .returned (.bool true) ∧ Kept noBlock w w' := by
  obtain ⟨g, hg⟩ : ∃ g, g = decide r.May := ⟨_, rfl⟩
  have RM := Lib.hid (fun u => rmay_any r u)
  have LM := Lib.hid (fun u => lmay_any r u)
  have RN := Lib.hid (fun u => rmay_any (refOf n) u)
  have LN := Lib.hid (fun u => lmay_any (refOf n) u)
  rw [← hg] at RM LM
  rw [decide_eq_true (refOf_may n)] at RN LN
  have hgg : (g == g) = true := by simp
  have k0 := Kept.alloc noBlock w (.cells #[.string r.name, .int .i64 r.kind, .int .i64 r.from_, .int .i64 r.to_] 31)
  have h0 := heap_alloc_new w (.cells #[.string r.name, .int .i64 r.kind, .int .i64 r.from_, .int .i64 r.to_] 31)
  obtain ⟨R, hR⟩ : ∃ R, R = w.heap.size := ⟨_, rfl⟩
  unfold RefV.val at RM LM RN LN ⊢
  clear hg
  go_enter Try.func4, Try.ntmps4
  go_upto_region 1 with (fail)
  rw [← hR] at h0 ⊢
  generalize w.alloc (.cells #[.string r.name, .int .i64 r.kind, .int .i64 r.from_, .int .i64 r.to_] 31) = w1 at k0 h0 ⊢
  have K1 := Lib.hid k0
  have H1 := Lib.hid h0
  clear k0 h0 hR
  go_wp2_with fail
  refine (awake10_any w1).mono ?_
  rintro en w2 ⟨rfl, k2⟩
  have ka := Kept.alloc noBlock w2 (.cells #[.int .u8 (n.toNat : Int)] 5)
  have ha := heap_alloc_new w2 (.cells #[.int .u8 (n.toNat : Int)] 5)
  obtain ⟨B, hB⟩ : ∃ B, B = w2.heap.size := ⟨_, rfl⟩
  obtain ⟨w3, hw3⟩ : ∃ w3, w3 = w2.alloc (.cells #[.int .u8 (n.toNat : Int)] 5) := ⟨_, rfl⟩
  rw [← hw3] at ka ha
  have xl : StepV.lies (fun _ => True) w3 ⟨some ⟨B, 0, none⟩, 1, [n], none, 0, [], 0, false, noRef⟩ := ⟨fun _ => ⟨_, rfl, trivial, fun j u hu => by
    rw [add_plain, hB, cell_of_row _ _ _ _ _ _ ha]
    simpa [bv] using hu⟩, Lies.nil _ _ _, Nat.le_refl _, Nat.le_refl _, by show 1 ≤ _; omega, by show 0 ≤ _; omega, by show 1 ≤ _; omega, by show 0 ≤ _; omega⟩
  have LE := Lib.hid (ledit_any (fun _ => True) _ w3 xl)
  have HED : editOf ⟨some ⟨B, 0, none⟩, 1, [n], none, 0, [], 0, false, noRef⟩ = ⟨[refOf n], [], 0⟩ := rfl
  rw [HED] at LE
  unfold evl at LE
  simp only [List.length_singleton, List.length_nil] at LE
  have K3 := Lib.hid (k2.step ka)
  clear ha xl HED k2 ka
  go_wp2_with fail
  rw [← hw3, ← hB]
  refine LE.out.mono ?_
  rintro en w4 ⟨A, ca, D, cd, rfl, ev, k4⟩
  have hca := ev.ca
  simp only [List.length_singleton] at hca
  obtain ⟨ad, o, rfl, _, cc⟩ := ev.la.elem (enc := RefV.cells) (k := 0) (p := refOf n) ref_len (by omega) rfl
  have e0 := cc 0 _ rfl
  have e1 := cc 1 _ rfl
  have e2 := cc 2 _ rfl
  have e3 := cc 3 _ rfl
  simp only [Nat.zero_mul, Nat.add_zero] at e0 e1 e2 e3
  have ka := Kept.alloc noBlock w4 (.cells #[.string (refOf n).name, .int .i64 (refOf n).kind, .int .i64 (refOf n).from_, .int .i64 (refOf n).to_] 31)
  have ha := heap_alloc_new w4 (.cells #[.string (refOf n).name, .int .i64 (refOf n).kind, .int .i64 (refOf n).from_, .int .i64 (refOf n).to_] 31)
  have hK4 := Lib.hid k4
  clear ev cc LE k4
  have hfa := fld_add
  go_upto_region 4 with (fail)
  obtain ⟨T, hT⟩ : ∃ T, T = w4.heap.size := ⟨_, rfl⟩
  rw [← hT] at ha ⊢
  generalize w4.alloc (.cells #[.string (refOf n).name, .int .i64 (refOf n).kind, .int .i64 (refOf n).from_, .int .i64 (refOf n).to_] 31) = w5 at ka ha ⊢
  have HT := Lib.hid ha
  have HR5 := Lib.hid (((K3.out.step hK4.out).step ka).blk H1.out (fun h => h))
  have K5 := Lib.hid (K1.out.step ((K3.out.step hK4.out).step ka))
  have CE : Hid (∀ u, Kept noBlock w5 u → (u.cell? ⟨R, 0, none⟩ = some (.string r.name) ∧ u.cell? ⟨R, 1, none⟩ = some (.int .i64 r.kind) ∧ u.cell? ⟨R, 2, none⟩ = some (.int .i64 r.from_) ∧ u.cell? ⟨R, 3, none⟩ = some (.int .i64 r.to_)) ∧ (u.cell? ⟨T, 0, none⟩ = some (.string (refOf n).name) ∧ u.cell? ⟨T, 1, none⟩ = some (.int .i64 (refOf n).kind) ∧ u.cell? ⟨T, 2, none⟩ = some (.int .i64 (refOf n).from_) ∧ u.cell? ⟨T, 3, none⟩ = some (.int .i64 (refOf n).to_))) :=
    fun u k => ⟨ref_cells (k.blk HR5.out (fun h => h)), ref_cells (k.blk HT.out (fun h => h))⟩
  have KC : Hid (Kept noBlock w5 w5.drew) := Kept.drew _ _
  clear e0 e1 e2 e3 ka ha hT hK4 K3 K1 H1
  refine wp_region_noPanic ?_
  refine wp_region_held_drew (S := fun u => (u.cell? ⟨R, 0, none⟩ = some (.string r.name) ∧ u.cell? ⟨R, 1, none⟩ = some (.int .i64 r.kind) ∧ u.cell? ⟨R, 2, none⟩ = some (.int .i64 r.from_) ∧ u.cell? ⟨R, 3, none⟩ = some (.int .i64 r.to_)) ∧ (u.cell? ⟨T, 0, none⟩ = some (.string (refOf n).name) ∧ u.cell? ⟨T, 1, none⟩ = some (.int .i64 (refOf n).kind) ∧ u.cell? ⟨T, 2, none⟩ = some (.int .i64 (refOf n).from_) ∧ u.cell? ⟨T, 3, none⟩ = some (.int .i64 (refOf n).to_))) (by kernel_rfl) (CE.out _ KC.out) (fun hHeld => ?_)
  refine wpAnyH_take (i := 0) (oi := ⟨some 15, Op.load 31 (Operand.tmp 2), 31, _, _, none⟩) (v := ?v0n1k1) rfl (by kernel_rfl) (by kernel_rfl) (by kernel_rfl) (fun _ _ _ h => h) (Or.inl ⟨by rfl, ?y0n1k1⟩) hHeld ?z0n1k1
  case y0n1k1 => intro w hSw; (try dsimp only at hSw); go_simp <;> rfl
  try simp only [Act.put, List.setIfInBounds_toArray, List.set_cons_zero, List.set_cons_succ]
  refine wpAnyH_take (i := 2) (oi := ⟨some 17, Op.load 31 (Operand.tmp 2), 31, _, _, none⟩) (v := ?v2n1k2) rfl (by kernel_rfl) (by kernel_rfl) (by kernel_rfl) (fun _ _ _ h => h) (Or.inl ⟨by rfl, ?y2n1k2⟩) hHeld ?z2n1k2
  case y2n1k2 => intro w hSw; (try dsimp only at hSw); go_simp <;> rfl
  try simp only [Act.put, List.setIfInBounds_toArray, List.set_cons_zero, List.set_cons_succ]
  refine wpAnyH_ready (rs := [1]) (by kernel_rfl) (by simp) ?_
  refine AllReadyH.cons (o := ⟨some 16, Op.call { callee := Callee.value (Operand.func 21), args := #[Operand.tmp 15], argTypes := #[31] }, 4, _, _, none⟩) rfl (fun K hK => ?_) AllReadyH.nil
  go_simp
  refine (RM.out _).mono ?_
  rintro en u1 ⟨rfl, k1⟩
  replace KC := Lib.hid (KC.out.step k1)
  clear k1
  dsimp only
  refine hK.out _ _ (CE.out _ KC.out) (fun hHeld => ?_)
  clear hK K
  try simp only [Act.put, List.setIfInBounds_toArray, List.set_cons_zero, List.set_cons_succ]
  refine wpAnyH_ready (rs := [3]) (by kernel_rfl) (by simp) ?_
  refine AllReadyH.cons (o := ⟨some 18, Op.call { callee := Callee.value (Operand.func 22), args := #[Operand.tmp 17], argTypes := #[31] }, 4, _, _, none⟩) rfl (fun K hK => ?_) AllReadyH.nil
  go_simp
  refine (LM.out _).mono ?_
  rintro en u1 ⟨rfl, k1⟩
  replace KC := Lib.hid (KC.out.step k1)
  clear k1
  dsimp only
  refine hK.out _ _ (CE.out _ KC.out) (fun hHeld => ?_)
  clear hK K
  try simp only [Act.put, List.setIfInBounds_toArray, List.set_cons_zero, List.set_cons_succ]
  refine wpAnyH_take (i := 4) (oi := ⟨some 19, Op.binOp BinOp.eql 4 (Operand.tmp 16) (Operand.tmp 18) 4, 4, _, _, none⟩) (v := ?v4n1k3) rfl (by kernel_rfl) (by kernel_rfl) (by kernel_rfl) (fun _ _ _ h => h) (Or.inl ⟨by rfl, ?y4n1k3⟩) hHeld ?z4n1k3
  case y4n1k3 => intro w hSw; (try dsimp only at hSw); go_simp <;> rfl
  try simp only [Act.put, List.setIfInBounds_toArray, List.set_cons_zero, List.set_cons_succ]
  refine wpAnyH_take (i := 5) (oi := ⟨some 20, Op.move (Operand.tmp 19), 4, _, _, none⟩) (v := ?v5n1k4) rfl (by kernel_rfl) (by kernel_rfl) (by kernel_rfl) (fun _ _ _ h => h) (Or.inl ⟨by rfl, ?y5n1k4⟩) hHeld ?z5n1k4
  case y5n1k4 => intro w hSw; (try dsimp only at hSw); go_simp <;> rfl
  try simp only [Act.put, List.setIfInBounds_toArray, List.set_cons_zero, List.set_cons_succ]
  refine wpAnyH_take (i := 6) (oi := ⟨some 21, Op.load 31 (Operand.tmp 5), 31, _, _, some (5, true)⟩) (v := ?v6n1k5) rfl (by kernel_rfl) (by kernel_rfl) (by kernel_rfl) (fun _ _ _ h => h) (Or.inl ⟨by rfl, ?y6n1k5⟩) hHeld ?z6n1k5
  case y6n1k5 => intro w hSw; (try dsimp only at hSw); go_simp <;> rfl
  try simp only [Act.put, List.setIfInBounds_toArray, List.set_cons_zero, List.set_cons_succ]
  refine wpAnyH_ready (rs := [7]) (by kernel_rfl) (by simp) ?_
  refine AllReadyH.cons (o := ⟨some 22, Op.call { callee := Callee.value (Operand.func 21), args := #[Operand.tmp 21], argTypes := #[31] }, 4, _, _, some (5, true)⟩) rfl (fun K hK => ?_) AllReadyH.nil
  go_simp
  refine (RN.out _).mono ?_
  rintro en u1 ⟨rfl, k1⟩
  replace KC := Lib.hid (KC.out.step k1)
  clear k1
  dsimp only
  refine hK.out _ _ (CE.out _ KC.out) (fun hHeld => ?_)
  clear hK K
  try simp only [Act.put, List.setIfInBounds_toArray, List.set_cons_zero, List.set_cons_succ]
  refine wpAnyH_take (i := 8) (oi := ⟨some 23, Op.pick (Operand.tmp 20) (Operand.tmp 22) (Operand.const (Value.bool false)), 4, _, _, none⟩) (v := ?v8n1k6) rfl (by kernel_rfl) (by kernel_rfl) (by kernel_rfl) (fun _ _ _ h => h) (Or.inl ⟨by rfl, ?y8n1k6⟩) hHeld ?z8n1k6
  case y8n1k6 => intro w hSw; (try dsimp only at hSw); go_simp <;> rfl
  try simp only [Act.put, List.setIfInBounds_toArray, List.set_cons_zero, List.set_cons_succ]
  refine wpAnyH_take (i := 9) (oi := ⟨some 24, Op.move (Operand.tmp 23), 4, _, _, none⟩) (v := ?v9n1k7) rfl (by kernel_rfl) (by kernel_rfl) (by kernel_rfl) (fun _ _ _ h => h) (Or.inl ⟨by rfl, ?y9n1k7⟩) hHeld ?z9n1k7
  case y9n1k7 => intro w hSw; (try dsimp only at hSw); go_simp <;> rfl
  try simp only [Act.put, List.setIfInBounds_toArray, List.set_cons_zero, List.set_cons_succ]
  refine wpAnyH_take (i := 10) (oi := ⟨some 25, Op.load 31 (Operand.tmp 5), 31, _, _, some (9, true)⟩) (v := ?v10n1k8) rfl (by kernel_rfl) (by kernel_rfl) (by kernel_rfl) (fun _ _ _ h => h) (Or.inl ⟨by rfl, ?y10n1k8⟩) hHeld ?z10n1k8
  case y10n1k8 => intro w hSw; (try dsimp only at hSw); go_simp <;> rfl
  try simp only [Act.put, List.setIfInBounds_toArray, List.set_cons_zero, List.set_cons_succ]
  refine wpAnyH_ready (rs := [11]) (by kernel_rfl) (by simp) ?_
  refine AllReadyH.cons (o := ⟨some 26, Op.call { callee := Callee.value (Operand.func 22), args := #[Operand.tmp 25], argTypes := #[31] }, 4, _, _, some (9, true)⟩) rfl (fun K hK => ?_) AllReadyH.nil
  go_simp
  refine (LN.out _).mono ?_
  rintro en u1 ⟨rfl, k1⟩
  replace KC := Lib.hid (KC.out.step k1)
  clear k1
  dsimp only
  refine hK.out _ _ (CE.out _ KC.out) (fun hHeld => ?_)
  clear hK K
  try simp only [Act.put, List.setIfInBounds_toArray, List.set_cons_zero, List.set_cons_succ]
  refine wpAnyH_take (i := 12) (oi := ⟨some 27, Op.pick (Operand.tmp 24) (Operand.tmp 26) (Operand.const (Value.bool false)), 4, _, _, none⟩) (v := ?v12n1k9) rfl (by kernel_rfl) (by kernel_rfl) (by kernel_rfl) (fun _ _ _ h => h) (Or.inl ⟨by rfl, ?y12n1k9⟩) hHeld ?z12n1k9
  case y12n1k9 => intro w hSw; (try dsimp only at hSw); go_simp <;> rfl
  try simp only [Act.put, List.setIfInBounds_toArray, List.set_cons_zero, List.set_cons_succ]
  refine wpAnyH_take (i := 13) (oi := ⟨some 4, Op.assign (Operand.tmp 27), 4, _, _, none⟩) (v := ?v13n1k10) rfl (by kernel_rfl) (by kernel_rfl) (by kernel_rfl) (fun _ _ _ h => h) (Or.inl ⟨by rfl, ?y13n1k10⟩) hHeld ?z13n1k10
  case y13n1k10 => intro w hSw; (try dsimp only at hSw); go_simp <;> rfl
  try simp only [Act.put, List.setIfInBounds_toArray, List.set_cons_zero, List.set_cons_succ]
  refine wpAnyH_done (by kernel_rfl) ?_ _
  refine NoPanic.normal ?_
  have KZ := Lib.hid (K5.out.step KC.out)
  clear hHeld
  go_wp2
  go_ret
  exact ⟨rfl, KZ.out⟩
end Go.Proofs.Ytjijdkdpmbfdmaa
