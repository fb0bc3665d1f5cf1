/-
  CmdsMay: what it does with whatever command. No statement is proved here.
-/
import Derived.Test.YtgffdobhdkieaaaL6Right
import Derived.Deep.CutBlock
namespace Go.Proofs.Ytgffdobhdkieaaa
open Go.RowKit

theorem cmd_cells {w : World} {B : Nat} {e : CmdV} {t : TypeId} {fr : Nat × Nat} (h : w.heap[B]? = some (.cells e.cells.toArray t fr)) : w.cell? ⟨B, 0, none⟩ = some (.int .i64 e.op) ∧ w.cell? ⟨B, 1, none⟩ = some (.int .i64 e.client) ∧ w.cell? ⟨B, 2, none⟩ = some (.int .i64 e.seq) ∧ w.cell? ⟨B, 3, none⟩ = some (.string e.key) ∧ w.cell? ⟨B, 4, none⟩ = some (.string e.value) ∧ w.cell? ⟨B, 5, none⟩ = some (.string e.old) :=
  ⟨cell_of_row _ _ _ _ _ _ h, cell_of_row _ _ _ _ _ _ h, cell_of_row _ _ _ _ _ _ h, cell_of_row _ _ _ _ _ _ h, cell_of_row _ _ _ _ _ _ h, cell_of_row _ _ _ _ _ _ h⟩

set_option maxHeartbeats 4000000 in
theorem may_walk (c : CmdV) (s : SayV) (part : UInt8) (n : Int) (tx : ByteArray) (w : World) : Calls Try.prog 3 #[c.val, s.val, .int .u8 (part.toNat : Int), .int .i64 n, .string tx] w fun e w' => e = .returned (.bool true) ∧ Kept noBlock w w' := by
  have hx := may_any c
  have hxr := ref_may c
  obtain ⟨r, hr⟩ : ∃ r, decide c.May = r := ⟨_, rfl⟩
  rw [hr] at hx hxr
  clear hr
  have hsay := say_any s
  have hsm := may_any s.cmd
  rw [decide_eq_true s.may] at hsm
  obtain ⟨p7, hp7⟩ : ∃ p7, p7 = part.toNat % 7 := ⟨_, rfl⟩
  have t7 : ((part.toNat : Int)).tmod 7 = (p7 : Int) := by rw [hp7]; exact tmod_nat _ 7
  have h7 : p7 = 0 ∨ p7 = 1 ∨ p7 = 2 ∨ p7 = 3 ∨ p7 = 4 ∨ p7 = 5 ∨ p7 = 6 := by omega
  have H7 := Lib.hid h7
  clear hp7 h7
  obtain ⟨w0, hw0⟩ : ∃ w0, w0 = (w.alloc (.cells c.cells.toArray 24)).alloc (.cells s.cells.toArray 26) := ⟨_, rfl⟩
  have K0 : Hid (Kept noBlock w w0) := by unfold Hid; rw [hw0]; exact (Kept.alloc _ _ _).step (Kept.alloc _ _ _)
  have B0 : Hid (w0.heap[w.heap.size]? = some (.cells c.cells.toArray 24 (0, 0))) := by unfold Hid; rw [hw0]; exact (Kept.alloc noBlock _ _).blk (heap_alloc_new w _) (fun h => h)
  have B1 : Hid (w0.heap[w.heap.size + 1]? = some (.cells s.cells.toArray 26 (0, 0))) := by
    unfold Hid
    have := heap_alloc_new (w.alloc (.cells c.cells.toArray 24)) (.cells s.cells.toArray 26)
    rw [hw0]
    simpa using this
  unfold CmdV.cells SayV.cells at hw0
  unfold CmdV.val at hx hxr hsm
  unfold SayV.val CmdV.val at hsay
  unfold CmdV.val SayV.val
  go_enter Try.func3, Try.ntmps3
  go_wp2_with fail
  rw [← hw0]
  clear hw0
  refine (awake_any w0).mono ?_
  rintro e w1 ⟨rfl, k1⟩
  obtain ⟨c0, c1, c2, c3, c4, c5⟩ := say_cells (k1.blk B1.out (fun h => h))
  have K1 := Lib.hid k1
  clear k1
  go_wp2_with fail
  refine (hsay _).mono ?_
  rintro e w2 ⟨rfl, k2⟩
  have K2 := Lib.hid (K1.out.step k2)
  clear k2 c0 c1 c2 c3 c4 c5
  go_wp2_with fail
  refine (hsm _).mono ?_
  rintro e w3 ⟨rfl, k3⟩
  have B3 := Lib.hid (k3.blk (heap_alloc_new w2 _) (fun h => h))
  have K3 := Lib.hid (K2.out.step ((Kept.alloc noBlock w2 _).step k3))
  have B4 := Lib.hid (K3.out.blk B0.out (fun h => h))
  have NE : Hid (w.heap.size ≠ w2.heap.size) := by
    unfold Hid
    have := lt_of_blk B0.out
    have := K2.out.size
    omega
  have LE : Hid (w.heap.size ≤ w2.heap.size) := by
    unfold Hid
    have := K0.out.size
    have := K2.out.size
    omega
  obtain ⟨B2, hB2⟩ : ∃ B2, B2 = w2.heap.size := ⟨_, rfl⟩
  rw [← hB2] at B3 NE LE ⊢
  clear hB2 k3 hsm hsay
  go_upto_block 0 with (fail)
  go_cut [] (fun wc => ∃ y : CmdV, Hid (wc.heap[B2]? = some (.cells y.cells.toArray 24 (0, 0))) ∧ Hid (wc.heap[w.heap.size]? = some (.cells c.cells.toArray 24 (0, 0))) ∧ Hid (Kept noBlock w wc))
  case first =>
    have fz : ∀ j, w3.frozen? ⟨B2, j, none⟩ = false := fun j => frozen_of_row _ _ _ _ _ B3.out
    obtain ⟨d0, d1, d2, d3, d4, d5⟩ := cmd_cells (e := s.cmd) B3.out
    have f0 := fz 0
    have f1 := fz 1
    have f2 := fz 2
    have f3 := fz 3
    have f4 := fz 4
    have f5 := fz 5
    clear fz
    have SET : Hid (∀ (j : Nat) (v : Value) (y : CmdV), s.cmd.cells.toArray.setIfInBounds j v = y.cells.toArray → ∃ y : CmdV, Hid ((w3.setCell ⟨B2, j, none⟩ v).heap[B2]? = some (.cells y.cells.toArray 24 (0, 0))) ∧ Hid ((w3.setCell ⟨B2, j, none⟩ v).heap[w.heap.size]? = some (.cells c.cells.toArray 24 (0, 0))) ∧ Hid (Kept noBlock w (w3.setCell ⟨B2, j, none⟩ v))) := fun j v y hy => by
      have ks : Kept (fun k => k = B2) w3 (w3.setCell ⟨B2, j, none⟩ v) := Kept.setCell w3 (by rfl) v
      refine ⟨y, ?_, ks.blk B4.out NE.out, (K0.out.step K3.out).trans ks (fun i hi h => by have := LE.out; omega)⟩
      unfold Hid
      rw [← hy]
      exact heap_setCell_same w3 B2 j _ 24 v B3.out
    rcases H7.out with rfl | rfl | rfl | rfl | rfl | rfl | rfl
    · go_wp2
      go_meet
      case rel => exact SET.out 0 (.int .i64 n) ⟨n, s.cmd.client, s.cmd.seq, s.cmd.key, s.cmd.value, s.cmd.old⟩ rfl
    · go_wp2
      go_meet
      case rel => exact SET.out 1 (.int .i64 n) ⟨s.cmd.op, n, s.cmd.seq, s.cmd.key, s.cmd.value, s.cmd.old⟩ rfl
    · go_wp2
      go_meet
      case rel => exact SET.out 2 (.int .i64 n) ⟨s.cmd.op, s.cmd.client, n, s.cmd.key, s.cmd.value, s.cmd.old⟩ rfl
    · go_wp2
      go_meet
      case rel => exact SET.out 3 (.string tx) ⟨s.cmd.op, s.cmd.client, s.cmd.seq, tx, s.cmd.value, s.cmd.old⟩ rfl
    · go_wp2
      go_meet
      case rel => exact SET.out 4 (.string tx) ⟨s.cmd.op, s.cmd.client, s.cmd.seq, s.cmd.key, tx, s.cmd.old⟩ rfl
    · go_wp2
      go_meet
      case rel => exact SET.out 5 (.string tx) ⟨s.cmd.op, s.cmd.client, s.cmd.seq, s.cmd.key, s.cmd.value, tx⟩ rfl
    · go_wp2
      go_meet
      case rel => exact ⟨s.cmd, B3.out, B4.out, K0.out.step K3.out⟩
  case rest =>
    obtain ⟨y, By, Bc, Kc⟩ := hcut
    clear K0 K1 K2 K3 B0 B1 B3 B4 NE LE H7 t7
    have hyx := may_any y
    have hyr := ref_may y
    obtain ⟨q, hq⟩ : ∃ q, decide y.May = q := ⟨_, rfl⟩
    rw [hq] at hyx hyr
    clear hq
    unfold CmdV.val at hyx hyr
    go_upto_region 19 with (fail)
    have HSS : Hid (∀ w', Kept noBlock wc w' → w'.cell? ⟨w.heap.size, 0, none⟩ = some (.int .i64 c.op) ∧ w'.cell? ⟨w.heap.size, 1, none⟩ = some (.int .i64 c.client) ∧ w'.cell? ⟨w.heap.size, 2, none⟩ = some (.int .i64 c.seq) ∧ w'.cell? ⟨w.heap.size, 3, none⟩ = some (.string c.key) ∧ w'.cell? ⟨w.heap.size, 4, none⟩ = some (.string c.value) ∧ w'.cell? ⟨w.heap.size, 5, none⟩ = some (.string c.old) ∧ w'.cell? ⟨B2, 0, none⟩ = some (.int .i64 y.op) ∧ w'.cell? ⟨B2, 1, none⟩ = some (.int .i64 y.client) ∧ w'.cell? ⟨B2, 2, none⟩ = some (.int .i64 y.seq) ∧ w'.cell? ⟨B2, 3, none⟩ = some (.string y.key) ∧ w'.cell? ⟨B2, 4, none⟩ = some (.string y.value) ∧ w'.cell? ⟨B2, 5, none⟩ = some (.string y.old)) := fun w' k => by
      obtain ⟨a0, a1, a2, a3, a4, a5⟩ := cmd_cells (k.blk Bc.out (fun h => h))
      obtain ⟨b0, b1, b2, b3, b4, b5⟩ := cmd_cells (k.blk By.out (fun h => h))
      exact ⟨a0, a1, a2, a3, a4, a5, b0, b1, b2, b3, b4, b5⟩
    refine wp_region_noPanic ?_
    refine wp_region_held_drew (S := fun w' => w'.cell? ⟨w.heap.size, 0, none⟩ = some (.int .i64 c.op) ∧ w'.cell? ⟨w.heap.size, 1, none⟩ = some (.int .i64 c.client) ∧ w'.cell? ⟨w.heap.size, 2, none⟩ = some (.int .i64 c.seq) ∧ w'.cell? ⟨w.heap.size, 3, none⟩ = some (.string c.key) ∧ w'.cell? ⟨w.heap.size, 4, none⟩ = some (.string c.value) ∧ w'.cell? ⟨w.heap.size, 5, none⟩ = some (.string c.old) ∧ w'.cell? ⟨B2, 0, none⟩ = some (.int .i64 y.op) ∧ w'.cell? ⟨B2, 1, none⟩ = some (.int .i64 y.client) ∧ w'.cell? ⟨B2, 2, none⟩ = some (.int .i64 y.seq) ∧ w'.cell? ⟨B2, 3, none⟩ = some (.string y.key) ∧ w'.cell? ⟨B2, 4, none⟩ = some (.string y.value) ∧ w'.cell? ⟨B2, 5, none⟩ = some (.string y.old)) (by kernel_rfl) (HSS.out _ (Kept.drew _ _)) (fun hHeld => ?_)
    refine wpAnyH_take (i := 0) (oi := ⟨some 45, Op.load 24 (Operand.tmp 5), 24, _, _, none⟩) (v := ?v0n1k1) rfl (by kernel_rfl) (by kernel_rfl) (by kernel_rfl) (fun _ _ _ h => h) (Or.inl ⟨by rfl, ?y0n1k1⟩) hHeld ?z0n1k1
    case y0n1k1 => intro w hSw; (try dsimp only at hSw); go_simp <;> rfl
    try simp only [Act.put, List.setIfInBounds_toArray, List.set_cons_zero, List.set_cons_succ]
    refine wpAnyH_take (i := 2) (oi := ⟨some 47, Op.load 24 (Operand.tmp 5), 24, _, _, none⟩) (v := ?v2n1k2) rfl (by kernel_rfl) (by kernel_rfl) (by kernel_rfl) (fun _ _ _ h => h) (Or.inl ⟨by rfl, ?y2n1k2⟩) hHeld ?z2n1k2
    case y2n1k2 => intro w hSw; (try dsimp only at hSw); go_simp <;> rfl
    try simp only [Act.put, List.setIfInBounds_toArray, List.set_cons_zero, List.set_cons_succ]
    refine wpAnyH_ready (rs := [1]) (by kernel_rfl) (by simp) ?_
    refine AllReadyH.cons (o := ⟨some 46, Op.call { callee := Callee.value (Operand.func 12), args := #[Operand.tmp 45], argTypes := #[24] }, 4, _, _, none⟩) rfl (fun K hK => ?_) AllReadyH.nil
    go_simp
    refine (hx _).mono ?_
    rintro e w4 ⟨rfl, k4⟩
    have K4 := Lib.hid ((Kept.drew noBlock wc).step k4)
    clear k4
    dsimp only
    refine hK.out _ _ (HSS.out _ K4.out) (fun hHeld => ?_)
    clear hK K
    try simp only [Act.put, List.setIfInBounds_toArray, List.set_cons_zero, List.set_cons_succ]
    refine wpAnyH_ready (rs := [3]) (by kernel_rfl) (by simp) ?_
    refine AllReadyH.cons (o := ⟨some 48, Op.call { callee := Callee.value (Operand.func 13), args := #[Operand.tmp 47], argTypes := #[24] }, 4, _, _, none⟩) rfl (fun K hK => ?_) AllReadyH.nil
    go_simp
    refine (hxr _).mono ?_
    rintro e w5 ⟨rfl, k5⟩
    have K5 := Lib.hid (K4.out.step k5)
    clear k5
    dsimp only
    refine hK.out _ _ (HSS.out _ K5.out) (fun hHeld => ?_)
    clear hK K
    try simp only [Act.put, List.setIfInBounds_toArray, List.set_cons_zero, List.set_cons_succ]
    refine wpAnyH_take (i := 4) (oi := ⟨some 49, Op.binOp BinOp.eql 4 (Operand.tmp 46) (Operand.tmp 48) 4, 4, _, _, none⟩) (v := ?v4n1k3) rfl (by kernel_rfl) (by kernel_rfl) (by kernel_rfl) (fun _ _ _ h => h) (Or.inl ⟨by rfl, ?y4n1k3⟩) hHeld ?z4n1k3
    case y4n1k3 => intro w hSw; (try dsimp only at hSw); go_simp <;> rfl
    try simp only [Act.put, List.setIfInBounds_toArray, List.set_cons_zero, List.set_cons_succ]
    refine wpAnyH_take (i := 5) (oi := ⟨some 50, Op.move (Operand.tmp 49), 4, _, _, none⟩) (v := ?v5n1k4) rfl (by kernel_rfl) (by kernel_rfl) (by kernel_rfl) (fun _ _ _ h => h) (Or.inl ⟨by rfl, ?y5n1k4⟩) hHeld ?z5n1k4
    case y5n1k4 => intro w hSw; (try dsimp only at hSw); go_simp <;> rfl
    try simp only [Act.put, List.setIfInBounds_toArray, List.set_cons_zero, List.set_cons_succ]
    refine wpAnyH_take (i := 6) (oi := ⟨some 51, Op.load 24 (Operand.tmp 11), 24, _, _, some (5, true)⟩) (v := ?v6n1k5) rfl (by kernel_rfl) (by kernel_rfl) (by kernel_rfl) (fun _ _ _ h => h) (Or.inl ⟨by rfl, ?y6n1k5⟩) hHeld ?z6n1k5
    case y6n1k5 => intro w hSw; (try dsimp only at hSw); go_simp <;> rfl
    try simp only [Act.put, List.setIfInBounds_toArray, List.set_cons_zero, List.set_cons_succ]
    refine wpAnyH_take (i := 8) (oi := ⟨some 53, Op.load 24 (Operand.tmp 11), 24, _, _, some (5, true)⟩) (v := ?v8n1k6) rfl (by kernel_rfl) (by kernel_rfl) (by kernel_rfl) (fun _ _ _ h => h) (Or.inl ⟨by rfl, ?y8n1k6⟩) hHeld ?z8n1k6
    case y8n1k6 => intro w hSw; (try dsimp only at hSw); go_simp <;> rfl
    try simp only [Act.put, List.setIfInBounds_toArray, List.set_cons_zero, List.set_cons_succ]
    refine wpAnyH_ready (rs := [7]) (by kernel_rfl) (by simp) ?_
    refine AllReadyH.cons (o := ⟨some 52, Op.call { callee := Callee.value (Operand.func 12), args := #[Operand.tmp 51], argTypes := #[24] }, 4, _, _, some (5, true)⟩) rfl (fun K hK => ?_) AllReadyH.nil
    go_simp
    refine (hyx _).mono ?_
    rintro e w6 ⟨rfl, k6⟩
    have K6 := Lib.hid (K5.out.step k6)
    clear k6
    dsimp only
    refine hK.out _ _ (HSS.out _ K6.out) (fun hHeld => ?_)
    clear hK K
    try simp only [Act.put, List.setIfInBounds_toArray, List.set_cons_zero, List.set_cons_succ]
    refine wpAnyH_ready (rs := [9]) (by kernel_rfl) (by simp) ?_
    refine AllReadyH.cons (o := ⟨some 54, Op.call { callee := Callee.value (Operand.func 13), args := #[Operand.tmp 53], argTypes := #[24] }, 4, _, _, some (5, true)⟩) rfl (fun K hK => ?_) AllReadyH.nil
    go_simp
    refine (hyr _).mono ?_
    rintro e w7 ⟨rfl, k7⟩
    have K7 := Lib.hid (K6.out.step k7)
    clear k7
    dsimp only
    refine hK.out _ _ (HSS.out _ K7.out) (fun hHeld => ?_)
    clear hK K
    try simp only [Act.put, List.setIfInBounds_toArray, List.set_cons_zero, List.set_cons_succ]
    refine wpAnyH_take (i := 10) (oi := ⟨some 55, Op.binOp BinOp.eql 4 (Operand.tmp 52) (Operand.tmp 54) 4, 4, _, _, some (5, true)⟩) (v := ?v10n1k7) rfl (by kernel_rfl) (by kernel_rfl) (by kernel_rfl) (fun _ _ _ h => h) (Or.inl ⟨by rfl, ?y10n1k7⟩) hHeld ?z10n1k7
    case y10n1k7 => intro w hSw; (try dsimp only at hSw); go_simp <;> rfl
    try simp only [Act.put, List.setIfInBounds_toArray, List.set_cons_zero, List.set_cons_succ]
    refine wpAnyH_take (i := 11) (oi := ⟨some 56, Op.pick (Operand.tmp 50) (Operand.tmp 55) (Operand.const (Value.bool false)), 4, _, _, none⟩) (v := ?v11n1k8) rfl (by kernel_rfl) (by kernel_rfl) (by kernel_rfl) (fun _ _ _ h => h) (Or.inl ⟨by rfl, ?y11n1k8⟩) hHeld ?z11n1k8
    case y11n1k8 => intro w hSw; (try dsimp only at hSw); go_simp <;> rfl
    try simp only [Act.put, List.setIfInBounds_toArray, List.set_cons_zero, List.set_cons_succ]
    refine wpAnyH_take (i := 12) (oi := ⟨some 10, Op.assign (Operand.tmp 56), 4, _, _, none⟩) (v := ?v12n1k9) rfl (by kernel_rfl) (by kernel_rfl) (by kernel_rfl) (fun _ _ _ h => h) (Or.inl ⟨by rfl, ?y12n1k9⟩) hHeld ?z12n1k9
    case y12n1k9 => intro w hSw; (try dsimp only at hSw); go_simp <;> rfl
    try simp only [Act.put, List.setIfInBounds_toArray, List.set_cons_zero, List.set_cons_succ]
    refine wpAnyH_done (by kernel_rfl) ?_ _
    refine NoPanic.normal ?_
    go_wp2
    go_ret
    exact ⟨rfl, Kc.out.step K7.out⟩

end Go.Proofs.Ytgffdobhdkieaaa
