/-
  CmdsRight: what it does with whatever entry. No statement is proved here.
-/
import Derived.Test.YtgffdobhdkieaaaL6Awake
import Derived.Test.YtgffdobhdkieaaaL6Ref
import Derived.Test.YtgffdobhdkieaaaL6Say
namespace Go.Proofs.Ytgffdobhdkieaaa
open Go.RowKit

theorem ent_cells {w : World} {B : Nat} {e : EntryV} {t : TypeId} {fr : Nat × Nat} (h : w.heap[B]? = some (.cells e.cells.toArray t fr)) : w.cell? ⟨B, 0, none⟩ = some (.int .i64 e.index) ∧ w.cell? ⟨B, 1, none⟩ = some (.int .i64 e.term) ∧ w.cell? ⟨B, 2, none⟩ = some (.int .i64 e.cmd.op) ∧ w.cell? ⟨B, 3, none⟩ = some (.int .i64 e.cmd.client) ∧ w.cell? ⟨B, 4, none⟩ = some (.int .i64 e.cmd.seq) ∧ w.cell? ⟨B, 5, none⟩ = some (.string e.cmd.key) ∧ w.cell? ⟨B, 6, none⟩ = some (.string e.cmd.value) ∧ w.cell? ⟨B, 7, none⟩ = some (.string e.cmd.old) :=
  ⟨cell_of_row _ _ _ _ _ _ h, cell_of_row _ _ _ _ _ _ h, cell_of_row _ _ _ _ _ _ h, cell_of_row _ _ _ _ _ _ h, cell_of_row _ _ _ _ _ _ h, cell_of_row _ _ _ _ _ _ h, cell_of_row _ _ _ _ _ _ h, cell_of_row _ _ _ _ _ _ h⟩
theorem say_cells {w : World} {B : Nat} {s : SayV} {t : TypeId} {fr : Nat × Nat} (h : w.heap[B]? = some (.cells s.cells.toArray t fr)) : w.cell? ⟨B, 0, none⟩ = some (.int .u8 (s.op.toNat : Int)) ∧ w.cell? ⟨B, 1, none⟩ = some (.int .u8 (s.client.toNat : Int)) ∧ w.cell? ⟨B, 2, none⟩ = some (.int .u8 (s.seq.toNat : Int)) ∧ w.cell? ⟨B, 3, none⟩ = some (.int .u8 (s.key.toNat : Int)) ∧ w.cell? ⟨B, 4, none⟩ = some (.int .u8 (s.value.toNat : Int)) ∧ w.cell? ⟨B, 5, none⟩ = some (.int .u8 (s.old.toNat : Int)) :=
  ⟨cell_of_row _ _ _ _ _ _ h, cell_of_row _ _ _ _ _ _ h, cell_of_row _ _ _ _ _ _ h, cell_of_row _ _ _ _ _ _ h, cell_of_row _ _ _ _ _ _ h, cell_of_row _ _ _ _ _ _ h⟩

set_option maxHeartbeats 2000000 in
theorem right_walk (x : EntryV) (s : SayV) (n m : Int) (w : World) : Calls Try.prog 4 #[x.val, s.val, .int .i64 n, .int .i64 m] w fun e w' => e = .returned (.bool true) ∧ Kept noBlock w w' := by
  have hx := right_any x
  have hxr := ref_right x
  obtain ⟨r, hr⟩ : ∃ r, decide x.Right = r := ⟨_, rfl⟩
  rw [hr] at hx hxr
  clear hr
  have hsay := say_any s
  obtain ⟨w0, hw0⟩ : ∃ w0, w0 = (w.alloc (.cells x.cells.toArray 32)).alloc (.cells s.cells.toArray 26) := ⟨_, rfl⟩
  have K0 : Hid (Kept noBlock w w0) := by unfold Hid; rw [hw0]; exact (Kept.alloc _ _ _).step (Kept.alloc _ _ _)
  have B0 : Hid (w0.heap[w.heap.size]? = some (.cells x.cells.toArray 32 (0, 0))) := by unfold Hid; rw [hw0]; exact (Kept.alloc noBlock _ _).blk (heap_alloc_new w _) (fun h => h)
  have B1 : Hid (w0.heap[w.heap.size + 1]? = some (.cells s.cells.toArray 26 (0, 0))) := by
    unfold Hid
    have := heap_alloc_new (w.alloc (.cells x.cells.toArray 32)) (.cells s.cells.toArray 26)
    rw [hw0]
    simpa using this
  unfold EntryV.cells SayV.cells at hw0
  unfold EntryV.val at hx hxr
  unfold SayV.val CmdV.val at hsay
  unfold EntryV.val SayV.val
  go_enter Try.func4, Try.ntmps4
  go_wp2_with fail
  rw [← hw0]
  clear hw0
  refine (awake_any w0).mono ?_
  rintro e w1 ⟨rfl, k1⟩
  obtain ⟨c0, c1, c2, c3, c4, c5⟩ := say_cells (k1.blk B1.out (fun h => h))
  have K1 := Lib.hid k1
  clear k1
  go_wp2_with fail
  refine (hsay _).mono ?_
  rintro e w2 ⟨rfl, k2⟩
  have K2 := Lib.hid (K1.out.step k2)
  clear k2 c0 c1 c2 c3 c4 c5
  obtain ⟨y, hy⟩ : ∃ y : EntryV, y = ⟨n, m, s.cmd⟩ := ⟨_, rfl⟩
  have hyx := right_any y
  have hyr := ref_right y
  obtain ⟨q, hq⟩ : ∃ q, decide y.Right = q := ⟨_, rfl⟩
  rw [hq] at hyx hyr
  clear hq
  unfold EntryV.val at hyx hyr
  go_upto_region 4 with (fail)
  have e3 : w2.alloc (.cells #[.int .i64 n, .int .i64 m, .int .i64 s.cmd.op, .int .i64 s.cmd.client, .int .i64 s.cmd.seq, .string s.cmd.key, .string s.cmd.value, .string s.cmd.old] 32) = w2.alloc (.cells y.cells.toArray 32) := by rw [hy]; rfl
  rw [e3]
  clear e3 hy
  have B3 := Lib.hid (heap_alloc_new w2 (.cells y.cells.toArray 32))
  have B4 := Lib.hid ((K2.out.step (Kept.alloc noBlock w2 (.cells y.cells.toArray 32))).blk B0.out (fun h => h))
  have K3 := Lib.hid ((K0.out.step K2.out).step (Kept.alloc noBlock w2 (.cells y.cells.toArray 32)))
  obtain ⟨B2, hB2⟩ : ∃ B2, B2 = w2.heap.size := ⟨_, rfl⟩
  rw [← hB2] at B3 ⊢
  clear hB2
  generalize w2.alloc (.cells y.cells.toArray 32) = w3 at B3 B4 K3 ⊢
  have HSS : Hid (∀ w', Kept noBlock w3 w' → w'.cell? ⟨w.heap.size, 0, none⟩ = some (.int .i64 x.index) ∧ w'.cell? ⟨w.heap.size, 1, none⟩ = some (.int .i64 x.term) ∧ w'.cell? ⟨w.heap.size, 2, none⟩ = some (.int .i64 x.cmd.op) ∧ w'.cell? ⟨w.heap.size, 3, none⟩ = some (.int .i64 x.cmd.client) ∧ w'.cell? ⟨w.heap.size, 4, none⟩ = some (.int .i64 x.cmd.seq) ∧ w'.cell? ⟨w.heap.size, 5, none⟩ = some (.string x.cmd.key) ∧ w'.cell? ⟨w.heap.size, 6, none⟩ = some (.string x.cmd.value) ∧ w'.cell? ⟨w.heap.size, 7, none⟩ = some (.string x.cmd.old) ∧ w'.cell? ⟨B2, 0, none⟩ = some (.int .i64 y.index) ∧ w'.cell? ⟨B2, 1, none⟩ = some (.int .i64 y.term) ∧ w'.cell? ⟨B2, 2, none⟩ = some (.int .i64 y.cmd.op) ∧ w'.cell? ⟨B2, 3, none⟩ = some (.int .i64 y.cmd.client) ∧ w'.cell? ⟨B2, 4, none⟩ = some (.int .i64 y.cmd.seq) ∧ w'.cell? ⟨B2, 5, none⟩ = some (.string y.cmd.key) ∧ w'.cell? ⟨B2, 6, none⟩ = some (.string y.cmd.value) ∧ w'.cell? ⟨B2, 7, none⟩ = some (.string y.cmd.old)) := fun w' k => by
    obtain ⟨a0, a1, a2, a3, a4, a5, a6, a7⟩ := ent_cells (k.blk B4.out (fun h => h))
    obtain ⟨b0, b1, b2, b3, b4, b5, b6, b7⟩ := ent_cells (k.blk B3.out (fun h => h))
    exact ⟨a0, a1, a2, a3, a4, a5, a6, a7, b0, b1, b2, b3, b4, b5, b6, b7⟩
  refine wp_region_noPanic ?_
  refine wp_region_held_drew (S := fun w' => w'.cell? ⟨w.heap.size, 0, none⟩ = some (.int .i64 x.index) ∧ w'.cell? ⟨w.heap.size, 1, none⟩ = some (.int .i64 x.term) ∧ w'.cell? ⟨w.heap.size, 2, none⟩ = some (.int .i64 x.cmd.op) ∧ w'.cell? ⟨w.heap.size, 3, none⟩ = some (.int .i64 x.cmd.client) ∧ w'.cell? ⟨w.heap.size, 4, none⟩ = some (.int .i64 x.cmd.seq) ∧ w'.cell? ⟨w.heap.size, 5, none⟩ = some (.string x.cmd.key) ∧ w'.cell? ⟨w.heap.size, 6, none⟩ = some (.string x.cmd.value) ∧ w'.cell? ⟨w.heap.size, 7, none⟩ = some (.string x.cmd.old) ∧ w'.cell? ⟨B2, 0, none⟩ = some (.int .i64 y.index) ∧ w'.cell? ⟨B2, 1, none⟩ = some (.int .i64 y.term) ∧ w'.cell? ⟨B2, 2, none⟩ = some (.int .i64 y.cmd.op) ∧ w'.cell? ⟨B2, 3, none⟩ = some (.int .i64 y.cmd.client) ∧ w'.cell? ⟨B2, 4, none⟩ = some (.int .i64 y.cmd.seq) ∧ w'.cell? ⟨B2, 5, none⟩ = some (.string y.cmd.key) ∧ w'.cell? ⟨B2, 6, none⟩ = some (.string y.cmd.value) ∧ w'.cell? ⟨B2, 7, none⟩ = some (.string y.cmd.old)) (by kernel_rfl) (HSS.out _ (Kept.drew _ _)) (fun hHeld => ?_)
  refine wpAnyH_take (i := 0) (oi := ⟨some 17, Op.load 32 (Operand.tmp 4), 32, _, _, none⟩) (v := ?v0n1k1) rfl (by kernel_rfl) (by kernel_rfl) (by kernel_rfl) (fun _ _ _ h => h) (Or.inl ⟨by rfl, ?y0n1k1⟩) hHeld ?z0n1k1
  case y0n1k1 => intro w hSw; (try dsimp only at hSw); go_simp <;> rfl
  try simp only [Act.put, List.setIfInBounds_toArray, List.set_cons_zero, List.set_cons_succ]
  refine wpAnyH_take (i := 2) (oi := ⟨some 19, Op.load 32 (Operand.tmp 4), 32, _, _, none⟩) (v := ?v2n1k2) rfl (by kernel_rfl) (by kernel_rfl) (by kernel_rfl) (fun _ _ _ h => h) (Or.inl ⟨by rfl, ?y2n1k2⟩) hHeld ?z2n1k2
  case y2n1k2 => intro w hSw; (try dsimp only at hSw); go_simp <;> rfl
  try simp only [Act.put, List.setIfInBounds_toArray, List.set_cons_zero, List.set_cons_succ]
  refine wpAnyH_ready (rs := [1]) (by kernel_rfl) (by simp) ?_
  refine AllReadyH.cons (o := ⟨some 18, Op.call { callee := Callee.value (Operand.func 14), args := #[Operand.tmp 17], argTypes := #[32] }, 4, _, _, none⟩) rfl (fun K hK => ?_) AllReadyH.nil
  go_simp
  refine (hx _).mono ?_
  rintro e w4 ⟨rfl, k4⟩
  have K4 := Lib.hid ((Kept.drew noBlock w3).step k4)
  clear k4
  dsimp only
  refine hK.out _ _ (HSS.out _ K4.out) (fun hHeld => ?_)
  clear hK K
  try simp only [Act.put, List.setIfInBounds_toArray, List.set_cons_zero, List.set_cons_succ]
  refine wpAnyH_ready (rs := [3]) (by kernel_rfl) (by simp) ?_
  refine AllReadyH.cons (o := ⟨some 20, Op.call { callee := Callee.value (Operand.func 15), args := #[Operand.tmp 19], argTypes := #[32] }, 4, _, _, none⟩) rfl (fun K hK => ?_) AllReadyH.nil
  go_simp
  refine (hxr _).mono ?_
  rintro e w5 ⟨rfl, k5⟩
  have K5 := Lib.hid (K4.out.step k5)
  clear k5
  dsimp only
  refine hK.out _ _ (HSS.out _ K5.out) (fun hHeld => ?_)
  clear hK K
  try simp only [Act.put, List.setIfInBounds_toArray, List.set_cons_zero, List.set_cons_succ]
  refine wpAnyH_take (i := 4) (oi := ⟨some 21, Op.binOp BinOp.eql 4 (Operand.tmp 18) (Operand.tmp 20) 4, 4, _, _, none⟩) (v := ?v4n1k3) rfl (by kernel_rfl) (by kernel_rfl) (by kernel_rfl) (fun _ _ _ h => h) (Or.inl ⟨by rfl, ?y4n1k3⟩) hHeld ?z4n1k3
  case y4n1k3 => intro w hSw; (try dsimp only at hSw); go_simp <;> rfl
  try simp only [Act.put, List.setIfInBounds_toArray, List.set_cons_zero, List.set_cons_succ]
  refine wpAnyH_take (i := 5) (oi := ⟨some 22, Op.move (Operand.tmp 21), 4, _, _, none⟩) (v := ?v5n1k4) rfl (by kernel_rfl) (by kernel_rfl) (by kernel_rfl) (fun _ _ _ h => h) (Or.inl ⟨by rfl, ?y5n1k4⟩) hHeld ?z5n1k4
  case y5n1k4 => intro w hSw; (try dsimp only at hSw); go_simp <;> rfl
  try simp only [Act.put, List.setIfInBounds_toArray, List.set_cons_zero, List.set_cons_succ]
  refine wpAnyH_take (i := 6) (oi := ⟨some 23, Op.load 32 (Operand.tmp 9), 32, _, _, some (5, true)⟩) (v := ?v6n1k5) rfl (by kernel_rfl) (by kernel_rfl) (by kernel_rfl) (fun _ _ _ h => h) (Or.inl ⟨by rfl, ?y6n1k5⟩) hHeld ?z6n1k5
  case y6n1k5 => intro w hSw; (try dsimp only at hSw); go_simp <;> rfl
  try simp only [Act.put, List.setIfInBounds_toArray, List.set_cons_zero, List.set_cons_succ]
  refine wpAnyH_take (i := 8) (oi := ⟨some 25, Op.load 32 (Operand.tmp 9), 32, _, _, some (5, true)⟩) (v := ?v8n1k6) rfl (by kernel_rfl) (by kernel_rfl) (by kernel_rfl) (fun _ _ _ h => h) (Or.inl ⟨by rfl, ?y8n1k6⟩) hHeld ?z8n1k6
  case y8n1k6 => intro w hSw; (try dsimp only at hSw); go_simp <;> rfl
  try simp only [Act.put, List.setIfInBounds_toArray, List.set_cons_zero, List.set_cons_succ]
  refine wpAnyH_ready (rs := [7]) (by kernel_rfl) (by simp) ?_
  refine AllReadyH.cons (o := ⟨some 24, Op.call { callee := Callee.value (Operand.func 14), args := #[Operand.tmp 23], argTypes := #[32] }, 4, _, _, some (5, true)⟩) rfl (fun K hK => ?_) AllReadyH.nil
  go_simp
  refine (hyx _).mono ?_
  rintro e w6 ⟨rfl, k6⟩
  have K6 := Lib.hid (K5.out.step k6)
  clear k6
  dsimp only
  refine hK.out _ _ (HSS.out _ K6.out) (fun hHeld => ?_)
  clear hK K
  try simp only [Act.put, List.setIfInBounds_toArray, List.set_cons_zero, List.set_cons_succ]
  refine wpAnyH_ready (rs := [9]) (by kernel_rfl) (by simp) ?_
  refine AllReadyH.cons (o := ⟨some 26, Op.call { callee := Callee.value (Operand.func 15), args := #[Operand.tmp 25], argTypes := #[32] }, 4, _, _, some (5, true)⟩) rfl (fun K hK => ?_) AllReadyH.nil
  go_simp
  refine (hyr _).mono ?_
  rintro e w7 ⟨rfl, k7⟩
  have K7 := Lib.hid (K6.out.step k7)
  clear k7
  dsimp only
  refine hK.out _ _ (HSS.out _ K7.out) (fun hHeld => ?_)
  clear hK K
  try simp only [Act.put, List.setIfInBounds_toArray, List.set_cons_zero, List.set_cons_succ]
  refine wpAnyH_take (i := 10) (oi := ⟨some 27, Op.binOp BinOp.eql 4 (Operand.tmp 24) (Operand.tmp 26) 4, 4, _, _, some (5, true)⟩) (v := ?v10n1k7) rfl (by kernel_rfl) (by kernel_rfl) (by kernel_rfl) (fun _ _ _ h => h) (Or.inl ⟨by rfl, ?y10n1k7⟩) hHeld ?z10n1k7
  case y10n1k7 => intro w hSw; (try dsimp only at hSw); go_simp <;> rfl
  try simp only [Act.put, List.setIfInBounds_toArray, List.set_cons_zero, List.set_cons_succ]
  refine wpAnyH_take (i := 11) (oi := ⟨some 28, Op.pick (Operand.tmp 22) (Operand.tmp 27) (Operand.const (Value.bool false)), 4, _, _, none⟩) (v := ?v11n1k8) rfl (by kernel_rfl) (by kernel_rfl) (by kernel_rfl) (fun _ _ _ h => h) (Or.inl ⟨by rfl, ?y11n1k8⟩) hHeld ?z11n1k8
  case y11n1k8 => intro w hSw; (try dsimp only at hSw); go_simp <;> rfl
  try simp only [Act.put, List.setIfInBounds_toArray, List.set_cons_zero, List.set_cons_succ]
  refine wpAnyH_take (i := 12) (oi := ⟨some 8, Op.assign (Operand.tmp 28), 4, _, _, none⟩) (v := ?v12n1k9) rfl (by kernel_rfl) (by kernel_rfl) (by kernel_rfl) (fun _ _ _ h => h) (Or.inl ⟨by rfl, ?y12n1k9⟩) hHeld ?z12n1k9
  case y12n1k9 => intro w hSw; (try dsimp only at hSw); go_simp <;> rfl
  try simp only [Act.put, List.setIfInBounds_toArray, List.set_cons_zero, List.set_cons_succ]
  refine wpAnyH_done (by kernel_rfl) ?_ _
  refine NoPanic.normal ?_
  go_wp2
  go_ret
  exact ⟨rfl, K3.out.step K7.out⟩

end Go.Proofs.Ytgffdobhdkieaaa
