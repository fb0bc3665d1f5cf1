/-
  CmdsApart: what it does with whatever says. No statement is proved here.
-/
import Derived.Test.YtgffdobhdkieaaaL6Step
namespace Go.Proofs.Ytgffdobhdkieaaa
open Go.RowKit

theorem wrap_small (a3 : Nat) (h : a3 < 256) : IntKind.i64.wrap (1 + IntKind.i64.wrap (a3 : Int)) = 1 + (a3 : Int) := by
  rw [IntWalk.i64_in (a3 : Int) (by omega), IntWalk.i64_in _ (by omega)]

set_option maxHeartbeats 4000000 in
theorem apart_walk (s t : SayV) (a b : UInt8) (w : World) : Calls Try.prog 8 #[s.val, t.val, .int .u8 (a.toNat : Int), .int .u8 (b.toNat : Int)] w fun e w' => e = .returned (.bool true) ∧ Kept noBlock w w' := by
  have hsay := say_any s
  have htay := say_any t
  obtain ⟨a3, ha3⟩ : ∃ k, k = a.toNat % 3 := ⟨_, rfl⟩
  obtain ⟨b3, hb3⟩ : ∃ k, k = b.toNat % 3 := ⟨_, rfl⟩
  have t1 : ((a.toNat : Int)).tmod 3 = (a3 : Int) := by rw [ha3]; exact tmod_nat _ 3
  have t2 : ((b.toNat : Int)).tmod 3 = (b3 : Int) := by rw [hb3]; exact tmod_nat _ 3
  have XR : Hid (EntryV.Right ⟨IntKind.i64.wrap (1 + IntKind.i64.wrap (a3 : Int)), 0, s.cmd⟩) := by
    unfold Hid
    rw [wrap_small a3 (by omega)]
    exact ⟨by show (1 : Int) ≤ 1 + (a3 : Int); omega, by show 1 + (a3 : Int) ≤ 1048576; omega, by show (0 : Int) ≤ 0; omega, by show (0 : Int) ≤ 1048576; omega, s.may⟩
  have YR : Hid (EntryV.Right ⟨IntKind.i64.wrap (1 + IntKind.i64.wrap (b3 : Int)), 0, t.cmd⟩) := by
    unfold Hid
    rw [wrap_small b3 (by omega)]
    exact ⟨by show (1 : Int) ≤ 1 + (b3 : Int); omega, by show 1 + (b3 : Int) ≤ 1048576; omega, by show (0 : Int) ≤ 0; omega, by show (0 : Int) ≤ 1048576; omega, t.may⟩
  clear ha3 hb3
  obtain ⟨w0, hw0⟩ : ∃ w0, w0 = (w.alloc (.cells s.cells.toArray 26)).alloc (.cells t.cells.toArray 26) := ⟨_, rfl⟩
  have K0 : Hid (Kept noBlock w w0) := by unfold Hid; rw [hw0]; exact (Kept.alloc _ _ _).step (Kept.alloc _ _ _)
  have B0 : Hid (w0.heap[w.heap.size]? = some (.cells s.cells.toArray 26 (0, 0))) := by unfold Hid; rw [hw0]; exact (Kept.alloc noBlock _ _).blk (heap_alloc_new w _) (fun h => h)
  have B1 : Hid (w0.heap[w.heap.size + 1]? = some (.cells t.cells.toArray 26 (0, 0))) := by
    unfold Hid
    have := heap_alloc_new (w.alloc (.cells s.cells.toArray 26)) (.cells t.cells.toArray 26)
    rw [hw0]
    simpa using this
  unfold SayV.cells at hw0
  unfold SayV.val CmdV.val at hsay htay
  unfold SayV.val
  go_enter Try.func8, Try.ntmps8
  go_wp2_with fail
  rw [← hw0]
  clear hw0
  refine (awake_any w0).mono ?_
  rintro e w1 ⟨rfl, k1⟩
  have HSS : Hid (∀ w', Kept noBlock w1 w' → w'.cell? ⟨w.heap.size, 0, none⟩ = some (.int .u8 (s.op.toNat : Int)) ∧ w'.cell? ⟨w.heap.size, 1, none⟩ = some (.int .u8 (s.client.toNat : Int)) ∧ w'.cell? ⟨w.heap.size, 2, none⟩ = some (.int .u8 (s.seq.toNat : Int)) ∧ w'.cell? ⟨w.heap.size, 3, none⟩ = some (.int .u8 (s.key.toNat : Int)) ∧ w'.cell? ⟨w.heap.size, 4, none⟩ = some (.int .u8 (s.value.toNat : Int)) ∧ w'.cell? ⟨w.heap.size, 5, none⟩ = some (.int .u8 (s.old.toNat : Int)) ∧ w'.cell? ⟨w.heap.size + 1, 0, none⟩ = some (.int .u8 (t.op.toNat : Int)) ∧ w'.cell? ⟨w.heap.size + 1, 1, none⟩ = some (.int .u8 (t.client.toNat : Int)) ∧ w'.cell? ⟨w.heap.size + 1, 2, none⟩ = some (.int .u8 (t.seq.toNat : Int)) ∧ w'.cell? ⟨w.heap.size + 1, 3, none⟩ = some (.int .u8 (t.key.toNat : Int)) ∧ w'.cell? ⟨w.heap.size + 1, 4, none⟩ = some (.int .u8 (t.value.toNat : Int)) ∧ w'.cell? ⟨w.heap.size + 1, 5, none⟩ = some (.int .u8 (t.old.toNat : Int))) := fun w' k => by
    obtain ⟨a0, a1, a2, a3, a4, a5⟩ := say_cells ((k1.step k).blk B0.out (fun h => h))
    obtain ⟨b0, b1, b2, b3, b4, b5⟩ := say_cells ((k1.step k).blk B1.out (fun h => h))
    exact ⟨a0, a1, a2, a3, a4, a5, b0, b1, b2, b3, b4, b5⟩
  have K1 := Lib.hid (K0.out.step k1)
  clear k1 B0 B1 K0
  go_upto_region 3 with (fail)
  go_cut [9, 10] (fun p q wc => ∃ A B, p = .pointer (some ⟨A, 0, none⟩) ∧ q = .pointer (some ⟨B, 0, none⟩) ∧ Hid (wc.heap[A]? = some (.cells (EntryV.cells ⟨IntKind.i64.wrap (1 + IntKind.i64.wrap (a3 : Int)), 0, s.cmd⟩).toArray 32 (0, 0))) ∧ Hid (wc.heap[B]? = some (.cells (EntryV.cells ⟨IntKind.i64.wrap (1 + IntKind.i64.wrap (b3 : Int)), 0, t.cmd⟩).toArray 32 (0, 0))) ∧ Hid (Kept noBlock w wc))
  case first =>
    have HF : Hid (Places w1 w1.drew none none) := Places.start (Kept.drew _ _)
    refine wp_region_noPanic ?_
    refine wp_region_held_drew (S := fun w' => w'.cell? ⟨w.heap.size, 0, none⟩ = some (.int .u8 (s.op.toNat : Int)) ∧ w'.cell? ⟨w.heap.size, 1, none⟩ = some (.int .u8 (s.client.toNat : Int)) ∧ w'.cell? ⟨w.heap.size, 2, none⟩ = some (.int .u8 (s.seq.toNat : Int)) ∧ w'.cell? ⟨w.heap.size, 3, none⟩ = some (.int .u8 (s.key.toNat : Int)) ∧ w'.cell? ⟨w.heap.size, 4, none⟩ = some (.int .u8 (s.value.toNat : Int)) ∧ w'.cell? ⟨w.heap.size, 5, none⟩ = some (.int .u8 (s.old.toNat : Int)) ∧ w'.cell? ⟨w.heap.size + 1, 0, none⟩ = some (.int .u8 (t.op.toNat : Int)) ∧ w'.cell? ⟨w.heap.size + 1, 1, none⟩ = some (.int .u8 (t.client.toNat : Int)) ∧ w'.cell? ⟨w.heap.size + 1, 2, none⟩ = some (.int .u8 (t.seq.toNat : Int)) ∧ w'.cell? ⟨w.heap.size + 1, 3, none⟩ = some (.int .u8 (t.key.toNat : Int)) ∧ w'.cell? ⟨w.heap.size + 1, 4, none⟩ = some (.int .u8 (t.value.toNat : Int)) ∧ w'.cell? ⟨w.heap.size + 1, 5, none⟩ = some (.int .u8 (t.old.toNat : Int))) (by kernel_rfl) (HSS.out _ (Kept.drew _ _)) (fun hHeld => ?_)
    refine wpAnyH_take (i := 0) (oi := ⟨some 13, Op.move (Operand.tmp 2), 5, _, _, none⟩) (v := ?v0n4k1) rfl (by kernel_rfl) (by kernel_rfl) (by kernel_rfl) (fun _ _ _ h => h) (Or.inl ⟨by rfl, ?y0n4k1⟩) hHeld ?z0n4k1
    case y0n4k1 => intro w hSw; (try dsimp only at hSw); go_simp <;> rfl
    try simp only [Act.put, List.setIfInBounds_toArray, List.set_cons_zero, List.set_cons_succ]
    refine wpAnyH_take (i := 1) (oi := ⟨some 14, Op.binOp BinOp.rem 5 (Operand.tmp 13) (Operand.const (Value.int IntKind.u8 3)) 5, 5, _, _, none⟩) (v := ?v1n4k2) rfl (by kernel_rfl) (by kernel_rfl) (by kernel_rfl) (fun _ _ _ h => h) (Or.inl ⟨by rfl, ?y1n4k2⟩) hHeld ?z1n4k2
    case y1n4k2 => intro w hSw; (try dsimp only at hSw); go_simp <;> rfl
    try simp only [Act.put, List.setIfInBounds_toArray, List.set_cons_zero, List.set_cons_succ]
    refine wpAnyH_take (i := 2) (oi := ⟨some 15, Op.convert 5 3 (Operand.tmp 14), 3, _, _, none⟩) (v := ?v2n4k3) rfl (by kernel_rfl) (by kernel_rfl) (by kernel_rfl) (fun _ _ _ h => h) (Or.inl ⟨by rfl, ?y2n4k3⟩) hHeld ?z2n4k3
    case y2n4k3 => intro w hSw; (try dsimp only at hSw); go_simp <;> rfl
    try simp only [Act.put, List.setIfInBounds_toArray, List.set_cons_zero, List.set_cons_succ]
    refine wpAnyH_take (i := 3) (oi := ⟨some 16, Op.binOp BinOp.add 3 (Operand.const (Value.int IntKind.i64 1)) (Operand.tmp 15) 3, 3, _, _, none⟩) (v := ?v3n4k4) rfl (by kernel_rfl) (by kernel_rfl) (by kernel_rfl) (fun _ _ _ h => h) (Or.inl ⟨by rfl, ?y3n4k4⟩) hHeld ?z3n4k4
    case y3n4k4 => intro w hSw; (try dsimp only at hSw); go_simp <;> rfl
    try simp only [Act.put, List.setIfInBounds_toArray, List.set_cons_zero, List.set_cons_succ]
    refine wpAnyH_take (i := 4) (oi := ⟨some 17, Op.load 26 (Operand.tmp 4), 26, _, _, none⟩) (v := ?v4n4k5) rfl (by kernel_rfl) (by kernel_rfl) (by kernel_rfl) (fun _ _ _ h => h) (Or.inl ⟨by rfl, ?y4n4k5⟩) hHeld ?z4n4k5
    case y4n4k5 => intro w hSw; (try dsimp only at hSw); go_simp <;> rfl
    try simp only [Act.put, List.setIfInBounds_toArray, List.set_cons_zero, List.set_cons_succ]
    refine wpAnyH_take (i := 7) (oi := ⟨some 20, Op.move (Operand.tmp 3), 5, _, _, none⟩) (v := ?v7n4k6) rfl (by kernel_rfl) (by kernel_rfl) (by kernel_rfl) (fun _ _ _ h => h) (Or.inl ⟨by rfl, ?y7n4k6⟩) hHeld ?z7n4k6
    case y7n4k6 => intro w hSw; (try dsimp only at hSw); go_simp <;> rfl
    try simp only [Act.put, List.setIfInBounds_toArray, List.set_cons_zero, List.set_cons_succ]
    refine wpAnyH_take (i := 8) (oi := ⟨some 21, Op.binOp BinOp.rem 5 (Operand.tmp 20) (Operand.const (Value.int IntKind.u8 3)) 5, 5, _, _, none⟩) (v := ?v8n4k7) rfl (by kernel_rfl) (by kernel_rfl) (by kernel_rfl) (fun _ _ _ h => h) (Or.inl ⟨by rfl, ?y8n4k7⟩) hHeld ?z8n4k7
    case y8n4k7 => intro w hSw; (try dsimp only at hSw); go_simp <;> rfl
    try simp only [Act.put, List.setIfInBounds_toArray, List.set_cons_zero, List.set_cons_succ]
    refine wpAnyH_take (i := 9) (oi := ⟨some 22, Op.convert 5 3 (Operand.tmp 21), 3, _, _, none⟩) (v := ?v9n4k8) rfl (by kernel_rfl) (by kernel_rfl) (by kernel_rfl) (fun _ _ _ h => h) (Or.inl ⟨by rfl, ?y9n4k8⟩) hHeld ?z9n4k8
    case y9n4k8 => intro w hSw; (try dsimp only at hSw); go_simp <;> rfl
    try simp only [Act.put, List.setIfInBounds_toArray, List.set_cons_zero, List.set_cons_succ]
    refine wpAnyH_take (i := 10) (oi := ⟨some 23, Op.binOp BinOp.add 3 (Operand.const (Value.int IntKind.i64 1)) (Operand.tmp 22) 3, 3, _, _, none⟩) (v := ?v10n4k9) rfl (by kernel_rfl) (by kernel_rfl) (by kernel_rfl) (fun _ _ _ h => h) (Or.inl ⟨by rfl, ?y10n4k9⟩) hHeld ?z10n4k9
    case y10n4k9 => intro w hSw; (try dsimp only at hSw); go_simp <;> rfl
    try simp only [Act.put, List.setIfInBounds_toArray, List.set_cons_zero, List.set_cons_succ]
    refine wpAnyH_take (i := 11) (oi := ⟨some 24, Op.load 26 (Operand.tmp 5), 26, _, _, none⟩) (v := ?v11n4k10) rfl (by kernel_rfl) (by kernel_rfl) (by kernel_rfl) (fun _ _ _ h => h) (Or.inl ⟨by rfl, ?y11n4k10⟩) hHeld ?z11n4k10
    case y11n4k10 => intro w hSw; (try dsimp only at hSw); go_simp <;> rfl
    try simp only [Act.put, List.setIfInBounds_toArray, List.set_cons_zero, List.set_cons_succ]
    refine wpAnyH_ready (rs := [5, 14, 15]) (by kernel_rfl) (by simp) ?_
    refine (AllReadyH.cons (o := ⟨some 18, Op.call { callee := Callee.value (Operand.func 11), args := #[Operand.tmp 17], argTypes := #[26] }, 24, _, _, none⟩) rfl (fun K hK => ?b5n4k13) (AllReadyH.cons (o := ⟨some 9, Op.alloc 32, 0, _, _, none⟩) rfl (fun K hK => ?b14n4k12) (AllReadyH.cons (o := ⟨some 10, Op.alloc 32, 0, _, _, none⟩) rfl (fun K hK => ?b15n4k11) AllReadyH.nil)))
    case b5n4k13 =>
      go_simp
      refine (hsay _).mono ?_
      rintro e u5 ⟨rfl, k5⟩
      have HF2 := Lib.hid (HF.out.step k5)
      replace HF := HF2
      clear HF2 k5
      dsimp only
      refine hK.out _ _ (HSS.out _ HF.out.kept) (fun hHeld => ?_)
      clear hK K
      try simp only [Act.put, List.setIfInBounds_toArray, List.set_cons_zero, List.set_cons_succ]
      refine wpAnyH_take (i := 6) (oi := ⟨some 19, Op.build 32 #[(0, Operand.tmp 16), (2, Operand.tmp 18)], 32, _, _, none⟩) (v := ?v6n4k14) rfl (by kernel_rfl) (by kernel_rfl) (by kernel_rfl) (fun _ _ _ h => h) (Or.inl ⟨by rfl, ?y6n4k14⟩) hHeld ?z6n4k14
      case y6n4k14 => intro w hSw; (try dsimp only at hSw); go_simp <;> rfl
      try simp only [Act.put, List.setIfInBounds_toArray, List.set_cons_zero, List.set_cons_succ]
      refine wpAnyH_ready (rs := [12, 14, 15]) (by kernel_rfl) (by simp) ?_
      refine (AllReadyH.cons (o := ⟨some 25, Op.call { callee := Callee.value (Operand.func 11), args := #[Operand.tmp 24], argTypes := #[26] }, 24, _, _, none⟩) rfl (fun K hK => ?b12n4k17) (AllReadyH.cons (o := ⟨some 9, Op.alloc 32, 0, _, _, none⟩) rfl (fun K hK => ?b14n4k16) (AllReadyH.cons (o := ⟨some 10, Op.alloc 32, 0, _, _, none⟩) rfl (fun K hK => ?b15n4k15) AllReadyH.nil)))
      case b12n4k17 =>
        go_simp
        refine (htay _).mono ?_
        rintro e u12 ⟨rfl, k12⟩
        have HF2 := Lib.hid (HF.out.step k12)
        replace HF := HF2
        clear HF2 k12
        dsimp only
        refine hK.out _ _ (HSS.out _ HF.out.kept) (fun hHeld => ?_)
        clear hK K
        try simp only [Act.put, List.setIfInBounds_toArray, List.set_cons_zero, List.set_cons_succ]
        refine wpAnyH_take (i := 13) (oi := ⟨some 26, Op.build 32 #[(0, Operand.tmp 23), (2, Operand.tmp 25)], 32, _, _, none⟩) (v := ?v13n4k18) rfl (by kernel_rfl) (by kernel_rfl) (by kernel_rfl) (fun _ _ _ h => h) (Or.inl ⟨by rfl, ?y13n4k18⟩) hHeld ?z13n4k18
        case y13n4k18 => intro w hSw; (try dsimp only at hSw); go_simp <;> rfl
        try simp only [Act.put, List.setIfInBounds_toArray, List.set_cons_zero, List.set_cons_succ]
        refine wpAnyH_ready (rs := [14, 15]) (by kernel_rfl) (by simp) ?_
        refine (AllReadyH.cons (o := ⟨some 9, Op.alloc 32, 0, _, _, none⟩) rfl (fun K hK => ?b14n4k20) (AllReadyH.cons (o := ⟨some 10, Op.alloc 32, 0, _, _, none⟩) rfl (fun K hK => ?b15n4k19) AllReadyH.nil))
        case b14n4k20 =>
          refine step_allocA HF.out ?_
          intro B9 u14 HF2
          replace HF := Lib.hid HF2
          clear HF2
          refine hK.out _ _ (HSS.out _ HF.out.kept) (fun hHeld => ?_)
          clear hK K
          try simp only [Act.put, List.setIfInBounds_toArray, List.set_cons_zero, List.set_cons_succ]
          refine wpAnyH_ready (rs := [15]) (by kernel_rfl) (by simp) ?_
          refine AllReadyH.cons (o := ⟨some 10, Op.alloc 32, 0, _, _, none⟩) rfl (fun K hK => ?_) AllReadyH.nil
          refine step_allocB HF.out ?_
          intro B10 u15 HF2
          replace HF := Lib.hid HF2
          clear HF2
          refine hK.out _ _ (HSS.out _ HF.out.kept) (fun hHeld => ?_)
          clear hK K
          try simp only [Act.put, List.setIfInBounds_toArray, List.set_cons_zero, List.set_cons_succ]
          refine wpAnyH_ready (rs := [16]) (by kernel_rfl) (by simp) ?_
          refine AllReadyH.cons (o := ⟨none, Op.store 32 (Operand.tmp 9) (Operand.tmp 19), 0, _, _, none⟩) rfl (fun K hK => ?_) AllReadyH.nil
          refine step_store ⟨IntKind.i64.wrap (1 + IntKind.i64.wrap (a3 : Int)), 0, s.cmd⟩ rfl rfl (HF.out.hasA _ rfl).2 ?_
          intro u16 k16 h16
          have h16b := k16.blk (HF.out.hasB _ rfl).2 (fun h => (HF.out.ne _ _ rfl rfl) h.symm)
          have K16 := Lib.hid (HF.out.kept.trans k16 (fun i hi h => by have := (HF.out.hasA _ rfl).1; omega))
          have NE16 := Lib.hid (HF.out.ne _ _ rfl rfl)
          have LB := Lib.hid (HF.out.hasB _ rfl).1
          have H16 := Lib.hid h16
          have H16b := Lib.hid h16b
          clear HF k16 h16 h16b
          refine hK.out _ _ (HSS.out _ K16.out) (fun hHeld => ?_)
          clear hK K
          try simp only [Act.put, List.setIfInBounds_toArray, List.set_cons_zero, List.set_cons_succ]
          refine wpAnyH_ready (rs := [17]) (by kernel_rfl) (by simp) ?_
          refine AllReadyH.cons (o := ⟨none, Op.store 32 (Operand.tmp 10) (Operand.tmp 26), 0, _, _, none⟩) rfl (fun K hK => ?_) AllReadyH.nil
          refine step_store ⟨IntKind.i64.wrap (1 + IntKind.i64.wrap (b3 : Int)), 0, t.cmd⟩ rfl rfl H16b.out ?_
          intro u17 k17 h17
          have H17 := Lib.hid h17
          have H17a := Lib.hid (k17.blk H16.out NE16.out)
          have K17 := Lib.hid (K16.out.trans k17 (fun i hi h => by have := LB.out; omega))
          clear k17 h17
          refine hK.out _ _ (HSS.out _ K17.out) (fun hHeld => ?_)
          clear hK K
          try simp only [Act.put, List.setIfInBounds_toArray, List.set_cons_zero, List.set_cons_succ]
          refine wpAnyH_done (by kernel_rfl) ?_ _
          refine NoPanic.normal ?_
          go_wp2
          go_meet
          case rel => exact ⟨B9, B10, rfl, rfl, H17a, H17, Lib.hid (K1.out.step K17.out)⟩
        case b15n4k19 =>
          refine step_allocB HF.out ?_
          intro B10 u15 HF2
          replace HF := Lib.hid HF2
          clear HF2
          refine hK.out _ _ (HSS.out _ HF.out.kept) (fun hHeld => ?_)
          clear hK K
          try simp only [Act.put, List.setIfInBounds_toArray, List.set_cons_zero, List.set_cons_succ]
          refine wpAnyH_ready (rs := [14]) (by kernel_rfl) (by simp) ?_
          refine AllReadyH.cons (o := ⟨some 9, Op.alloc 32, 0, _, _, none⟩) rfl (fun K hK => ?_) AllReadyH.nil
          refine step_allocA HF.out ?_
          intro B9 u14 HF2
          replace HF := Lib.hid HF2
          clear HF2
          refine hK.out _ _ (HSS.out _ HF.out.kept) (fun hHeld => ?_)
          clear hK K
          try simp only [Act.put, List.setIfInBounds_toArray, List.set_cons_zero, List.set_cons_succ]
          refine wpAnyH_ready (rs := [16]) (by kernel_rfl) (by simp) ?_
          refine AllReadyH.cons (o := ⟨none, Op.store 32 (Operand.tmp 9) (Operand.tmp 19), 0, _, _, none⟩) rfl (fun K hK => ?_) AllReadyH.nil
          refine step_store ⟨IntKind.i64.wrap (1 + IntKind.i64.wrap (a3 : Int)), 0, s.cmd⟩ rfl rfl (HF.out.hasA _ rfl).2 ?_
          intro u16 k16 h16
          have h16b := k16.blk (HF.out.hasB _ rfl).2 (fun h => (HF.out.ne _ _ rfl rfl) h.symm)
          have K16 := Lib.hid (HF.out.kept.trans k16 (fun i hi h => by have := (HF.out.hasA _ rfl).1; omega))
          have NE16 := Lib.hid (HF.out.ne _ _ rfl rfl)
          have LB := Lib.hid (HF.out.hasB _ rfl).1
          have H16 := Lib.hid h16
          have H16b := Lib.hid h16b
          clear HF k16 h16 h16b
          refine hK.out _ _ (HSS.out _ K16.out) (fun hHeld => ?_)
          clear hK K
          try simp only [Act.put, List.setIfInBounds_toArray, List.set_cons_zero, List.set_cons_succ]
          refine wpAnyH_ready (rs := [17]) (by kernel_rfl) (by simp) ?_
          refine AllReadyH.cons (o := ⟨none, Op.store 32 (Operand.tmp 10) (Operand.tmp 26), 0, _, _, none⟩) rfl (fun K hK => ?_) AllReadyH.nil
          refine step_store ⟨IntKind.i64.wrap (1 + IntKind.i64.wrap (b3 : Int)), 0, t.cmd⟩ rfl rfl H16b.out ?_
          intro u17 k17 h17
          have H17 := Lib.hid h17
          have H17a := Lib.hid (k17.blk H16.out NE16.out)
          have K17 := Lib.hid (K16.out.trans k17 (fun i hi h => by have := LB.out; omega))
          clear k17 h17
          refine hK.out _ _ (HSS.out _ K17.out) (fun hHeld => ?_)
          clear hK K
          try simp only [Act.put, List.setIfInBounds_toArray, List.set_cons_zero, List.set_cons_succ]
          refine wpAnyH_done (by kernel_rfl) ?_ _
          refine NoPanic.normal ?_
          go_wp2
          go_meet
          case rel => exact ⟨B9, B10, rfl, rfl, H17a, H17, Lib.hid (K1.out.step K17.out)⟩
      case b14n4k16 =>
        refine step_allocA HF.out ?_
        intro B9 u14 HF2
        replace HF := Lib.hid HF2
        clear HF2
        refine hK.out _ _ (HSS.out _ HF.out.kept) (fun hHeld => ?_)
        clear hK K
        try simp only [Act.put, List.setIfInBounds_toArray, List.set_cons_zero, List.set_cons_succ]
        refine wpAnyH_ready (rs := [12, 15]) (by kernel_rfl) (by simp) ?_
        refine (AllReadyH.cons (o := ⟨some 25, Op.call { callee := Callee.value (Operand.func 11), args := #[Operand.tmp 24], argTypes := #[26] }, 24, _, _, none⟩) rfl (fun K hK => ?b12n4k22) (AllReadyH.cons (o := ⟨some 10, Op.alloc 32, 0, _, _, none⟩) rfl (fun K hK => ?b15n4k21) AllReadyH.nil))
        case b12n4k22 =>
          go_simp
          refine (htay _).mono ?_
          rintro e u12 ⟨rfl, k12⟩
          have HF2 := Lib.hid (HF.out.step k12)
          replace HF := HF2
          clear HF2 k12
          dsimp only
          refine hK.out _ _ (HSS.out _ HF.out.kept) (fun hHeld => ?_)
          clear hK K
          try simp only [Act.put, List.setIfInBounds_toArray, List.set_cons_zero, List.set_cons_succ]
          refine wpAnyH_take (i := 13) (oi := ⟨some 26, Op.build 32 #[(0, Operand.tmp 23), (2, Operand.tmp 25)], 32, _, _, none⟩) (v := ?v13n4k23) rfl (by kernel_rfl) (by kernel_rfl) (by kernel_rfl) (fun _ _ _ h => h) (Or.inl ⟨by rfl, ?y13n4k23⟩) hHeld ?z13n4k23
          case y13n4k23 => intro w hSw; (try dsimp only at hSw); go_simp <;> rfl
          try simp only [Act.put, List.setIfInBounds_toArray, List.set_cons_zero, List.set_cons_succ]
          refine wpAnyH_ready (rs := [15]) (by kernel_rfl) (by simp) ?_
          refine AllReadyH.cons (o := ⟨some 10, Op.alloc 32, 0, _, _, none⟩) rfl (fun K hK => ?_) AllReadyH.nil
          refine step_allocB HF.out ?_
          intro B10 u15 HF2
          replace HF := Lib.hid HF2
          clear HF2
          refine hK.out _ _ (HSS.out _ HF.out.kept) (fun hHeld => ?_)
          clear hK K
          try simp only [Act.put, List.setIfInBounds_toArray, List.set_cons_zero, List.set_cons_succ]
          refine wpAnyH_ready (rs := [16]) (by kernel_rfl) (by simp) ?_
          refine AllReadyH.cons (o := ⟨none, Op.store 32 (Operand.tmp 9) (Operand.tmp 19), 0, _, _, none⟩) rfl (fun K hK => ?_) AllReadyH.nil
          refine step_store ⟨IntKind.i64.wrap (1 + IntKind.i64.wrap (a3 : Int)), 0, s.cmd⟩ rfl rfl (HF.out.hasA _ rfl).2 ?_
          intro u16 k16 h16
          have h16b := k16.blk (HF.out.hasB _ rfl).2 (fun h => (HF.out.ne _ _ rfl rfl) h.symm)
          have K16 := Lib.hid (HF.out.kept.trans k16 (fun i hi h => by have := (HF.out.hasA _ rfl).1; omega))
          have NE16 := Lib.hid (HF.out.ne _ _ rfl rfl)
          have LB := Lib.hid (HF.out.hasB _ rfl).1
          have H16 := Lib.hid h16
          have H16b := Lib.hid h16b
          clear HF k16 h16 h16b
          refine hK.out _ _ (HSS.out _ K16.out) (fun hHeld => ?_)
          clear hK K
          try simp only [Act.put, List.setIfInBounds_toArray, List.set_cons_zero, List.set_cons_succ]
          refine wpAnyH_ready (rs := [17]) (by kernel_rfl) (by simp) ?_
          refine AllReadyH.cons (o := ⟨none, Op.store 32 (Operand.tmp 10) (Operand.tmp 26), 0, _, _, none⟩) rfl (fun K hK => ?_) AllReadyH.nil
          refine step_store ⟨IntKind.i64.wrap (1 + IntKind.i64.wrap (b3 : Int)), 0, t.cmd⟩ rfl rfl H16b.out ?_
          intro u17 k17 h17
          have H17 := Lib.hid h17
          have H17a := Lib.hid (k17.blk H16.out NE16.out)
          have K17 := Lib.hid (K16.out.trans k17 (fun i hi h => by have := LB.out; omega))
          clear k17 h17
          refine hK.out _ _ (HSS.out _ K17.out) (fun hHeld => ?_)
          clear hK K
          try simp only [Act.put, List.setIfInBounds_toArray, List.set_cons_zero, List.set_cons_succ]
          refine wpAnyH_done (by kernel_rfl) ?_ _
          refine NoPanic.normal ?_
          go_wp2
          go_meet
          case rel => exact ⟨B9, B10, rfl, rfl, H17a, H17, Lib.hid (K1.out.step K17.out)⟩
        case b15n4k21 =>
          refine step_allocB HF.out ?_
          intro B10 u15 HF2
          replace HF := Lib.hid HF2
          clear HF2
          refine hK.out _ _ (HSS.out _ HF.out.kept) (fun hHeld => ?_)
          clear hK K
          try simp only [Act.put, List.setIfInBounds_toArray, List.set_cons_zero, List.set_cons_succ]
          refine wpAnyH_ready (rs := [12]) (by kernel_rfl) (by simp) ?_
          refine AllReadyH.cons (o := ⟨some 25, Op.call { callee := Callee.value (Operand.func 11), args := #[Operand.tmp 24], argTypes := #[26] }, 24, _, _, none⟩) rfl (fun K hK => ?_) AllReadyH.nil
          go_simp
          refine (htay _).mono ?_
          rintro e u12 ⟨rfl, k12⟩
          have HF2 := Lib.hid (HF.out.step k12)
          replace HF := HF2
          clear HF2 k12
          dsimp only
          refine hK.out _ _ (HSS.out _ HF.out.kept) (fun hHeld => ?_)
          clear hK K
          try simp only [Act.put, List.setIfInBounds_toArray, List.set_cons_zero, List.set_cons_succ]
          refine wpAnyH_take (i := 13) (oi := ⟨some 26, Op.build 32 #[(0, Operand.tmp 23), (2, Operand.tmp 25)], 32, _, _, none⟩) (v := ?v13n4k24) rfl (by kernel_rfl) (by kernel_rfl) (by kernel_rfl) (fun _ _ _ h => h) (Or.inl ⟨by rfl, ?y13n4k24⟩) hHeld ?z13n4k24
          case y13n4k24 => intro w hSw; (try dsimp only at hSw); go_simp <;> rfl
          try simp only [Act.put, List.setIfInBounds_toArray, List.set_cons_zero, List.set_cons_succ]
          refine wpAnyH_ready (rs := [16]) (by kernel_rfl) (by simp) ?_
          refine AllReadyH.cons (o := ⟨none, Op.store 32 (Operand.tmp 9) (Operand.tmp 19), 0, _, _, none⟩) rfl (fun K hK => ?_) AllReadyH.nil
          refine step_store ⟨IntKind.i64.wrap (1 + IntKind.i64.wrap (a3 : Int)), 0, s.cmd⟩ rfl rfl (HF.out.hasA _ rfl).2 ?_
          intro u16 k16 h16
          have h16b := k16.blk (HF.out.hasB _ rfl).2 (fun h => (HF.out.ne _ _ rfl rfl) h.symm)
          have K16 := Lib.hid (HF.out.kept.trans k16 (fun i hi h => by have := (HF.out.hasA _ rfl).1; omega))
          have NE16 := Lib.hid (HF.out.ne _ _ rfl rfl)
          have LB := Lib.hid (HF.out.hasB _ rfl).1
          have H16 := Lib.hid h16
          have H16b := Lib.hid h16b
          clear HF k16 h16 h16b
          refine hK.out _ _ (HSS.out _ K16.out) (fun hHeld => ?_)
          clear hK K
          try simp only [Act.put, List.setIfInBounds_toArray, List.set_cons_zero, List.set_cons_succ]
          refine wpAnyH_ready (rs := [17]) (by kernel_rfl) (by simp) ?_
          refine AllReadyH.cons (o := ⟨none, Op.store 32 (Operand.tmp 10) (Operand.tmp 26), 0, _, _, none⟩) rfl (fun K hK => ?_) AllReadyH.nil
          refine step_store ⟨IntKind.i64.wrap (1 + IntKind.i64.wrap (b3 : Int)), 0, t.cmd⟩ rfl rfl H16b.out ?_
          intro u17 k17 h17
          have H17 := Lib.hid h17
          have H17a := Lib.hid (k17.blk H16.out NE16.out)
          have K17 := Lib.hid (K16.out.trans k17 (fun i hi h => by have := LB.out; omega))
          clear k17 h17
          refine hK.out _ _ (HSS.out _ K17.out) (fun hHeld => ?_)
          clear hK K
          try simp only [Act.put, List.setIfInBounds_toArray, List.set_cons_zero, List.set_cons_succ]
          refine wpAnyH_done (by kernel_rfl) ?_ _
          refine NoPanic.normal ?_
          go_wp2
          go_meet
          case rel => exact ⟨B9, B10, rfl, rfl, H17a, H17, Lib.hid (K1.out.step K17.out)⟩
      case b15n4k15 =>
        refine step_allocB HF.out ?_
        intro B10 u15 HF2
        replace HF := Lib.hid HF2
        clear HF2
        refine hK.out _ _ (HSS.out _ HF.out.kept) (fun hHeld => ?_)
        clear hK K
        try simp only [Act.put, List.setIfInBounds_toArray, List.set_cons_zero, List.set_cons_succ]
        refine wpAnyH_ready (rs := [12, 14]) (by kernel_rfl) (by simp) ?_
        refine (AllReadyH.cons (o := ⟨some 25, Op.call { callee := Callee.value (Operand.func 11), args := #[Operand.tmp 24], argTypes := #[26] }, 24, _, _, none⟩) rfl (fun K hK => ?b12n4k26) (AllReadyH.cons (o := ⟨some 9, Op.alloc 32, 0, _, _, none⟩) rfl (fun K hK => ?b14n4k25) AllReadyH.nil))
        case b12n4k26 =>
          go_simp
          refine (htay _).mono ?_
          rintro e u12 ⟨rfl, k12⟩
          have HF2 := Lib.hid (HF.out.step k12)
          replace HF := HF2
          clear HF2 k12
          dsimp only
          refine hK.out _ _ (HSS.out _ HF.out.kept) (fun hHeld => ?_)
          clear hK K
          try simp only [Act.put, List.setIfInBounds_toArray, List.set_cons_zero, List.set_cons_succ]
          refine wpAnyH_take (i := 13) (oi := ⟨some 26, Op.build 32 #[(0, Operand.tmp 23), (2, Operand.tmp 25)], 32, _, _, none⟩) (v := ?v13n4k27) rfl (by kernel_rfl) (by kernel_rfl) (by kernel_rfl) (fun _ _ _ h => h) (Or.inl ⟨by rfl, ?y13n4k27⟩) hHeld ?z13n4k27
          case y13n4k27 => intro w hSw; (try dsimp only at hSw); go_simp <;> rfl
          try simp only [Act.put, List.setIfInBounds_toArray, List.set_cons_zero, List.set_cons_succ]
          refine wpAnyH_ready (rs := [14]) (by kernel_rfl) (by simp) ?_
          refine AllReadyH.cons (o := ⟨some 9, Op.alloc 32, 0, _, _, none⟩) rfl (fun K hK => ?_) AllReadyH.nil
          refine step_allocA HF.out ?_
          intro B9 u14 HF2
          replace HF := Lib.hid HF2
          clear HF2
          refine hK.out _ _ (HSS.out _ HF.out.kept) (fun hHeld => ?_)
          clear hK K
          try simp only [Act.put, List.setIfInBounds_toArray, List.set_cons_zero, List.set_cons_succ]
          refine wpAnyH_ready (rs := [16]) (by kernel_rfl) (by simp) ?_
          refine AllReadyH.cons (o := ⟨none, Op.store 32 (Operand.tmp 9) (Operand.tmp 19), 0, _, _, none⟩) rfl (fun K hK => ?_) AllReadyH.nil
          refine step_store ⟨IntKind.i64.wrap (1 + IntKind.i64.wrap (a3 : Int)), 0, s.cmd⟩ rfl rfl (HF.out.hasA _ rfl).2 ?_
          intro u16 k16 h16
          have h16b := k16.blk (HF.out.hasB _ rfl).2 (fun h => (HF.out.ne _ _ rfl rfl) h.symm)
          have K16 := Lib.hid (HF.out.kept.trans k16 (fun i hi h => by have := (HF.out.hasA _ rfl).1; omega))
          have NE16 := Lib.hid (HF.out.ne _ _ rfl rfl)
          have LB := Lib.hid (HF.out.hasB _ rfl).1
          have H16 := Lib.hid h16
          have H16b := Lib.hid h16b
          clear HF k16 h16 h16b
          refine hK.out _ _ (HSS.out _ K16.out) (fun hHeld => ?_)
          clear hK K
          try simp only [Act.put, List.setIfInBounds_toArray, List.set_cons_zero, List.set_cons_succ]
          refine wpAnyH_ready (rs := [17]) (by kernel_rfl) (by simp) ?_
          refine AllReadyH.cons (o := ⟨none, Op.store 32 (Operand.tmp 10) (Operand.tmp 26), 0, _, _, none⟩) rfl (fun K hK => ?_) AllReadyH.nil
          refine step_store ⟨IntKind.i64.wrap (1 + IntKind.i64.wrap (b3 : Int)), 0, t.cmd⟩ rfl rfl H16b.out ?_
          intro u17 k17 h17
          have H17 := Lib.hid h17
          have H17a := Lib.hid (k17.blk H16.out NE16.out)
          have K17 := Lib.hid (K16.out.trans k17 (fun i hi h => by have := LB.out; omega))
          clear k17 h17
          refine hK.out _ _ (HSS.out _ K17.out) (fun hHeld => ?_)
          clear hK K
          try simp only [Act.put, List.setIfInBounds_toArray, List.set_cons_zero, List.set_cons_succ]
          refine wpAnyH_done (by kernel_rfl) ?_ _
          refine NoPanic.normal ?_
          go_wp2
          go_meet
          case rel => exact ⟨B9, B10, rfl, rfl, H17a, H17, Lib.hid (K1.out.step K17.out)⟩
        case b14n4k25 =>
          refine step_allocA HF.out ?_
          intro B9 u14 HF2
          replace HF := Lib.hid HF2
          clear HF2
          refine hK.out _ _ (HSS.out _ HF.out.kept) (fun hHeld => ?_)
          clear hK K
          try simp only [Act.put, List.setIfInBounds_toArray, List.set_cons_zero, List.set_cons_succ]
          refine wpAnyH_ready (rs := [12]) (by kernel_rfl) (by simp) ?_
          refine AllReadyH.cons (o := ⟨some 25, Op.call { callee := Callee.value (Operand.func 11), args := #[Operand.tmp 24], argTypes := #[26] }, 24, _, _, none⟩) rfl (fun K hK => ?_) AllReadyH.nil
          go_simp
          refine (htay _).mono ?_
          rintro e u12 ⟨rfl, k12⟩
          have HF2 := Lib.hid (HF.out.step k12)
          replace HF := HF2
          clear HF2 k12
          dsimp only
          refine hK.out _ _ (HSS.out _ HF.out.kept) (fun hHeld => ?_)
          clear hK K
          try simp only [Act.put, List.setIfInBounds_toArray, List.set_cons_zero, List.set_cons_succ]
          refine wpAnyH_take (i := 13) (oi := ⟨some 26, Op.build 32 #[(0, Operand.tmp 23), (2, Operand.tmp 25)], 32, _, _, none⟩) (v := ?v13n4k28) rfl (by kernel_rfl) (by kernel_rfl) (by kernel_rfl) (fun _ _ _ h => h) (Or.inl ⟨by rfl, ?y13n4k28⟩) hHeld ?z13n4k28
          case y13n4k28 => intro w hSw; (try dsimp only at hSw); go_simp <;> rfl
          try simp only [Act.put, List.setIfInBounds_toArray, List.set_cons_zero, List.set_cons_succ]
          refine wpAnyH_ready (rs := [16]) (by kernel_rfl) (by simp) ?_
          refine AllReadyH.cons (o := ⟨none, Op.store 32 (Operand.tmp 9) (Operand.tmp 19), 0, _, _, none⟩) rfl (fun K hK => ?_) AllReadyH.nil
          refine step_store ⟨IntKind.i64.wrap (1 + IntKind.i64.wrap (a3 : Int)), 0, s.cmd⟩ rfl rfl (HF.out.hasA _ rfl).2 ?_
          intro u16 k16 h16
          have h16b := k16.blk (HF.out.hasB _ rfl).2 (fun h => (HF.out.ne _ _ rfl rfl) h.symm)
          have K16 := Lib.hid (HF.out.kept.trans k16 (fun i hi h => by have := (HF.out.hasA _ rfl).1; omega))
          have NE16 := Lib.hid (HF.out.ne _ _ rfl rfl)
          have LB := Lib.hid (HF.out.hasB _ rfl).1
          have H16 := Lib.hid h16
          have H16b := Lib.hid h16b
          clear HF k16 h16 h16b
          refine hK.out _ _ (HSS.out _ K16.out) (fun hHeld => ?_)
          clear hK K
          try simp only [Act.put, List.setIfInBounds_toArray, List.set_cons_zero, List.set_cons_succ]
          refine wpAnyH_ready (rs := [17]) (by kernel_rfl) (by simp) ?_
          refine AllReadyH.cons (o := ⟨none, Op.store 32 (Operand.tmp 10) (Operand.tmp 26), 0, _, _, none⟩) rfl (fun K hK => ?_) AllReadyH.nil
          refine step_store ⟨IntKind.i64.wrap (1 + IntKind.i64.wrap (b3 : Int)), 0, t.cmd⟩ rfl rfl H16b.out ?_
          intro u17 k17 h17
          have H17 := Lib.hid h17
          have H17a := Lib.hid (k17.blk H16.out NE16.out)
          have K17 := Lib.hid (K16.out.trans k17 (fun i hi h => by have := LB.out; omega))
          clear k17 h17
          refine hK.out _ _ (HSS.out _ K17.out) (fun hHeld => ?_)
          clear hK K
          try simp only [Act.put, List.setIfInBounds_toArray, List.set_cons_zero, List.set_cons_succ]
          refine wpAnyH_done (by kernel_rfl) ?_ _
          refine NoPanic.normal ?_
          go_wp2
          go_meet
          case rel => exact ⟨B9, B10, rfl, rfl, H17a, H17, Lib.hid (K1.out.step K17.out)⟩
    case b14n4k12 =>
      refine step_allocA HF.out ?_
      intro B9 u14 HF2
      replace HF := Lib.hid HF2
      clear HF2
      refine hK.out _ _ (HSS.out _ HF.out.kept) (fun hHeld => ?_)
      clear hK K
      try simp only [Act.put, List.setIfInBounds_toArray, List.set_cons_zero, List.set_cons_succ]
      refine wpAnyH_ready (rs := [5, 15]) (by kernel_rfl) (by simp) ?_
      refine (AllReadyH.cons (o := ⟨some 18, Op.call { callee := Callee.value (Operand.func 11), args := #[Operand.tmp 17], argTypes := #[26] }, 24, _, _, none⟩) rfl (fun K hK => ?b5n4k30) (AllReadyH.cons (o := ⟨some 10, Op.alloc 32, 0, _, _, none⟩) rfl (fun K hK => ?b15n4k29) AllReadyH.nil))
      case b5n4k30 =>
        go_simp
        refine (hsay _).mono ?_
        rintro e u5 ⟨rfl, k5⟩
        have HF2 := Lib.hid (HF.out.step k5)
        replace HF := HF2
        clear HF2 k5
        dsimp only
        refine hK.out _ _ (HSS.out _ HF.out.kept) (fun hHeld => ?_)
        clear hK K
        try simp only [Act.put, List.setIfInBounds_toArray, List.set_cons_zero, List.set_cons_succ]
        refine wpAnyH_take (i := 6) (oi := ⟨some 19, Op.build 32 #[(0, Operand.tmp 16), (2, Operand.tmp 18)], 32, _, _, none⟩) (v := ?v6n4k31) rfl (by kernel_rfl) (by kernel_rfl) (by kernel_rfl) (fun _ _ _ h => h) (Or.inl ⟨by rfl, ?y6n4k31⟩) hHeld ?z6n4k31
        case y6n4k31 => intro w hSw; (try dsimp only at hSw); go_simp <;> rfl
        try simp only [Act.put, List.setIfInBounds_toArray, List.set_cons_zero, List.set_cons_succ]
        refine wpAnyH_ready (rs := [12, 15]) (by kernel_rfl) (by simp) ?_
        refine (AllReadyH.cons (o := ⟨some 25, Op.call { callee := Callee.value (Operand.func 11), args := #[Operand.tmp 24], argTypes := #[26] }, 24, _, _, none⟩) rfl (fun K hK => ?b12n4k33) (AllReadyH.cons (o := ⟨some 10, Op.alloc 32, 0, _, _, none⟩) rfl (fun K hK => ?b15n4k32) AllReadyH.nil))
        case b12n4k33 =>
          go_simp
          refine (htay _).mono ?_
          rintro e u12 ⟨rfl, k12⟩
          have HF2 := Lib.hid (HF.out.step k12)
          replace HF := HF2
          clear HF2 k12
          dsimp only
          refine hK.out _ _ (HSS.out _ HF.out.kept) (fun hHeld => ?_)
          clear hK K
          try simp only [Act.put, List.setIfInBounds_toArray, List.set_cons_zero, List.set_cons_succ]
          refine wpAnyH_take (i := 13) (oi := ⟨some 26, Op.build 32 #[(0, Operand.tmp 23), (2, Operand.tmp 25)], 32, _, _, none⟩) (v := ?v13n4k34) rfl (by kernel_rfl) (by kernel_rfl) (by kernel_rfl) (fun _ _ _ h => h) (Or.inl ⟨by rfl, ?y13n4k34⟩) hHeld ?z13n4k34
          case y13n4k34 => intro w hSw; (try dsimp only at hSw); go_simp <;> rfl
          try simp only [Act.put, List.setIfInBounds_toArray, List.set_cons_zero, List.set_cons_succ]
          refine wpAnyH_ready (rs := [15]) (by kernel_rfl) (by simp) ?_
          refine AllReadyH.cons (o := ⟨some 10, Op.alloc 32, 0, _, _, none⟩) rfl (fun K hK => ?_) AllReadyH.nil
          refine step_allocB HF.out ?_
          intro B10 u15 HF2
          replace HF := Lib.hid HF2
          clear HF2
          refine hK.out _ _ (HSS.out _ HF.out.kept) (fun hHeld => ?_)
          clear hK K
          try simp only [Act.put, List.setIfInBounds_toArray, List.set_cons_zero, List.set_cons_succ]
          refine wpAnyH_ready (rs := [16]) (by kernel_rfl) (by simp) ?_
          refine AllReadyH.cons (o := ⟨none, Op.store 32 (Operand.tmp 9) (Operand.tmp 19), 0, _, _, none⟩) rfl (fun K hK => ?_) AllReadyH.nil
          refine step_store ⟨IntKind.i64.wrap (1 + IntKind.i64.wrap (a3 : Int)), 0, s.cmd⟩ rfl rfl (HF.out.hasA _ rfl).2 ?_
          intro u16 k16 h16
          have h16b := k16.blk (HF.out.hasB _ rfl).2 (fun h => (HF.out.ne _ _ rfl rfl) h.symm)
          have K16 := Lib.hid (HF.out.kept.trans k16 (fun i hi h => by have := (HF.out.hasA _ rfl).1; omega))
          have NE16 := Lib.hid (HF.out.ne _ _ rfl rfl)
          have LB := Lib.hid (HF.out.hasB _ rfl).1
          have H16 := Lib.hid h16
          have H16b := Lib.hid h16b
          clear HF k16 h16 h16b
          refine hK.out _ _ (HSS.out _ K16.out) (fun hHeld => ?_)
          clear hK K
          try simp only [Act.put, List.setIfInBounds_toArray, List.set_cons_zero, List.set_cons_succ]
          refine wpAnyH_ready (rs := [17]) (by kernel_rfl) (by simp) ?_
          refine AllReadyH.cons (o := ⟨none, Op.store 32 (Operand.tmp 10) (Operand.tmp 26), 0, _, _, none⟩) rfl (fun K hK => ?_) AllReadyH.nil
          refine step_store ⟨IntKind.i64.wrap (1 + IntKind.i64.wrap (b3 : Int)), 0, t.cmd⟩ rfl rfl H16b.out ?_
          intro u17 k17 h17
          have H17 := Lib.hid h17
          have H17a := Lib.hid (k17.blk H16.out NE16.out)
          have K17 := Lib.hid (K16.out.trans k17 (fun i hi h => by have := LB.out; omega))
          clear k17 h17
          refine hK.out _ _ (HSS.out _ K17.out) (fun hHeld => ?_)
          clear hK K
          try simp only [Act.put, List.setIfInBounds_toArray, List.set_cons_zero, List.set_cons_succ]
          refine wpAnyH_done (by kernel_rfl) ?_ _
          refine NoPanic.normal ?_
          go_wp2
          go_meet
          case rel => exact ⟨B9, B10, rfl, rfl, H17a, H17, Lib.hid (K1.out.step K17.out)⟩
        case b15n4k32 =>
          refine step_allocB HF.out ?_
          intro B10 u15 HF2
          replace HF := Lib.hid HF2
          clear HF2
          refine hK.out _ _ (HSS.out _ HF.out.kept) (fun hHeld => ?_)
          clear hK K
          try simp only [Act.put, List.setIfInBounds_toArray, List.set_cons_zero, List.set_cons_succ]
          refine wpAnyH_ready (rs := [12]) (by kernel_rfl) (by simp) ?_
          refine AllReadyH.cons (o := ⟨some 25, Op.call { callee := Callee.value (Operand.func 11), args := #[Operand.tmp 24], argTypes := #[26] }, 24, _, _, none⟩) rfl (fun K hK => ?_) AllReadyH.nil
          go_simp
          refine (htay _).mono ?_
          rintro e u12 ⟨rfl, k12⟩
          have HF2 := Lib.hid (HF.out.step k12)
          replace HF := HF2
          clear HF2 k12
          dsimp only
          refine hK.out _ _ (HSS.out _ HF.out.kept) (fun hHeld => ?_)
          clear hK K
          try simp only [Act.put, List.setIfInBounds_toArray, List.set_cons_zero, List.set_cons_succ]
          refine wpAnyH_take (i := 13) (oi := ⟨some 26, Op.build 32 #[(0, Operand.tmp 23), (2, Operand.tmp 25)], 32, _, _, none⟩) (v := ?v13n4k35) rfl (by kernel_rfl) (by kernel_rfl) (by kernel_rfl) (fun _ _ _ h => h) (Or.inl ⟨by rfl, ?y13n4k35⟩) hHeld ?z13n4k35
          case y13n4k35 => intro w hSw; (try dsimp only at hSw); go_simp <;> rfl
          try simp only [Act.put, List.setIfInBounds_toArray, List.set_cons_zero, List.set_cons_succ]
          refine wpAnyH_ready (rs := [16]) (by kernel_rfl) (by simp) ?_
          refine AllReadyH.cons (o := ⟨none, Op.store 32 (Operand.tmp 9) (Operand.tmp 19), 0, _, _, none⟩) rfl (fun K hK => ?_) AllReadyH.nil
          refine step_store ⟨IntKind.i64.wrap (1 + IntKind.i64.wrap (a3 : Int)), 0, s.cmd⟩ rfl rfl (HF.out.hasA _ rfl).2 ?_
          intro u16 k16 h16
          have h16b := k16.blk (HF.out.hasB _ rfl).2 (fun h => (HF.out.ne _ _ rfl rfl) h.symm)
          have K16 := Lib.hid (HF.out.kept.trans k16 (fun i hi h => by have := (HF.out.hasA _ rfl).1; omega))
          have NE16 := Lib.hid (HF.out.ne _ _ rfl rfl)
          have LB := Lib.hid (HF.out.hasB _ rfl).1
          have H16 := Lib.hid h16
          have H16b := Lib.hid h16b
          clear HF k16 h16 h16b
          refine hK.out _ _ (HSS.out _ K16.out) (fun hHeld => ?_)
          clear hK K
          try simp only [Act.put, List.setIfInBounds_toArray, List.set_cons_zero, List.set_cons_succ]
          refine wpAnyH_ready (rs := [17]) (by kernel_rfl) (by simp) ?_
          refine AllReadyH.cons (o := ⟨none, Op.store 32 (Operand.tmp 10) (Operand.tmp 26), 0, _, _, none⟩) rfl (fun K hK => ?_) AllReadyH.nil
          refine step_store ⟨IntKind.i64.wrap (1 + IntKind.i64.wrap (b3 : Int)), 0, t.cmd⟩ rfl rfl H16b.out ?_
          intro u17 k17 h17
          have H17 := Lib.hid h17
          have H17a := Lib.hid (k17.blk H16.out NE16.out)
          have K17 := Lib.hid (K16.out.trans k17 (fun i hi h => by have := LB.out; omega))
          clear k17 h17
          refine hK.out _ _ (HSS.out _ K17.out) (fun hHeld => ?_)
          clear hK K
          try simp only [Act.put, List.setIfInBounds_toArray, List.set_cons_zero, List.set_cons_succ]
          refine wpAnyH_done (by kernel_rfl) ?_ _
          refine NoPanic.normal ?_
          go_wp2
          go_meet
          case rel => exact ⟨B9, B10, rfl, rfl, H17a, H17, Lib.hid (K1.out.step K17.out)⟩
      case b15n4k29 =>
        refine step_allocB HF.out ?_
        intro B10 u15 HF2
        replace HF := Lib.hid HF2
        clear HF2
        refine hK.out _ _ (HSS.out _ HF.out.kept) (fun hHeld => ?_)
        clear hK K
        try simp only [Act.put, List.setIfInBounds_toArray, List.set_cons_zero, List.set_cons_succ]
        refine wpAnyH_ready (rs := [5]) (by kernel_rfl) (by simp) ?_
        refine AllReadyH.cons (o := ⟨some 18, Op.call { callee := Callee.value (Operand.func 11), args := #[Operand.tmp 17], argTypes := #[26] }, 24, _, _, none⟩) rfl (fun K hK => ?_) AllReadyH.nil
        go_simp
        refine (hsay _).mono ?_
        rintro e u5 ⟨rfl, k5⟩
        have HF2 := Lib.hid (HF.out.step k5)
        replace HF := HF2
        clear HF2 k5
        dsimp only
        refine hK.out _ _ (HSS.out _ HF.out.kept) (fun hHeld => ?_)
        clear hK K
        try simp only [Act.put, List.setIfInBounds_toArray, List.set_cons_zero, List.set_cons_succ]
        refine wpAnyH_take (i := 6) (oi := ⟨some 19, Op.build 32 #[(0, Operand.tmp 16), (2, Operand.tmp 18)], 32, _, _, none⟩) (v := ?v6n4k36) rfl (by kernel_rfl) (by kernel_rfl) (by kernel_rfl) (fun _ _ _ h => h) (Or.inl ⟨by rfl, ?y6n4k36⟩) hHeld ?z6n4k36
        case y6n4k36 => intro w hSw; (try dsimp only at hSw); go_simp <;> rfl
        try simp only [Act.put, List.setIfInBounds_toArray, List.set_cons_zero, List.set_cons_succ]
        refine wpAnyH_ready (rs := [12]) (by kernel_rfl) (by simp) ?_
        refine AllReadyH.cons (o := ⟨some 25, Op.call { callee := Callee.value (Operand.func 11), args := #[Operand.tmp 24], argTypes := #[26] }, 24, _, _, none⟩) rfl (fun K hK => ?_) AllReadyH.nil
        go_simp
        refine (htay _).mono ?_
        rintro e u12 ⟨rfl, k12⟩
        have HF2 := Lib.hid (HF.out.step k12)
        replace HF := HF2
        clear HF2 k12
        dsimp only
        refine hK.out _ _ (HSS.out _ HF.out.kept) (fun hHeld => ?_)
        clear hK K
        try simp only [Act.put, List.setIfInBounds_toArray, List.set_cons_zero, List.set_cons_succ]
        refine wpAnyH_take (i := 13) (oi := ⟨some 26, Op.build 32 #[(0, Operand.tmp 23), (2, Operand.tmp 25)], 32, _, _, none⟩) (v := ?v13n4k37) rfl (by kernel_rfl) (by kernel_rfl) (by kernel_rfl) (fun _ _ _ h => h) (Or.inl ⟨by rfl, ?y13n4k37⟩) hHeld ?z13n4k37
        case y13n4k37 => intro w hSw; (try dsimp only at hSw); go_simp <;> rfl
        try simp only [Act.put, List.setIfInBounds_toArray, List.set_cons_zero, List.set_cons_succ]
        refine wpAnyH_ready (rs := [16]) (by kernel_rfl) (by simp) ?_
        refine AllReadyH.cons (o := ⟨none, Op.store 32 (Operand.tmp 9) (Operand.tmp 19), 0, _, _, none⟩) rfl (fun K hK => ?_) AllReadyH.nil
        refine step_store ⟨IntKind.i64.wrap (1 + IntKind.i64.wrap (a3 : Int)), 0, s.cmd⟩ rfl rfl (HF.out.hasA _ rfl).2 ?_
        intro u16 k16 h16
        have h16b := k16.blk (HF.out.hasB _ rfl).2 (fun h => (HF.out.ne _ _ rfl rfl) h.symm)
        have K16 := Lib.hid (HF.out.kept.trans k16 (fun i hi h => by have := (HF.out.hasA _ rfl).1; omega))
        have NE16 := Lib.hid (HF.out.ne _ _ rfl rfl)
        have LB := Lib.hid (HF.out.hasB _ rfl).1
        have H16 := Lib.hid h16
        have H16b := Lib.hid h16b
        clear HF k16 h16 h16b
        refine hK.out _ _ (HSS.out _ K16.out) (fun hHeld => ?_)
        clear hK K
        try simp only [Act.put, List.setIfInBounds_toArray, List.set_cons_zero, List.set_cons_succ]
        refine wpAnyH_ready (rs := [17]) (by kernel_rfl) (by simp) ?_
        refine AllReadyH.cons (o := ⟨none, Op.store 32 (Operand.tmp 10) (Operand.tmp 26), 0, _, _, none⟩) rfl (fun K hK => ?_) AllReadyH.nil
        refine step_store ⟨IntKind.i64.wrap (1 + IntKind.i64.wrap (b3 : Int)), 0, t.cmd⟩ rfl rfl H16b.out ?_
        intro u17 k17 h17
        have H17 := Lib.hid h17
        have H17a := Lib.hid (k17.blk H16.out NE16.out)
        have K17 := Lib.hid (K16.out.trans k17 (fun i hi h => by have := LB.out; omega))
        clear k17 h17
        refine hK.out _ _ (HSS.out _ K17.out) (fun hHeld => ?_)
        clear hK K
        try simp only [Act.put, List.setIfInBounds_toArray, List.set_cons_zero, List.set_cons_succ]
        refine wpAnyH_done (by kernel_rfl) ?_ _
        refine NoPanic.normal ?_
        go_wp2
        go_meet
        case rel => exact ⟨B9, B10, rfl, rfl, H17a, H17, Lib.hid (K1.out.step K17.out)⟩
    case b15n4k11 =>
      refine step_allocB HF.out ?_
      intro B10 u15 HF2
      replace HF := Lib.hid HF2
      clear HF2
      refine hK.out _ _ (HSS.out _ HF.out.kept) (fun hHeld => ?_)
      clear hK K
      try simp only [Act.put, List.setIfInBounds_toArray, List.set_cons_zero, List.set_cons_succ]
      refine wpAnyH_ready (rs := [5, 14]) (by kernel_rfl) (by simp) ?_
      refine (AllReadyH.cons (o := ⟨some 18, Op.call { callee := Callee.value (Operand.func 11), args := #[Operand.tmp 17], argTypes := #[26] }, 24, _, _, none⟩) rfl (fun K hK => ?b5n4k39) (AllReadyH.cons (o := ⟨some 9, Op.alloc 32, 0, _, _, none⟩) rfl (fun K hK => ?b14n4k38) AllReadyH.nil))
      case b5n4k39 =>
        go_simp
        refine (hsay _).mono ?_
        rintro e u5 ⟨rfl, k5⟩
        have HF2 := Lib.hid (HF.out.step k5)
        replace HF := HF2
        clear HF2 k5
        dsimp only
        refine hK.out _ _ (HSS.out _ HF.out.kept) (fun hHeld => ?_)
        clear hK K
        try simp only [Act.put, List.setIfInBounds_toArray, List.set_cons_zero, List.set_cons_succ]
        refine wpAnyH_take (i := 6) (oi := ⟨some 19, Op.build 32 #[(0, Operand.tmp 16), (2, Operand.tmp 18)], 32, _, _, none⟩) (v := ?v6n4k40) rfl (by kernel_rfl) (by kernel_rfl) (by kernel_rfl) (fun _ _ _ h => h) (Or.inl ⟨by rfl, ?y6n4k40⟩) hHeld ?z6n4k40
        case y6n4k40 => intro w hSw; (try dsimp only at hSw); go_simp <;> rfl
        try simp only [Act.put, List.setIfInBounds_toArray, List.set_cons_zero, List.set_cons_succ]
        refine wpAnyH_ready (rs := [12, 14]) (by kernel_rfl) (by simp) ?_
        refine (AllReadyH.cons (o := ⟨some 25, Op.call { callee := Callee.value (Operand.func 11), args := #[Operand.tmp 24], argTypes := #[26] }, 24, _, _, none⟩) rfl (fun K hK => ?b12n4k42) (AllReadyH.cons (o := ⟨some 9, Op.alloc 32, 0, _, _, none⟩) rfl (fun K hK => ?b14n4k41) AllReadyH.nil))
        case b12n4k42 =>
          go_simp
          refine (htay _).mono ?_
          rintro e u12 ⟨rfl, k12⟩
          have HF2 := Lib.hid (HF.out.step k12)
          replace HF := HF2
          clear HF2 k12
          dsimp only
          refine hK.out _ _ (HSS.out _ HF.out.kept) (fun hHeld => ?_)
          clear hK K
          try simp only [Act.put, List.setIfInBounds_toArray, List.set_cons_zero, List.set_cons_succ]
          refine wpAnyH_take (i := 13) (oi := ⟨some 26, Op.build 32 #[(0, Operand.tmp 23), (2, Operand.tmp 25)], 32, _, _, none⟩) (v := ?v13n4k43) rfl (by kernel_rfl) (by kernel_rfl) (by kernel_rfl) (fun _ _ _ h => h) (Or.inl ⟨by rfl, ?y13n4k43⟩) hHeld ?z13n4k43
          case y13n4k43 => intro w hSw; (try dsimp only at hSw); go_simp <;> rfl
          try simp only [Act.put, List.setIfInBounds_toArray, List.set_cons_zero, List.set_cons_succ]
          refine wpAnyH_ready (rs := [14]) (by kernel_rfl) (by simp) ?_
          refine AllReadyH.cons (o := ⟨some 9, Op.alloc 32, 0, _, _, none⟩) rfl (fun K hK => ?_) AllReadyH.nil
          refine step_allocA HF.out ?_
          intro B9 u14 HF2
          replace HF := Lib.hid HF2
          clear HF2
          refine hK.out _ _ (HSS.out _ HF.out.kept) (fun hHeld => ?_)
          clear hK K
          try simp only [Act.put, List.setIfInBounds_toArray, List.set_cons_zero, List.set_cons_succ]
          refine wpAnyH_ready (rs := [16]) (by kernel_rfl) (by simp) ?_
          refine AllReadyH.cons (o := ⟨none, Op.store 32 (Operand.tmp 9) (Operand.tmp 19), 0, _, _, none⟩) rfl (fun K hK => ?_) AllReadyH.nil
          refine step_store ⟨IntKind.i64.wrap (1 + IntKind.i64.wrap (a3 : Int)), 0, s.cmd⟩ rfl rfl (HF.out.hasA _ rfl).2 ?_
          intro u16 k16 h16
          have h16b := k16.blk (HF.out.hasB _ rfl).2 (fun h => (HF.out.ne _ _ rfl rfl) h.symm)
          have K16 := Lib.hid (HF.out.kept.trans k16 (fun i hi h => by have := (HF.out.hasA _ rfl).1; omega))
          have NE16 := Lib.hid (HF.out.ne _ _ rfl rfl)
          have LB := Lib.hid (HF.out.hasB _ rfl).1
          have H16 := Lib.hid h16
          have H16b := Lib.hid h16b
          clear HF k16 h16 h16b
          refine hK.out _ _ (HSS.out _ K16.out) (fun hHeld => ?_)
          clear hK K
          try simp only [Act.put, List.setIfInBounds_toArray, List.set_cons_zero, List.set_cons_succ]
          refine wpAnyH_ready (rs := [17]) (by kernel_rfl) (by simp) ?_
          refine AllReadyH.cons (o := ⟨none, Op.store 32 (Operand.tmp 10) (Operand.tmp 26), 0, _, _, none⟩) rfl (fun K hK => ?_) AllReadyH.nil
          refine step_store ⟨IntKind.i64.wrap (1 + IntKind.i64.wrap (b3 : Int)), 0, t.cmd⟩ rfl rfl H16b.out ?_
          intro u17 k17 h17
          have H17 := Lib.hid h17
          have H17a := Lib.hid (k17.blk H16.out NE16.out)
          have K17 := Lib.hid (K16.out.trans k17 (fun i hi h => by have := LB.out; omega))
          clear k17 h17
          refine hK.out _ _ (HSS.out _ K17.out) (fun hHeld => ?_)
          clear hK K
          try simp only [Act.put, List.setIfInBounds_toArray, List.set_cons_zero, List.set_cons_succ]
          refine wpAnyH_done (by kernel_rfl) ?_ _
          refine NoPanic.normal ?_
          go_wp2
          go_meet
          case rel => exact ⟨B9, B10, rfl, rfl, H17a, H17, Lib.hid (K1.out.step K17.out)⟩
        case b14n4k41 =>
          refine step_allocA HF.out ?_
          intro B9 u14 HF2
          replace HF := Lib.hid HF2
          clear HF2
          refine hK.out _ _ (HSS.out _ HF.out.kept) (fun hHeld => ?_)
          clear hK K
          try simp only [Act.put, List.setIfInBounds_toArray, List.set_cons_zero, List.set_cons_succ]
          refine wpAnyH_ready (rs := [12]) (by kernel_rfl) (by simp) ?_
          refine AllReadyH.cons (o := ⟨some 25, Op.call { callee := Callee.value (Operand.func 11), args := #[Operand.tmp 24], argTypes := #[26] }, 24, _, _, none⟩) rfl (fun K hK => ?_) AllReadyH.nil
          go_simp
          refine (htay _).mono ?_
          rintro e u12 ⟨rfl, k12⟩
          have HF2 := Lib.hid (HF.out.step k12)
          replace HF := HF2
          clear HF2 k12
          dsimp only
          refine hK.out _ _ (HSS.out _ HF.out.kept) (fun hHeld => ?_)
          clear hK K
          try simp only [Act.put, List.setIfInBounds_toArray, List.set_cons_zero, List.set_cons_succ]
          refine wpAnyH_take (i := 13) (oi := ⟨some 26, Op.build 32 #[(0, Operand.tmp 23), (2, Operand.tmp 25)], 32, _, _, none⟩) (v := ?v13n4k44) rfl (by kernel_rfl) (by kernel_rfl) (by kernel_rfl) (fun _ _ _ h => h) (Or.inl ⟨by rfl, ?y13n4k44⟩) hHeld ?z13n4k44
          case y13n4k44 => intro w hSw; (try dsimp only at hSw); go_simp <;> rfl
          try simp only [Act.put, List.setIfInBounds_toArray, List.set_cons_zero, List.set_cons_succ]
          refine wpAnyH_ready (rs := [16]) (by kernel_rfl) (by simp) ?_
          refine AllReadyH.cons (o := ⟨none, Op.store 32 (Operand.tmp 9) (Operand.tmp 19), 0, _, _, none⟩) rfl (fun K hK => ?_) AllReadyH.nil
          refine step_store ⟨IntKind.i64.wrap (1 + IntKind.i64.wrap (a3 : Int)), 0, s.cmd⟩ rfl rfl (HF.out.hasA _ rfl).2 ?_
          intro u16 k16 h16
          have h16b := k16.blk (HF.out.hasB _ rfl).2 (fun h => (HF.out.ne _ _ rfl rfl) h.symm)
          have K16 := Lib.hid (HF.out.kept.trans k16 (fun i hi h => by have := (HF.out.hasA _ rfl).1; omega))
          have NE16 := Lib.hid (HF.out.ne _ _ rfl rfl)
          have LB := Lib.hid (HF.out.hasB _ rfl).1
          have H16 := Lib.hid h16
          have H16b := Lib.hid h16b
          clear HF k16 h16 h16b
          refine hK.out _ _ (HSS.out _ K16.out) (fun hHeld => ?_)
          clear hK K
          try simp only [Act.put, List.setIfInBounds_toArray, List.set_cons_zero, List.set_cons_succ]
          refine wpAnyH_ready (rs := [17]) (by kernel_rfl) (by simp) ?_
          refine AllReadyH.cons (o := ⟨none, Op.store 32 (Operand.tmp 10) (Operand.tmp 26), 0, _, _, none⟩) rfl (fun K hK => ?_) AllReadyH.nil
          refine step_store ⟨IntKind.i64.wrap (1 + IntKind.i64.wrap (b3 : Int)), 0, t.cmd⟩ rfl rfl H16b.out ?_
          intro u17 k17 h17
          have H17 := Lib.hid h17
          have H17a := Lib.hid (k17.blk H16.out NE16.out)
          have K17 := Lib.hid (K16.out.trans k17 (fun i hi h => by have := LB.out; omega))
          clear k17 h17
          refine hK.out _ _ (HSS.out _ K17.out) (fun hHeld => ?_)
          clear hK K
          try simp only [Act.put, List.setIfInBounds_toArray, List.set_cons_zero, List.set_cons_succ]
          refine wpAnyH_done (by kernel_rfl) ?_ _
          refine NoPanic.normal ?_
          go_wp2
          go_meet
          case rel => exact ⟨B9, B10, rfl, rfl, H17a, H17, Lib.hid (K1.out.step K17.out)⟩
      case b14n4k38 =>
        refine step_allocA HF.out ?_
        intro B9 u14 HF2
        replace HF := Lib.hid HF2
        clear HF2
        refine hK.out _ _ (HSS.out _ HF.out.kept) (fun hHeld => ?_)
        clear hK K
        try simp only [Act.put, List.setIfInBounds_toArray, List.set_cons_zero, List.set_cons_succ]
        refine wpAnyH_ready (rs := [5]) (by kernel_rfl) (by simp) ?_
        refine AllReadyH.cons (o := ⟨some 18, Op.call { callee := Callee.value (Operand.func 11), args := #[Operand.tmp 17], argTypes := #[26] }, 24, _, _, none⟩) rfl (fun K hK => ?_) AllReadyH.nil
        go_simp
        refine (hsay _).mono ?_
        rintro e u5 ⟨rfl, k5⟩
        have HF2 := Lib.hid (HF.out.step k5)
        replace HF := HF2
        clear HF2 k5
        dsimp only
        refine hK.out _ _ (HSS.out _ HF.out.kept) (fun hHeld => ?_)
        clear hK K
        try simp only [Act.put, List.setIfInBounds_toArray, List.set_cons_zero, List.set_cons_succ]
        refine wpAnyH_take (i := 6) (oi := ⟨some 19, Op.build 32 #[(0, Operand.tmp 16), (2, Operand.tmp 18)], 32, _, _, none⟩) (v := ?v6n4k45) rfl (by kernel_rfl) (by kernel_rfl) (by kernel_rfl) (fun _ _ _ h => h) (Or.inl ⟨by rfl, ?y6n4k45⟩) hHeld ?z6n4k45
        case y6n4k45 => intro w hSw; (try dsimp only at hSw); go_simp <;> rfl
        try simp only [Act.put, List.setIfInBounds_toArray, List.set_cons_zero, List.set_cons_succ]
        refine wpAnyH_ready (rs := [12]) (by kernel_rfl) (by simp) ?_
        refine AllReadyH.cons (o := ⟨some 25, Op.call { callee := Callee.value (Operand.func 11), args := #[Operand.tmp 24], argTypes := #[26] }, 24, _, _, none⟩) rfl (fun K hK => ?_) AllReadyH.nil
        go_simp
        refine (htay _).mono ?_
        rintro e u12 ⟨rfl, k12⟩
        have HF2 := Lib.hid (HF.out.step k12)
        replace HF := HF2
        clear HF2 k12
        dsimp only
        refine hK.out _ _ (HSS.out _ HF.out.kept) (fun hHeld => ?_)
        clear hK K
        try simp only [Act.put, List.setIfInBounds_toArray, List.set_cons_zero, List.set_cons_succ]
        refine wpAnyH_take (i := 13) (oi := ⟨some 26, Op.build 32 #[(0, Operand.tmp 23), (2, Operand.tmp 25)], 32, _, _, none⟩) (v := ?v13n4k46) rfl (by kernel_rfl) (by kernel_rfl) (by kernel_rfl) (fun _ _ _ h => h) (Or.inl ⟨by rfl, ?y13n4k46⟩) hHeld ?z13n4k46
        case y13n4k46 => intro w hSw; (try dsimp only at hSw); go_simp <;> rfl
        try simp only [Act.put, List.setIfInBounds_toArray, List.set_cons_zero, List.set_cons_succ]
        refine wpAnyH_ready (rs := [16]) (by kernel_rfl) (by simp) ?_
        refine AllReadyH.cons (o := ⟨none, Op.store 32 (Operand.tmp 9) (Operand.tmp 19), 0, _, _, none⟩) rfl (fun K hK => ?_) AllReadyH.nil
        refine step_store ⟨IntKind.i64.wrap (1 + IntKind.i64.wrap (a3 : Int)), 0, s.cmd⟩ rfl rfl (HF.out.hasA _ rfl).2 ?_
        intro u16 k16 h16
        have h16b := k16.blk (HF.out.hasB _ rfl).2 (fun h => (HF.out.ne _ _ rfl rfl) h.symm)
        have K16 := Lib.hid (HF.out.kept.trans k16 (fun i hi h => by have := (HF.out.hasA _ rfl).1; omega))
        have NE16 := Lib.hid (HF.out.ne _ _ rfl rfl)
        have LB := Lib.hid (HF.out.hasB _ rfl).1
        have H16 := Lib.hid h16
        have H16b := Lib.hid h16b
        clear HF k16 h16 h16b
        refine hK.out _ _ (HSS.out _ K16.out) (fun hHeld => ?_)
        clear hK K
        try simp only [Act.put, List.setIfInBounds_toArray, List.set_cons_zero, List.set_cons_succ]
        refine wpAnyH_ready (rs := [17]) (by kernel_rfl) (by simp) ?_
        refine AllReadyH.cons (o := ⟨none, Op.store 32 (Operand.tmp 10) (Operand.tmp 26), 0, _, _, none⟩) rfl (fun K hK => ?_) AllReadyH.nil
        refine step_store ⟨IntKind.i64.wrap (1 + IntKind.i64.wrap (b3 : Int)), 0, t.cmd⟩ rfl rfl H16b.out ?_
        intro u17 k17 h17
        have H17 := Lib.hid h17
        have H17a := Lib.hid (k17.blk H16.out NE16.out)
        have K17 := Lib.hid (K16.out.trans k17 (fun i hi h => by have := LB.out; omega))
        clear k17 h17
        refine hK.out _ _ (HSS.out _ K17.out) (fun hHeld => ?_)
        clear hK K
        try simp only [Act.put, List.setIfInBounds_toArray, List.set_cons_zero, List.set_cons_succ]
        refine wpAnyH_done (by kernel_rfl) ?_ _
        refine NoPanic.normal ?_
        go_wp2
        go_meet
        case rel => exact ⟨B9, B10, rfl, rfl, H17a, H17, Lib.hid (K1.out.step K17.out)⟩
  case rest =>
    obtain ⟨A, B, rfl, rfl, HA, HB, HK⟩ := hcut
    clear HSS K1
    clear hsay htay t1 t2
    obtain ⟨x, hx⟩ : ∃ x : EntryV, x = ⟨IntKind.i64.wrap (1 + IntKind.i64.wrap (a3 : Int)), 0, s.cmd⟩ := ⟨_, rfl⟩
    obtain ⟨y, hy⟩ : ∃ y : EntryV, y = ⟨IntKind.i64.wrap (1 + IntKind.i64.wrap (b3 : Int)), 0, t.cmd⟩ := ⟨_, rfl⟩
    rw [← hx] at HA XR
    rw [← hy] at HB YR
    clear hx hy
    have hxl := x.bytes_length
    have hxb := XR.out.bounds
    have hyl := y.bytes_length
    have hyb := YR.out.bounds
    obtain ⟨nx, hnx⟩ : ∃ n, x.bytes.length = n := ⟨_, rfl⟩
    obtain ⟨ny, hny⟩ : ∃ n, y.bytes.length = n := ⟨_, rfl⟩
    have hbx := fun w => bytes_any x nx w hnx (by omega)
    have hby := fun w => bytes_any y ny w hny (by omega)
    obtain ⟨X, hX⟩ : ∃ X, X = str x.bytes := ⟨_, rfl⟩
    obtain ⟨Y, hY⟩ : ∃ Y, Y = str y.bytes := ⟨_, rfl⟩
    have HQ : Hid ((X.toList == Y.toList) = x.same y) := by
      unfold Hid
      rw [hX, hY, str_toList, str_toList]
      by_cases he : x = y
      · rw [he, EntryV.same_self]
        simp
      · rw [EntryV.same_ne he]
        simp only [beq_eq_false_iff_ne, ne_eq]
        exact fun h => he (bytes_inj XR.out YR.out h)
    have CX : Hid (∀ (w' : World) (P : Option Addr), Lies w' (fun _ => True) P (x.bytes.map bv) → (∀ c, (convert 42 9 (.slice P nx c)).run Try.prog w' = .ok (.string X) w')) := fun w' P hl => by
      rw [hX]
      exact fun c => run_str_lies (P := Try.prog) 42 9 5 Try.underlying42 Try.underlying5 Try.underlying9 hl hnx c
    have CY : Hid (∀ (w' : World) (P : Option Addr), Lies w' (fun _ => True) P (y.bytes.map bv) → (∀ c, (convert 42 9 (.slice P ny c)).run Try.prog w' = .ok (.string Y) w')) := fun w' P hl => by
      rw [hY]
      exact fun c => run_str_lies (P := Try.prog) 42 9 5 Try.underlying42 Try.underlying5 Try.underlying9 hl hny c
    have heq := fun w => entry_eql w x y
    obtain ⟨q, hq⟩ : ∃ q, x.same y = q := ⟨_, rfl⟩
    rw [hq] at heq HQ
    unfold EntryV.val at heq hbx hby
    clear hX hY hnx hny hxl hxb hyl hyb hq XR YR
    have HSS : Hid (∀ w', Kept noBlock wc w' → w'.cell? ⟨A, 0, none⟩ = some (.int .i64 x.index) ∧ w'.cell? ⟨A, 1, none⟩ = some (.int .i64 x.term) ∧ w'.cell? ⟨A, 2, none⟩ = some (.int .i64 x.cmd.op) ∧ w'.cell? ⟨A, 3, none⟩ = some (.int .i64 x.cmd.client) ∧ w'.cell? ⟨A, 4, none⟩ = some (.int .i64 x.cmd.seq) ∧ w'.cell? ⟨A, 5, none⟩ = some (.string x.cmd.key) ∧ w'.cell? ⟨A, 6, none⟩ = some (.string x.cmd.value) ∧ w'.cell? ⟨A, 7, none⟩ = some (.string x.cmd.old) ∧ w'.cell? ⟨B, 0, none⟩ = some (.int .i64 y.index) ∧ w'.cell? ⟨B, 1, none⟩ = some (.int .i64 y.term) ∧ w'.cell? ⟨B, 2, none⟩ = some (.int .i64 y.cmd.op) ∧ w'.cell? ⟨B, 3, none⟩ = some (.int .i64 y.cmd.client) ∧ w'.cell? ⟨B, 4, none⟩ = some (.int .i64 y.cmd.seq) ∧ w'.cell? ⟨B, 5, none⟩ = some (.string y.cmd.key) ∧ w'.cell? ⟨B, 6, none⟩ = some (.string y.cmd.value) ∧ w'.cell? ⟨B, 7, none⟩ = some (.string y.cmd.old)) := fun w' k => by
      obtain ⟨a0, a1, a2, a3, a4, a5, a6, a7⟩ := ent_cells (k.blk HA.out (fun h => h))
      obtain ⟨b0, b1, b2, b3, b4, b5, b6, b7⟩ := ent_cells (k.blk HB.out (fun h => h))
      exact ⟨a0, a1, a2, a3, a4, a5, a6, a7, b0, b1, b2, b3, b4, b5, b6, b7⟩
    go_upto_region 4 with (fail)
    refine wp_region_noPanic ?_
    refine wp_region_held_drew (S := fun w' => w'.cell? ⟨A, 0, none⟩ = some (.int .i64 x.index) ∧ w'.cell? ⟨A, 1, none⟩ = some (.int .i64 x.term) ∧ w'.cell? ⟨A, 2, none⟩ = some (.int .i64 x.cmd.op) ∧ w'.cell? ⟨A, 3, none⟩ = some (.int .i64 x.cmd.client) ∧ w'.cell? ⟨A, 4, none⟩ = some (.int .i64 x.cmd.seq) ∧ w'.cell? ⟨A, 5, none⟩ = some (.string x.cmd.key) ∧ w'.cell? ⟨A, 6, none⟩ = some (.string x.cmd.value) ∧ w'.cell? ⟨A, 7, none⟩ = some (.string x.cmd.old) ∧ w'.cell? ⟨B, 0, none⟩ = some (.int .i64 y.index) ∧ w'.cell? ⟨B, 1, none⟩ = some (.int .i64 y.term) ∧ w'.cell? ⟨B, 2, none⟩ = some (.int .i64 y.cmd.op) ∧ w'.cell? ⟨B, 3, none⟩ = some (.int .i64 y.cmd.client) ∧ w'.cell? ⟨B, 4, none⟩ = some (.int .i64 y.cmd.seq) ∧ w'.cell? ⟨B, 5, none⟩ = some (.string y.cmd.key) ∧ w'.cell? ⟨B, 6, none⟩ = some (.string y.cmd.value) ∧ w'.cell? ⟨B, 7, none⟩ = some (.string y.cmd.old)) (by kernel_rfl) (HSS.out _ (Kept.drew _ _)) (fun hHeld => ?_)
    refine wpAnyH_take (i := 0) (oi := ⟨some 27, Op.load 32 (Operand.tmp 9), 32, _, _, none⟩) (v := ?v0n5k1) rfl (by kernel_rfl) (by kernel_rfl) (by kernel_rfl) (fun _ _ _ h => h) (Or.inl ⟨by rfl, ?y0n5k1⟩) hHeld ?z0n5k1
    case y0n5k1 => intro w hSw; (try dsimp only at hSw); go_simp <;> rfl
    try simp only [Act.put, List.setIfInBounds_toArray, List.set_cons_zero, List.set_cons_succ]
    refine wpAnyH_take (i := 3) (oi := ⟨some 30, Op.load 32 (Operand.tmp 10), 32, _, _, none⟩) (v := ?v3n5k2) rfl (by kernel_rfl) (by kernel_rfl) (by kernel_rfl) (fun _ _ _ h => h) (Or.inl ⟨by rfl, ?y3n5k2⟩) hHeld ?z3n5k2
    case y3n5k2 => intro w hSw; (try dsimp only at hSw); go_simp <;> rfl
    try simp only [Act.put, List.setIfInBounds_toArray, List.set_cons_zero, List.set_cons_succ]
    refine wpAnyH_take (i := 7) (oi := ⟨some 34, Op.load 32 (Operand.tmp 9), 32, _, _, none⟩) (v := ?v7n5k3) rfl (by kernel_rfl) (by kernel_rfl) (by kernel_rfl) (fun _ _ _ h => h) (Or.inl ⟨by rfl, ?y7n5k3⟩) hHeld ?z7n5k3
    case y7n5k3 => intro w hSw; (try dsimp only at hSw); go_simp <;> rfl
    try simp only [Act.put, List.setIfInBounds_toArray, List.set_cons_zero, List.set_cons_succ]
    refine wpAnyH_take (i := 8) (oi := ⟨some 35, Op.load 32 (Operand.tmp 10), 32, _, _, none⟩) (v := ?v8n5k4) rfl (by kernel_rfl) (by kernel_rfl) (by kernel_rfl) (fun _ _ _ h => h) (Or.inl ⟨by rfl, ?y8n5k4⟩) hHeld ?z8n5k4
    case y8n5k4 => intro w hSw; (try dsimp only at hSw); go_simp <;> rfl
    try simp only [Act.put, List.setIfInBounds_toArray, List.set_cons_zero, List.set_cons_succ]
    refine wpAnyH_take (i := 9) (oi := ⟨some 36, Op.binOp BinOp.eql 32 (Operand.tmp 34) (Operand.tmp 35) 32, 4, _, _, none⟩) (v := ?v9n5k5) rfl (by kernel_rfl) (by kernel_rfl) (by kernel_rfl) (fun _ _ _ h => h) (Or.inl ⟨by rfl, ?y9n5k5⟩) hHeld ?z9n5k5
    case y9n5k5 => intro w hSw; (try dsimp only at hSw); go_simp <;> rfl
    try simp only [Act.put, List.setIfInBounds_toArray, List.set_cons_zero, List.set_cons_succ]
    refine wpAnyH_ready (rs := [1]) (by kernel_rfl) (by simp) ?_
    refine AllReadyH.cons (o := ⟨some 28, Op.call { callee := Callee.value (Operand.func 18), args := #[Operand.tmp 27], argTypes := #[32] }, 42, _, _, none⟩) rfl (fun K hK => ?_) AllReadyH.nil
    go_simp
    refine (hbx _).mono ?_
    rintro e w4 ⟨P, cp, rfl, h4, k4⟩
    have L4 := Lib.hid (Lies.of_own (F := fun _ => True) h4 (fun _ _ => trivial))
    have K4 := Lib.hid ((Kept.drew noBlock wc).step k4)
    clear k4 h4
    dsimp only
    refine hK.out _ _ (HSS.out _ K4.out) (fun hHeld => ?_)
    clear hK K
    try simp only [Act.put, List.setIfInBounds_toArray, List.set_cons_zero, List.set_cons_succ]
    refine wpAnyH_more (S2 := fun w' => (w'.cell? ⟨A, 0, none⟩ = some (.int .i64 x.index) ∧ w'.cell? ⟨A, 1, none⟩ = some (.int .i64 x.term) ∧ w'.cell? ⟨A, 2, none⟩ = some (.int .i64 x.cmd.op) ∧ w'.cell? ⟨A, 3, none⟩ = some (.int .i64 x.cmd.client) ∧ w'.cell? ⟨A, 4, none⟩ = some (.int .i64 x.cmd.seq) ∧ w'.cell? ⟨A, 5, none⟩ = some (.string x.cmd.key) ∧ w'.cell? ⟨A, 6, none⟩ = some (.string x.cmd.value) ∧ w'.cell? ⟨A, 7, none⟩ = some (.string x.cmd.old) ∧ w'.cell? ⟨B, 0, none⟩ = some (.int .i64 y.index) ∧ w'.cell? ⟨B, 1, none⟩ = some (.int .i64 y.term) ∧ w'.cell? ⟨B, 2, none⟩ = some (.int .i64 y.cmd.op) ∧ w'.cell? ⟨B, 3, none⟩ = some (.int .i64 y.cmd.client) ∧ w'.cell? ⟨B, 4, none⟩ = some (.int .i64 y.cmd.seq) ∧ w'.cell? ⟨B, 5, none⟩ = some (.string y.cmd.key) ∧ w'.cell? ⟨B, 6, none⟩ = some (.string y.cmd.value) ∧ w'.cell? ⟨B, 7, none⟩ = some (.string y.cmd.old)) ∧ (∀ c, (convert 42 9 (.slice P nx c)).run Try.prog w' = .ok (.string X) w')) (fun _ h => h.1) ?_
    clear hHeld
    have hHeld : (fun w' => (w'.cell? ⟨A, 0, none⟩ = some (.int .i64 x.index) ∧ w'.cell? ⟨A, 1, none⟩ = some (.int .i64 x.term) ∧ w'.cell? ⟨A, 2, none⟩ = some (.int .i64 x.cmd.op) ∧ w'.cell? ⟨A, 3, none⟩ = some (.int .i64 x.cmd.client) ∧ w'.cell? ⟨A, 4, none⟩ = some (.int .i64 x.cmd.seq) ∧ w'.cell? ⟨A, 5, none⟩ = some (.string x.cmd.key) ∧ w'.cell? ⟨A, 6, none⟩ = some (.string x.cmd.value) ∧ w'.cell? ⟨A, 7, none⟩ = some (.string x.cmd.old) ∧ w'.cell? ⟨B, 0, none⟩ = some (.int .i64 y.index) ∧ w'.cell? ⟨B, 1, none⟩ = some (.int .i64 y.term) ∧ w'.cell? ⟨B, 2, none⟩ = some (.int .i64 y.cmd.op) ∧ w'.cell? ⟨B, 3, none⟩ = some (.int .i64 y.cmd.client) ∧ w'.cell? ⟨B, 4, none⟩ = some (.int .i64 y.cmd.seq) ∧ w'.cell? ⟨B, 5, none⟩ = some (.string y.cmd.key) ∧ w'.cell? ⟨B, 6, none⟩ = some (.string y.cmd.value) ∧ w'.cell? ⟨B, 7, none⟩ = some (.string y.cmd.old)) ∧ (∀ c, (convert 42 9 (.slice P nx c)).run Try.prog w' = .ok (.string X) w')) _ := ⟨HSS.out _ K4.out, CX.out _ _ L4.out⟩
    refine wpAnyH_take (i := 2) (oi := ⟨some 29, Op.convert 42 9 (Operand.tmp 28), 9, _, _, none⟩) (v := ?v2n5k6) rfl (by kernel_rfl) (by kernel_rfl) (by kernel_rfl) (fun _ _ _ h => h) (Or.inl ⟨by rfl, ?y2n5k6⟩) hHeld ?z2n5k6
    case y2n5k6 => intro w hSw; (try dsimp only at hSw); go_simp <;> rfl
    try simp only [Act.put, List.setIfInBounds_toArray, List.set_cons_zero, List.set_cons_succ]
    refine wpAnyH_ready (rs := [4]) (by kernel_rfl) (by simp) ?_
    refine AllReadyH.cons (o := ⟨some 31, Op.call { callee := Callee.value (Operand.func 18), args := #[Operand.tmp 30], argTypes := #[32] }, 42, _, _, none⟩) rfl (fun K hK => ?_) AllReadyH.nil
    go_simp
    refine (hby _).mono ?_
    rintro e w5 ⟨P', cp', rfl, h5, k5⟩
    have L5 := Lib.hid (Lies.of_own (F := fun _ => True) h5 (fun _ _ => trivial))
    have K5 := Lib.hid (K4.out.step k5)
    have L4' := Lib.hid (L4.out.keep k5 (fun _ _ h => h))
    clear k5 h5
    dsimp only
    refine hK.out _ _ ⟨HSS.out _ K5.out, CX.out _ _ L4'.out⟩ (fun hHeld => ?_)
    clear hK K
    try simp only [Act.put, List.setIfInBounds_toArray, List.set_cons_zero, List.set_cons_succ]
    refine wpAnyH_more (S2 := fun w' => ((w'.cell? ⟨A, 0, none⟩ = some (.int .i64 x.index) ∧ w'.cell? ⟨A, 1, none⟩ = some (.int .i64 x.term) ∧ w'.cell? ⟨A, 2, none⟩ = some (.int .i64 x.cmd.op) ∧ w'.cell? ⟨A, 3, none⟩ = some (.int .i64 x.cmd.client) ∧ w'.cell? ⟨A, 4, none⟩ = some (.int .i64 x.cmd.seq) ∧ w'.cell? ⟨A, 5, none⟩ = some (.string x.cmd.key) ∧ w'.cell? ⟨A, 6, none⟩ = some (.string x.cmd.value) ∧ w'.cell? ⟨A, 7, none⟩ = some (.string x.cmd.old) ∧ w'.cell? ⟨B, 0, none⟩ = some (.int .i64 y.index) ∧ w'.cell? ⟨B, 1, none⟩ = some (.int .i64 y.term) ∧ w'.cell? ⟨B, 2, none⟩ = some (.int .i64 y.cmd.op) ∧ w'.cell? ⟨B, 3, none⟩ = some (.int .i64 y.cmd.client) ∧ w'.cell? ⟨B, 4, none⟩ = some (.int .i64 y.cmd.seq) ∧ w'.cell? ⟨B, 5, none⟩ = some (.string y.cmd.key) ∧ w'.cell? ⟨B, 6, none⟩ = some (.string y.cmd.value) ∧ w'.cell? ⟨B, 7, none⟩ = some (.string y.cmd.old)) ∧ (∀ c, (convert 42 9 (.slice P nx c)).run Try.prog w' = .ok (.string X) w')) ∧ (∀ c, (convert 42 9 (.slice P' ny c)).run Try.prog w' = .ok (.string Y) w')) (fun _ h => h.1) ?_
    clear hHeld
    have hHeld : (fun w' => ((w'.cell? ⟨A, 0, none⟩ = some (.int .i64 x.index) ∧ w'.cell? ⟨A, 1, none⟩ = some (.int .i64 x.term) ∧ w'.cell? ⟨A, 2, none⟩ = some (.int .i64 x.cmd.op) ∧ w'.cell? ⟨A, 3, none⟩ = some (.int .i64 x.cmd.client) ∧ w'.cell? ⟨A, 4, none⟩ = some (.int .i64 x.cmd.seq) ∧ w'.cell? ⟨A, 5, none⟩ = some (.string x.cmd.key) ∧ w'.cell? ⟨A, 6, none⟩ = some (.string x.cmd.value) ∧ w'.cell? ⟨A, 7, none⟩ = some (.string x.cmd.old) ∧ w'.cell? ⟨B, 0, none⟩ = some (.int .i64 y.index) ∧ w'.cell? ⟨B, 1, none⟩ = some (.int .i64 y.term) ∧ w'.cell? ⟨B, 2, none⟩ = some (.int .i64 y.cmd.op) ∧ w'.cell? ⟨B, 3, none⟩ = some (.int .i64 y.cmd.client) ∧ w'.cell? ⟨B, 4, none⟩ = some (.int .i64 y.cmd.seq) ∧ w'.cell? ⟨B, 5, none⟩ = some (.string y.cmd.key) ∧ w'.cell? ⟨B, 6, none⟩ = some (.string y.cmd.value) ∧ w'.cell? ⟨B, 7, none⟩ = some (.string y.cmd.old)) ∧ (∀ c, (convert 42 9 (.slice P nx c)).run Try.prog w' = .ok (.string X) w')) ∧ (∀ c, (convert 42 9 (.slice P' ny c)).run Try.prog w' = .ok (.string Y) w')) _ := ⟨⟨HSS.out _ K5.out, CX.out _ _ L4'.out⟩, CY.out _ _ L5.out⟩
    refine wpAnyH_take (i := 5) (oi := ⟨some 32, Op.convert 42 9 (Operand.tmp 31), 9, _, _, none⟩) (v := ?v5n5k7) rfl (by kernel_rfl) (by kernel_rfl) (by kernel_rfl) (fun _ _ _ h => h) (Or.inl ⟨by rfl, ?y5n5k7⟩) hHeld ?z5n5k7
    case y5n5k7 => intro w hSw; (try dsimp only at hSw); go_simp <;> rfl
    try simp only [Act.put, List.setIfInBounds_toArray, List.set_cons_zero, List.set_cons_succ]
    refine wpAnyH_take (i := 6) (oi := ⟨some 33, Op.binOp BinOp.eql 9 (Operand.tmp 29) (Operand.tmp 32) 9, 4, _, _, none⟩) (v := ?v6n5k8) rfl (by kernel_rfl) (by kernel_rfl) (by kernel_rfl) (fun _ _ _ h => h) (Or.inl ⟨by rfl, ?y6n5k8⟩) hHeld ?z6n5k8
    case y6n5k8 => intro w hSw; (try dsimp only at hSw); go_simp <;> rfl
    try simp only [Act.put, List.setIfInBounds_toArray, List.set_cons_zero, List.set_cons_succ]
    refine wpAnyH_take (i := 10) (oi := ⟨some 37, Op.binOp BinOp.eql 4 (Operand.tmp 33) (Operand.tmp 36) 4, 4, _, _, none⟩) (v := ?v10n5k9) rfl (by kernel_rfl) (by kernel_rfl) (by kernel_rfl) (fun _ _ _ h => h) (Or.inl ⟨by rfl, ?y10n5k9⟩) hHeld ?z10n5k9
    case y10n5k9 => intro w hSw; (try dsimp only at hSw); go_simp <;> rfl
    try simp only [Act.put, List.setIfInBounds_toArray, List.set_cons_zero, List.set_cons_succ]
    refine wpAnyH_take (i := 11) (oi := ⟨some 8, Op.assign (Operand.tmp 37), 4, _, _, none⟩) (v := ?v11n5k10) rfl (by kernel_rfl) (by kernel_rfl) (by kernel_rfl) (fun _ _ _ h => h) (Or.inl ⟨by rfl, ?y11n5k10⟩) hHeld ?z11n5k10
    case y11n5k10 => intro w hSw; (try dsimp only at hSw); go_simp <;> rfl
    try simp only [Act.put, List.setIfInBounds_toArray, List.set_cons_zero, List.set_cons_succ]
    refine wpAnyH_done (by kernel_rfl) ?_ _
    refine NoPanic.normal ?_
    go_wp2
    go_ret
    refine ⟨?_, HK.out.step K5.out⟩
    show Ending.returned (.bool ((X.toList == Y.toList) == q)) = _
    rw [HQ.out]
    simp

end Go.Proofs.Ytgffdobhdkieaaa
