/-
  The contract of state.step. No statement is proved here.
-/
import Derived.Test.YthmjjhjblokjeaaGreatBox4
namespace Go.Proofs.YthmjjhjblokjeaaGreat
open Go.RowKit Tot

/-- The two locals that a call makes first: the entry, and the place of what is told. -/
def locE (w : World) (e : EntryV) : World := (w.alloc (.cells e.cells.toArray 56)).alloc (.cells (told 0).cells.toArray 61)
theorem locE_kept (w : World) (e : EntryV) : Kept noBlock w (locE w e) := (Kept.alloc _ _ _).step (Kept.alloc _ _ _)
theorem locE_size (w : World) (e : EntryV) : (locE w e).heap.size = w.heap.size + 2 := by unfold locE; simp
theorem locE_ent (w : World) (e : EntryV) : (locE w e).heap[w.heap.size]? = some (.cells e.cells.toArray 56 (0, 0)) := (Kept.alloc noBlock _ _).blk (heap_alloc_new w _) (fun h => h)
theorem locE_rep (w : World) (e : EntryV) : (locE w e).heap[w.heap.size + 1]? = some (.cells (told 0).cells.toArray 61 (0, 0)) := by
  have := heap_alloc_new (w.alloc (.cells e.cells.toArray 56)) (.cells (told 0).cells.toArray 61)
  rw [show (w.alloc (.cells e.cells.toArray 56)).heap.size = w.heap.size + 1 by simp] at this
  exact this
/-- The entry's cells. -/
theorem ent_cells {w : World} {C : Nat} {e : EntryV} {t : TypeId} {fr : Nat × Nat} (h : w.heap[C]? = some (.cells e.cells.toArray t fr)) :
    w.cell? ⟨C, 0, none⟩ = some (.int .i64 e.index) ∧ w.cell? ⟨C, 1, none⟩ = some (.int .i64 e.term) ∧ w.cell? ⟨C, 2, none⟩ = some (.int .i64 e.cmd.op) ∧ w.cell? ⟨C, 3, none⟩ = some (.int .i64 e.cmd.client) ∧ w.cell? ⟨C, 4, none⟩ = some (.int .i64 e.cmd.seq) ∧ w.cell? ⟨C, 5, none⟩ = some (.string e.cmd.key) ∧ w.cell? ⟨C, 6, none⟩ = some (.string e.cmd.value) ∧ w.cell? ⟨C, 7, none⟩ = some (.string e.cmd.old) := by
  unfold EntryV.cells at h
  exact ⟨cell_of_row _ _ _ _ _ _ h, cell_of_row _ _ _ _ _ _ h, cell_of_row _ _ _ _ _ _ h, cell_of_row _ _ _ _ _ _ h, cell_of_row _ _ _ _ _ _ h, cell_of_row _ _ _ _ _ _ h, cell_of_row _ _ _ _ _ _ h, cell_of_row _ _ _ _ _ _ h⟩

set_option maxRecDepth 100000 in
set_option maxHeartbeats 1000000 in
theorem step_any (F : Nat → Prop) (b : Nat) (s : StV) (e : EntryV) (w : World) (h : Bx w F b s) (hs : s.Right) :
    Calls Tryz.prog 44 #[.pointer (some ⟨b, 0, none⟩), e.val] w fun en w' => en = .returned (stepV s e).2.val ∧ Did F w w' b (stepV s e).1 := by
  have hF := h.lt
  obtain ⟨A, cc, B, d, h⟩ := h
  have k1 := locE_kept w e
  have z1 := locE_size w e
  have hC := locE_ent w e
  have hR := locE_rep w e
  obtain ⟨w1, hw1⟩ : ∃ w1, w1 = locE w e := ⟨_, rfl⟩
  rw [← hw1] at k1 z1 hC hR
  unfold locE RepV.cells EntryV.cells told noText at hw1
  simp only at hw1
  have h1 := h.keep k1 (fun _ _ h => h)
  obtain ⟨e0, e1, e2, e3, e4, e5, e6, e7⟩ := ent_cells hC
  have OUT : Hid (∀ r s' u v, Kept noBlock w1 u → Did F u v b s' → Did F w (setR v (w.heap.size + 1) r) b s') := fun r s' u v k hd => Did.out (k1.step k) hd (setR_kept v _ r) (by omega) (by have := k.size; omega) hF
  have NR : Hid (∀ i, F i → i ≠ w.heap.size + 1) := fun i hi e => by have := hF i hi; omega
  have NC : Hid (∀ i, F i → i ≠ w.heap.size) := fun i hi e => by have := hF i hi; omega
  have H1 := Lib.hid h1
  have HR := Lib.hid hR
  have HC := Lib.hid hC
  have Z1 := Lib.hid z1
  have HS := Lib.hid hs
  have RI := fun u => right_any e u
  have hi0 : 0 ≤ s.index := hs.1.1
  have hi1 : s.index ≤ 1048576 := hs.1.2
  clear h h1 hR hF k1 hC z1 hs
  unfold EntryV.val at *
  go_enter Tryz.func44, Tryz.ntmps44
  go_upto_region 1 with (fail)
  rw [← hw1]
  clear hw1
  go_wp2_with fail
  refine (RI w1).mono ?_
  rintro en w2 ⟨rfl, k2⟩
  have K2 := Lib.hid k2
  clear RI
  clear e0 e1 e2 e3 e4 e5 e6 e7
  have H2 := Lib.hid (H1.out.keep k2 (fun _ _ h => h))
  have HC2 := Lib.hid (k2.blk HC.out (fun h => h))
  have HR2 := Lib.hid (k2.blk HR.out (fun h => h))
  clear k2
  obtain ⟨e0, e1, e2, e3, e4, e5, e6, e7⟩ := ent_cells HC2.out
  obtain ⟨c0, c1, c2, c3⟩ := H2.out.cells
  obtain ⟨r0, r1⟩ := rep_cells HR2.out
  have f0 : w2.frozen? ⟨w.heap.size + 1, 0, none⟩ = false := frozen_of_row _ _ _ _ _ HR2.out
  have f1 : w2.frozen? ⟨w.heap.size + 1, 1, none⟩ = false := frozen_of_row _ _ _ _ _ HR2.out
  by_cases hR : e.Right
  · rw [decide_eq_true hR]
    have HRI := Lib.hid hR
    clear hR
    have hw : IntKind.i64.wrap (s.index + 1) = s.index + 1 := IntWalk.i64_in _ (by omega)
    by_cases hix : e.index = s.index + 1
    · have hix' : (e.index != s.index + 1) = false := by simpa using hix
      have HIX := Lib.hid hix
      clear hix
      by_cases htm : e.term < s.term
      · have E0 : Hid (stepV s e = (s, told 8)) := by unfold Hid stepV; rw [if_neg (by simpa using HRI.out), if_pos (.inr htm)]
        go_upto_region 3 with (fail)
        go_quiet (fail)
        have kq := Kept.drewN noBlock w2 nq
        generalize w2.drewN nq = w3 at kq ⊢
        clear e0 e1 e2 e3 e4 e5 e6 e7 c0 c1 c2 c3 r0 r1 f0 f1
        have K3 := Lib.hid (K2.out.step kq)
        have H3 := Lib.hid (H2.out.keep kq (fun _ _ h => h))
        have HC3 := Lib.hid (kq.blk HC2.out (fun h => h))
        have HR3 := Lib.hid (kq.blk HR2.out (fun h => h))
        obtain ⟨e0, e1, e2, e3, e4, e5, e6, e7⟩ := ent_cells HC3.out
        obtain ⟨c0, c1, c2, c3⟩ := H3.out.cells
        obtain ⟨r0, r1⟩ := rep_cells HR3.out
        have f0 : w3.frozen? ⟨w.heap.size + 1, 0, none⟩ = false := frozen_of_row _ _ _ _ _ HR3.out
        have f1 : w3.frozen? ⟨w.heap.size + 1, 1, none⟩ = false := frozen_of_row _ _ _ _ _ HR3.out
        clear kq
        have hbz := setR_block (x := told 0) (r := (told 8)) HR3.out
        have OZ := Lib.hid (OUT.out (told 8) s w3 w3 K3.out (Did.refl ⟨_, _, _, _, H3.out⟩))
        go_wp2
        change bodyPost _ _ _ _ _ (setR w3 (w.heap.size + 1) (told 8))
        generalize setR w3 (w.heap.size + 1) (told 8) = vz at hbz OZ ⊢
        obtain ⟨z0, z1⟩ := rep_cells hbz
        refine bodyPost_ret (v := RepV.val (told 8)) (by simp [results, Tryz.results44, go_sem, RepV.val, Tryz.isAgg61, Tryz.sizeOf61, z0, z1]) rfl ?_
        rw [E0.out]
        exact ⟨rfl, OZ.out⟩
      · have htm' : decide (e.term < s.term) = false := decide_eq_false htm
        have E0 : Hid (stepV s e = if e.cmd.op = 0 then ({ s with index := e.index, term := e.term }, told 0) else onceV { s with index := e.index, term := e.term } e.cmd) := by
          unfold Hid stepV
          rw [if_neg (by simpa using HRI.out), if_neg (by rw [HIX.out]; simp; omega)]
        go_upto_region 3 with (fail)
        go_quiet (fail)
        have kq := Kept.drewN noBlock w2 nq
        generalize w2.drewN nq = w3 at kq ⊢
        clear e0 e1 e2 e3 e4 e5 e6 e7 c0 c1 c2 c3 r0 r1 f0 f1
        have K3 := Lib.hid (K2.out.step kq)
        have H3 := Lib.hid (H2.out.keep kq (fun _ _ h => h))
        have HC3 := Lib.hid (kq.blk HC2.out (fun h => h))
        have HR3 := Lib.hid (kq.blk HR2.out (fun h => h))
        obtain ⟨e0, e1, e2, e3, e4, e5, e6, e7⟩ := ent_cells HC3.out
        obtain ⟨c0, c1, c2, c3⟩ := H3.out.cells
        obtain ⟨r0, r1⟩ := rep_cells HR3.out
        have f0 : w3.frozen? ⟨w.heap.size + 1, 0, none⟩ = false := frozen_of_row _ _ _ _ _ HR3.out
        have f1 : w3.frozen? ⟨w.heap.size + 1, 1, none⟩ = false := frozen_of_row _ _ _ _ _ HR3.out
        clear kq
        go_upto_region 5 with (fail)
        have g0 : w3.frozen? ⟨b, 0, none⟩ = false := H3.out.froz 0
        have g1 : w3.frozen? ⟨b, 1, none⟩ = false := H3.out.froz 1
        have d4 := (H3.out.head e.index e.term).more (Kept.drew noBlock _)
        have BCK : Hid (∀ u, Kept (fun i => i = b) w3 u → u.cell? ⟨w.heap.size, 0, none⟩ = some (.int .i64 e.index) ∧ u.cell? ⟨w.heap.size, 1, none⟩ = some (.int .i64 e.term)) := fun u k => ⟨k.cell e0 (fun e => NC.out b H3.out.fb e.symm), k.cell e1 (fun e => NC.out b H3.out.fb e.symm)⟩
        refine wp_region_noPanic ?_
        refine wp_region_held_drew (S := fun w' => w'.cell? ⟨w.heap.size, 0, none⟩ = some (.int .i64 e.index) ∧ w'.cell? ⟨w.heap.size, 1, none⟩ = some (.int .i64 e.term)) (by kernel_rfl) ⟨e0, e1⟩ (fun hHeld => ?_)
        refine wpAnyH_take (i := 0) (oi := ⟨some 27, Op.move (Operand.tmp 0), 102, _, _, none⟩) (v := ?v0n12k1) rfl (by kernel_rfl) (by kernel_rfl) (by kernel_rfl) (fun _ _ _ h => h) (Or.inl ⟨by rfl, ?y0n12k1⟩) hHeld ?z0n12k1
        case y0n12k1 => intro w hSw; (try dsimp only at hSw); go_simp <;> rfl
        try simp only [Act.put, List.setIfInBounds_toArray, List.set_cons_zero, List.set_cons_succ]
        refine wpAnyH_take (i := 1) (oi := ⟨some 28, Op.move (Operand.tmp 0), 102, _, _, none⟩) (v := ?v1n12k2) rfl (by kernel_rfl) (by kernel_rfl) (by kernel_rfl) (fun _ _ _ h => h) (Or.inl ⟨by rfl, ?y1n12k2⟩) hHeld ?z1n12k2
        case y1n12k2 => intro w hSw; (try dsimp only at hSw); go_simp <;> rfl
        try simp only [Act.put, List.setIfInBounds_toArray, List.set_cons_zero, List.set_cons_succ]
        refine wpAnyH_take (i := 2) (oi := ⟨some 29, Op.fieldAddr 56 (Operand.tmp 3) 0, 0, _, _, none⟩) (v := ?v2n12k3) rfl (by kernel_rfl) (by kernel_rfl) (by kernel_rfl) (fun _ _ _ h => h) (Or.inl ⟨by rfl, ?y2n12k3⟩) hHeld ?z2n12k3
        case y2n12k3 => intro w hSw; (try dsimp only at hSw); go_simp <;> rfl
        try simp only [Act.put, List.setIfInBounds_toArray, List.set_cons_zero, List.set_cons_succ]
        refine wpAnyH_take (i := 3) (oi := ⟨some 30, Op.load 3 (Operand.tmp 29), 3, _, _, none⟩) (v := ?v3n12k4) rfl (by kernel_rfl) (by kernel_rfl) (by kernel_rfl) (fun _ _ _ h => h) (Or.inl ⟨by rfl, ?y3n12k4⟩) hHeld ?z3n12k4
        case y3n12k4 => intro w hSw; (try dsimp only at hSw); go_simp <;> rfl
        try simp only [Act.put, List.setIfInBounds_toArray, List.set_cons_zero, List.set_cons_succ]
        refine wpAnyH_take (i := 4) (oi := ⟨some 31, Op.fieldAddr 56 (Operand.tmp 3) 1, 0, _, _, none⟩) (v := ?v4n12k5) rfl (by kernel_rfl) (by kernel_rfl) (by kernel_rfl) (fun _ _ _ h => h) (Or.inl ⟨by rfl, ?y4n12k5⟩) hHeld ?z4n12k5
        case y4n12k5 => intro w hSw; (try dsimp only at hSw); go_simp <;> rfl
        try simp only [Act.put, List.setIfInBounds_toArray, List.set_cons_zero, List.set_cons_succ]
        refine wpAnyH_take (i := 5) (oi := ⟨some 32, Op.load 3 (Operand.tmp 31), 3, _, _, none⟩) (v := ?v5n12k6) rfl (by kernel_rfl) (by kernel_rfl) (by kernel_rfl) (fun _ _ _ h => h) (Or.inl ⟨by rfl, ?y5n12k6⟩) hHeld ?z5n12k6
        case y5n12k6 => intro w hSw; (try dsimp only at hSw); go_simp <;> rfl
        try simp only [Act.put, List.setIfInBounds_toArray, List.set_cons_zero, List.set_cons_succ]
        refine wpAnyH_take (i := 6) (oi := ⟨some 33, Op.nilCheck (Operand.tmp 27), 0, _, _, none⟩) (v := ?v6n12k7) rfl (by kernel_rfl) (by kernel_rfl) (by kernel_rfl) (fun _ _ _ h => h) (Or.inl ⟨by rfl, ?y6n12k7⟩) hHeld ?z6n12k7
        case y6n12k7 => intro w hSw; (try dsimp only at hSw); go_simp <;> rfl
        try simp only [Act.put, List.setIfInBounds_toArray, List.set_cons_zero, List.set_cons_succ]
        refine wpAnyH_take (i := 7) (oi := ⟨some 34, Op.fieldAddr 27 (Operand.tmp 33) 0, 0, _, _, none⟩) (v := ?v7n12k8) rfl (by kernel_rfl) (by kernel_rfl) (by kernel_rfl) (fun _ _ _ h => h) (Or.inl ⟨by rfl, ?y7n12k8⟩) hHeld ?z7n12k8
        case y7n12k8 => intro w hSw; (try dsimp only at hSw); go_simp <;> rfl
        try simp only [Act.put, List.setIfInBounds_toArray, List.set_cons_zero, List.set_cons_succ]
        refine wpAnyH_ready (rs := [8]) (by kernel_rfl) (by simp) ?_
        refine AllReadyH.cons (o := ⟨none, Op.store 3 (Operand.tmp 34) (Operand.tmp 30), 0, _, _, none⟩) rfl (fun K hK => ?_) AllReadyH.nil
        go_simp
        refine hK.out _ _ (BCK.out _ ((Kept.setCell (S := fun i => i = b) w3 (by rfl) _).step (Kept.drew _ _))) (fun hHeld => ?_)
        clear hK K
        try simp only [Act.put, List.setIfInBounds_toArray, List.set_cons_zero, List.set_cons_succ]
        refine wpAnyH_take (i := 9) (oi := ⟨some 35, Op.nilCheck (Operand.tmp 28), 0, _, _, none⟩) (v := ?v9n12k9) rfl (by kernel_rfl) (by kernel_rfl) (by kernel_rfl) (fun _ _ _ h => h) (Or.inl ⟨by rfl, ?y9n12k9⟩) hHeld ?z9n12k9
        case y9n12k9 => intro w hSw; (try dsimp only at hSw); go_simp <;> rfl
        try simp only [Act.put, List.setIfInBounds_toArray, List.set_cons_zero, List.set_cons_succ]
        refine wpAnyH_take (i := 10) (oi := ⟨some 36, Op.fieldAddr 27 (Operand.tmp 35) 1, 0, _, _, none⟩) (v := ?v10n12k10) rfl (by kernel_rfl) (by kernel_rfl) (by kernel_rfl) (fun _ _ _ h => h) (Or.inl ⟨by rfl, ?y10n12k10⟩) hHeld ?z10n12k10
        case y10n12k10 => intro w hSw; (try dsimp only at hSw); go_simp <;> rfl
        try simp only [Act.put, List.setIfInBounds_toArray, List.set_cons_zero, List.set_cons_succ]
        refine wpAnyH_ready (rs := [11]) (by kernel_rfl) (by simp) ?_
        refine AllReadyH.cons (o := ⟨none, Op.store 3 (Operand.tmp 36) (Operand.tmp 32), 0, _, _, none⟩) rfl (fun K hK => ?_) AllReadyH.nil
        go_simp
        refine hK.out _ _ (BCK.out _ (((Kept.setCell (S := fun i => i = b) w3 (by rfl) _).step (Kept.setCell _ (by rfl) _)).step (Kept.drew _ _))) (fun hHeld => ?_)
        clear hK K
        try simp only [Act.put, List.setIfInBounds_toArray, List.set_cons_zero, List.set_cons_succ]
        refine wpAnyH_done (by kernel_rfl) ?_ _
        refine NoPanic.normal ?_
        clear hHeld
        generalize ((w3.setCell ⟨b, 0, none⟩ (.int .i64 e.index)).setCell ⟨b, 1, none⟩ (.int .i64 e.term)).drew = w4 at d4 ⊢
        clear e0 e1 e2 e3 e4 e5 e6 e7 c0 c1 c2 c3 r0 r1 f0 f1 g0 g1
        have HC4 := Lib.hid (d4.kept.blk HC3.out (fun hi => NC.out _ hi rfl))
        have HR4 := Lib.hid (d4.kept.blk HR3.out (fun hi => NR.out _ hi rfl))
        have D4 := Lib.hid d4
        obtain ⟨e0, e1, e2, e3, e4, e5, e6, e7⟩ := ent_cells HC4.out
        obtain ⟨r0, r1⟩ := rep_cells HR4.out
        have f0 : w4.frozen? ⟨w.heap.size + 1, 0, none⟩ = false := frozen_of_row _ _ _ _ _ HR4.out
        have f1 : w4.frozen? ⟨w.heap.size + 1, 1, none⟩ = false := frozen_of_row _ _ _ _ _ HR4.out
        by_cases hop : e.cmd.op = 0
        · have E1 : Hid (stepV s e = ({ s with index := e.index, term := e.term }, told 0)) := by unfold Hid; rw [E0.out, if_pos hop]
          clear d4
          have hbz := setR_block (x := told 0) (r := (told 0)) HR4.out
          have OZ := Lib.hid (OUT.out (told 0) _ w3 w4 K3.out D4.out)
          go_wp2
          change bodyPost _ _ _ _ _ (setR w4 (w.heap.size + 1) (told 0))
          generalize setR w4 (w.heap.size + 1) (told 0) = vz at hbz OZ ⊢
          obtain ⟨z0, z1⟩ := rep_cells hbz
          refine bodyPost_ret (v := RepV.val (told 0)) (by simp [results, Tryz.results44, go_sem, RepV.val, Tryz.isAgg61, Tryz.sizeOf61, z0, z1]) rfl ?_
          rw [E1.out]
          exact ⟨rfl, OZ.out⟩
        · have E1 : Hid (stepV s e = onceV { s with index := e.index, term := e.term } e.cmd) := by unfold Hid; rw [E0.out, if_neg hop]
          have hop' : (e.cmd.op == 0) = false := by simpa using hop
          have ONCE := Lib.hid (once_any _ b { s with index := e.index, term := e.term } e.cmd w4 d4.bx HS.out.up (by have := HS.out.len; simp only; omega) HS.out.ups (by have := HS.out.lens; simp only; omega))
          obtain ⟨rp, hrp⟩ : ∃ rp, rp = (onceV { s with index := e.index, term := e.term } e.cmd).2 := ⟨_, rfl⟩
          rw [← hrp] at ONCE
          unfold RepV.val CmdV.val at ONCE
          have HRP := Lib.hid hrp
          clear d4 hrp hop
          go_wp2_with fail
          refine ONCE.out.mono ?_
          rintro en w5 ⟨rfl, d5⟩
          have d5' := D4.out.trans d5
          clear d5 ONCE r0 r1 f0 f1 e0 e1 e2 e3 e4 e5 e6 e7
          have HR5 := Lib.hid (d5'.kept.blk HR3.out (fun hi => NR.out _ hi rfl))
          obtain ⟨r0, r1⟩ := rep_cells HR5.out
          have f0 : w5.frozen? ⟨w.heap.size + 1, 0, none⟩ = false := frozen_of_row _ _ _ _ _ HR5.out
          have f1 : w5.frozen? ⟨w.heap.size + 1, 1, none⟩ = false := frozen_of_row _ _ _ _ _ HR5.out
          have D5 := Lib.hid d5'
          clear d5'
          have hbz := setR_block (x := told 0) (r := rp) HR5.out
          have OZ := Lib.hid (OUT.out rp _ w3 w5 K3.out D5.out)
          go_wp2
          change bodyPost _ _ _ _ _ (setR w5 (w.heap.size + 1) rp)
          generalize setR w5 (w.heap.size + 1) rp = vz at hbz OZ ⊢
          obtain ⟨z0, z1⟩ := rep_cells hbz
          refine bodyPost_ret (v := RepV.val rp) (by simp [results, Tryz.results44, go_sem, RepV.val, Tryz.isAgg61, Tryz.sizeOf61, z0, z1]) rfl ?_
          rw [E1.out, ← HRP.out]
          exact ⟨rfl, OZ.out⟩
    · have hix' : (e.index != s.index + 1) = true := by simpa using hix
      have E0 : Hid (stepV s e = (s, told 8)) := by unfold Hid stepV; rw [if_neg (by simpa using HRI.out), if_pos (.inl hix)]
      clear hix
      go_upto_region 3 with (fail)
      go_quiet (fail)
      have kq := Kept.drewN noBlock w2 nq
      generalize w2.drewN nq = w3 at kq ⊢
      clear e0 e1 e2 e3 e4 e5 e6 e7 c0 c1 c2 c3 r0 r1 f0 f1
      have K3 := Lib.hid (K2.out.step kq)
      have H3 := Lib.hid (H2.out.keep kq (fun _ _ h => h))
      have HC3 := Lib.hid (kq.blk HC2.out (fun h => h))
      have HR3 := Lib.hid (kq.blk HR2.out (fun h => h))
      obtain ⟨e0, e1, e2, e3, e4, e5, e6, e7⟩ := ent_cells HC3.out
      obtain ⟨c0, c1, c2, c3⟩ := H3.out.cells
      obtain ⟨r0, r1⟩ := rep_cells HR3.out
      have f0 : w3.frozen? ⟨w.heap.size + 1, 0, none⟩ = false := frozen_of_row _ _ _ _ _ HR3.out
      have f1 : w3.frozen? ⟨w.heap.size + 1, 1, none⟩ = false := frozen_of_row _ _ _ _ _ HR3.out
      clear kq
      have hbz := setR_block (x := told 0) (r := (told 8)) HR3.out
      have OZ := Lib.hid (OUT.out (told 8) s w3 w3 K3.out (Did.refl ⟨_, _, _, _, H3.out⟩))
      go_wp2
      change bodyPost _ _ _ _ _ (setR w3 (w.heap.size + 1) (told 8))
      generalize setR w3 (w.heap.size + 1) (told 8) = vz at hbz OZ ⊢
      obtain ⟨z0, z1⟩ := rep_cells hbz
      refine bodyPost_ret (v := RepV.val (told 8)) (by simp [results, Tryz.results44, go_sem, RepV.val, Tryz.isAgg61, Tryz.sizeOf61, z0, z1]) rfl ?_
      rw [E0.out]
      exact ⟨rfl, OZ.out⟩
  · rw [decide_eq_false hR]
    have E0 : Hid (stepV s e = (s, told 14)) := by unfold Hid stepV; rw [if_pos hR]
    clear hR
    have hbz := setR_block (x := told 0) (r := (told 14)) HR2.out
    have OZ := Lib.hid (OUT.out (told 14) s w2 w2 K2.out (Did.refl ⟨_, _, _, _, H2.out⟩))
    go_wp2
    change bodyPost _ _ _ _ _ (setR w2 (w.heap.size + 1) (told 14))
    generalize setR w2 (w.heap.size + 1) (told 14) = vz at hbz OZ ⊢
    obtain ⟨z0, z1⟩ := rep_cells hbz
    refine bodyPost_ret (v := RepV.val (told 14)) (by simp [results, Tryz.results44, go_sem, RepV.val, Tryz.isAgg61, Tryz.sizeOf61, z0, z1]) rfl ?_
    rw [E0.out]
    exact ⟨rfl, OZ.out⟩
end Go.Proofs.YthmjjhjblokjeaaGreat
