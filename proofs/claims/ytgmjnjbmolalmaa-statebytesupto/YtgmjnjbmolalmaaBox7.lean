/-
  The contract of state.Apply. No statement is proved here.
-/
import Derived.Test.YtgmjnjbmolalmaaBox6
namespace Go.Proofs.Ytgmjnjbmolalmaa
open Go.RowKit Tot

/-- A call's locals: a state and an entry, and places for what comes of it. -/
def locA (w : World) (s : StV) (A : Option Addr) (c : Nat) (B : Option Addr) (d : Nat) (e : EntryV) : World :=
  (((w.alloc (.cells (scells s A c B d).toArray 33)).alloc (.cells e.cells.toArray 41)).alloc (.cells #[.int .i64 0, .int .i64 0, .slice none 0 0, .slice none 0 0] 33)).alloc (.cells (told 0).cells.toArray 44)
theorem heap_alloc_at {w : World} {o : Obj} {n : Nat} (h : w.heap.size = n) : (w.alloc o).heap[n]? = some o := by
  subst h
  exact heap_alloc_new w o
theorem locA_all (w : World) (s : StV) (A : Option Addr) (c : Nat) (B : Option Addr) (d : Nat) (e : EntryV) :
    Kept noBlock w (locA w s A c B d e) ∧ (locA w s A c B d e).heap.size = w.heap.size + 4 ∧ (locA w s A c B d e).heap[w.heap.size]? = some (.cells (scells s A c B d).toArray 33 (0, 0)) ∧ (locA w s A c B d e).heap[w.heap.size + 1]? = some (.cells e.cells.toArray 41 (0, 0)) ∧
      (locA w s A c B d e).heap[w.heap.size + 2]? = some (.cells #[.int .i64 0, .int .i64 0, .slice none 0 0, .slice none 0 0] 33 (0, 0)) ∧ (locA w s A c B d e).heap[w.heap.size + 3]? = some (.cells (told 0).cells.toArray 44 (0, 0)) := by
  unfold locA
  refine ⟨(((Kept.alloc _ _ _).step (Kept.alloc _ _ _)).step (Kept.alloc _ _ _)).step (Kept.alloc _ _ _), by simp, ?_, ?_, ?_, ?_⟩
  · exact (((Kept.alloc noBlock _ _).step (Kept.alloc _ _ _)).step (Kept.alloc _ _ _)).blk (heap_alloc_new w _) (fun h => h)
  · exact ((Kept.alloc noBlock _ _).step (Kept.alloc _ _ _)).blk (heap_alloc_at (by simp)) (fun h => h)
  · exact (Kept.alloc noBlock _ _).blk (heap_alloc_at (by simp)) (fun h => h)
  · exact heap_alloc_at (by simp)

set_option maxRecDepth 100000 in
set_option maxHeartbeats 300000 in
theorem apply_any (F : Nat → Prop) (s : StV) (A : Option Addr) (c : Nat) (B : Option Addr) (d : Nat) (e : EntryV) (w : World) (h : Sv w F s A c B d) (hs : s.Right) :
    Calls Try.prog 13 #[stv s A c B d, e.val] w fun en w' => ∃ A' c' B' d', en = .returned (.tuple #[stv (stepV s e).1 A' c' B' d', (stepV s e).2.val]) ∧ Sv w' (fresh w w') (stepV s e).1 A' c' B' d' ∧ Kept noBlock w w' := by
  obtain ⟨k1, z1, hb, hE, hR1, hR2⟩ := locA_all w s A c B d e
  obtain ⟨w1, hw1⟩ : ∃ w1, w1 = locA w s A c B d e := ⟨_, rfl⟩
  rw [← hw1] at k1 z1 hb hE hR1 hR2
  unfold locA scells RepV.cells EntryV.cells told noText at hw1
  simp only at hw1
  unfold scells at hb
  have COPY := Lib.hid (copyof_any F s A c B d w1 (h.kept k1) (by have := hs.len; omega) (by have := hs.lens; omega))
  have STEP := Lib.hid (fun F b w (h : Bx w F b s) => step_any F b s e w h hs)
  obtain ⟨s', hs'⟩ : ∃ s', s' = (stepV s e).1 := ⟨_, rfl⟩
  obtain ⟨rp, hrp⟩ : ∃ rp, rp = (stepV s e).2 := ⟨_, rfl⟩
  rw [← hs', ← hrp] at STEP ⊢
  clear hs' hrp
  obtain ⟨c0, c1, c2, c3⟩ := st_cells hb
  have K1 := Lib.hid k1
  have Z1 := Lib.hid z1
  have HB := Lib.hid hb
  have HE := Lib.hid hE
  have HR1 := Lib.hid hR1
  have HR2 := Lib.hid hR2
  clear k1 z1 hb hE hR1 hR2 h
  unfold stv EntryV.val RepV.val at *
  go_enter Try.func13, Try.ntmps13
  go_upto_region 1 with (fail)
  rw [← hw1]
  clear hw1
  go_wp2_with fail
  refine COPY.out.mono ?_
  rintro en w2 ⟨A2, c2', B2, d2, rfl, o2p, o2, k2⟩
  clear c0 c1 c2 c3 COPY
  have HB2 := Lib.hid (k2.blk HB.out (fun h => h))
  have K2 := Lib.hid (K1.out.step k2)
  have HE2 := Lib.hid (k2.blk HE.out (fun h => h))
  have HR12 := Lib.hid (k2.blk HR1.out (fun h => h))
  have HR22 := Lib.hid (k2.blk HR2.out (fun h => h))
  have Z2 := Lib.hid k2.size
  have O2p := Lib.hid o2p
  have O2 := Lib.hid o2
  clear o2p o2 k2
  obtain ⟨c0, c1, c2, c3⟩ := st_cells HB2.out
  have hfz : ∀ j, w2.frozen? ⟨w.heap.size, j, none⟩ = false := fun j => frozen_of_row _ _ _ _ _ HB2.out
  have f0 := hfz 0
  have f1 := hfz 1
  have f2 := hfz 2
  have f3 := hfz 3
  clear hfz
  have hb3 := setT_block (s := s) (A := A2) (c := c2') (B := B2) (d := d2) HB2.out
  have k3 := setT_kept w2 w.heap.size s A2 c2' B2 d2
  go_upto_region 2 with (fail)
  change Code.wp _ _ _ _ (setT w2 w.heap.size s A2 c2' B2 d2)
  generalize setT w2 w.heap.size s A2 c2' B2 d2 = w3 at hb3 k3 ⊢
  clear c0 c1 c2 c3 f0 f1 f2 f3
  have bx : Bx w3 (fun i => i = w.heap.size ∨ (w1.heap.size ≤ i ∧ i < w3.heap.size)) w.heap.size s := by
    have z3 := k3.size
    refine ⟨A2, c2', B2, d2, hb3, own_base (own_keep O2p.out k3 (fun i hi e => by have := (O2p.out.lt i hi).1; have := Z1.out; omega)) (fun _ _ => Nat.zero_le _), own_base (own_keep O2.out k3 (fun i hi e => by have := (O2.out.lt i hi).1; have := Z1.out; omega)) (fun _ _ => Nat.zero_le _), .inl rfl, fun i hi => .inr ?_, fun i hi => .inr ?_, fun i hi => ?_⟩
    · exact ⟨(O2p.out.lt i hi).1, Nat.lt_of_lt_of_le (O2p.out.lt i hi).2 z3⟩
    · exact ⟨(O2.out.lt i hi).1, Nat.lt_of_lt_of_le (O2.out.lt i hi).2 z3⟩
    · have := Z1.out
      have := Z2.out
      omega
  have HE3 := Lib.hid (k3.blk HE2.out (by omega))
  have HR13 := Lib.hid (k3.blk HR12.out (by omega))
  have HR23 := Lib.hid (k3.blk HR22.out (by omega))
  have K3 : Hid (Kept (fun i => i = w.heap.size) w w3) := (K2.out.mono (fun _ _ h => h.elim)).step k3
  have ST := Lib.hid (STEP.out _ _ w3 bx)
  clear STEP bx hb3 k3
  obtain ⟨e0, e1, e2, e3, e4, e5, e6, e7⟩ := ent_cells HE3.out
  go_wp2_with fail
  refine ST.out.mono ?_
  rintro en w4 ⟨rfl, d4⟩
  clear ST e0 e1 e2 e3 e4 e5 e6 e7
  have d5 := d4.more (Kept.alloc noBlock w4 (.cells #[.int .i64 rp.err, .string rp.value] 44))
  have hO := heap_alloc_new w4 (.cells #[.int .i64 rp.err, .string rp.value] 44)
  have hw4 : w3.heap.size ≤ w4.heap.size := d4.kept.size
  go_upto_region 3 with (fail)
  generalize w4.alloc (.cells #[.int .i64 rp.err, .string rp.value] 44) = w5 at d5 hO ⊢
  clear d4
  have NF : Hid (∀ j, j = w.heap.size + 1 ∨ j = w.heap.size + 2 ∨ j = w.heap.size + 3 → ¬ ((j = w.heap.size ∨ (w1.heap.size ≤ j ∧ j < w3.heap.size)) ∨ fresh w3 w5 j)) := fun j hj h => by
    have := Z1.out
    have := K3.out.size
    have := lt_of_blk HR23.out
    rcases h with (h | h) | h
    · omega
    · omega
    · have := h.1; omega
  have HR15 := Lib.hid (d5.kept.blk HR13.out (fun h => NF.out _ (by omega) (.inl h)))
  have HR25 := Lib.hid (d5.kept.blk HR23.out (fun h => NF.out _ (by omega) (.inl h)))
  have HO := Lib.hid hO
  have D5 := Lib.hid d5
  obtain ⟨A5, c5, B5, d5', h5⟩ := d5.bx
  obtain ⟨c0, c1, c2, c3⟩ := h5.cells
  have H5 := Lib.hid h5
  obtain ⟨o0, o1⟩ := rep_cells (r := rp) hO
  obtain ⟨r0, r1, r2, r3⟩ := st_cells HR15.out
  obtain ⟨q0, q1⟩ := rep_cells HR25.out
  have hfz : ∀ j, w5.frozen? ⟨w.heap.size + 2, j, none⟩ = false := fun j => frozen_of_row _ _ _ _ _ HR15.out
  have f0 := hfz 0
  have f1 := hfz 1
  have f2 := hfz 2
  have f3 := hfz 3
  have g0 : w5.frozen? ⟨w.heap.size + 3, 0, none⟩ = false := frozen_of_row _ _ _ _ _ HR25.out
  have g1 : w5.frozen? ⟨w.heap.size + 3, 1, none⟩ = false := frozen_of_row _ _ _ _ _ HR25.out
  have HBN := h5.blk
  have hw3 := lt_of_blk HR23.out
  have CB : Hid (∀ u, Kept (fun i => i = w.heap.size + 2 ∨ i = w.heap.size + 3) w5 u → (u.cell? ⟨w.heap.size, 0, none⟩ = some (.int .i64 s'.index) ∧ u.cell? ⟨w.heap.size, 1, none⟩ = some (.int .i64 s'.term) ∧ u.cell? ⟨w.heap.size, 2, none⟩ = some (.slice A5 s'.pairs.length c5) ∧ u.cell? ⟨w.heap.size, 3, none⟩ = some (.slice B5 s'.sess.length d5')) ∧
      u.cell? ⟨w4.heap.size, 0, none⟩ = some (.int .i64 rp.err) ∧ u.cell? ⟨w4.heap.size, 1, none⟩ = some (.string rp.value)) := fun u k =>
    ⟨⟨k.cell c0 (by simp), k.cell c1 (by simp), k.cell c2 (by simp), k.cell c3 (by simp)⟩, k.cell o0 (by simp only; omega), k.cell o1 (by simp only; omega)⟩
  clear hfz d5 h5 hO HBN
  refine wp_region_noPanic ?_
  refine wp_region_held_drew (S := fun u => (u.cell? ⟨w.heap.size, 0, none⟩ = some (.int .i64 s'.index) ∧ u.cell? ⟨w.heap.size, 1, none⟩ = some (.int .i64 s'.term) ∧ u.cell? ⟨w.heap.size, 2, none⟩ = some (.slice A5 s'.pairs.length c5) ∧ u.cell? ⟨w.heap.size, 3, none⟩ = some (.slice B5 s'.sess.length d5')) ∧ u.cell? ⟨w4.heap.size, 0, none⟩ = some (.int .i64 rp.err) ∧ u.cell? ⟨w4.heap.size, 1, none⟩ = some (.string rp.value)) (by kernel_rfl) (CB.out _ (Kept.drew _ _)) (fun hHeld => ?_)
  refine wpAnyH_take (i := 0) (oi := ⟨some 11, Op.load 33 (Operand.tmp 2), 33, _, _, none⟩) (v := ?v0n11k1) rfl (by kernel_rfl) (by kernel_rfl) (by kernel_rfl) (fun _ _ _ h => h) (Or.inl ⟨by rfl, ?y0n11k1⟩) hHeld ?z0n11k1
  case y0n11k1 => intro w hSw; (try dsimp only at hSw); go_simp <;> rfl
  try simp only [Act.put, List.setIfInBounds_toArray, List.set_cons_zero, List.set_cons_succ]
  refine wpAnyH_take (i := 1) (oi := ⟨some 12, Op.load 44 (Operand.tmp 6), 44, _, _, none⟩) (v := ?v1n11k2) rfl (by kernel_rfl) (by kernel_rfl) (by kernel_rfl) (fun _ _ _ h => h) (Or.inl ⟨by rfl, ?y1n11k2⟩) hHeld ?z1n11k2
  case y1n11k2 => intro w hSw; (try dsimp only at hSw); go_simp <;> rfl
  try simp only [Act.put, List.setIfInBounds_toArray, List.set_cons_zero, List.set_cons_succ]
  refine wpAnyH_ready (rs := [2]) (by kernel_rfl) (by simp) ?_
  refine AllReadyH.cons (o := ⟨none, Op.store 33 (Operand.tmp 4) (Operand.tmp 11), 0, _, _, none⟩) rfl (fun K hK => ?_) AllReadyH.nil
  go_simp
  refine hK.out _ _ (CB.out _ ((setT_kept w5 (w.heap.size + 2) s' A5 c5 B5 d5').mono (fun i _ h => .inl h) |>.step (Kept.drew _ _))) (fun hHeld => ?_)
  clear hK K
  try simp only [Act.put, List.setIfInBounds_toArray, List.set_cons_zero, List.set_cons_succ]
  refine wpAnyH_ready (rs := [3]) (by kernel_rfl) (by simp) ?_
  refine AllReadyH.cons (o := ⟨none, Op.store 44 (Operand.tmp 5) (Operand.tmp 12), 0, _, _, none⟩) rfl (fun K hK => ?_) AllReadyH.nil
  go_simp
  refine hK.out _ _ (CB.out _ ((((setT_kept w5 (w.heap.size + 2) s' A5 c5 B5 d5').mono (fun i _ h => .inl h)).step ((setR_kept _ (w.heap.size + 3) rp).mono (fun i _ h => .inr h))).step (Kept.drew _ _))) (fun hHeld => ?_)
  clear hK K
  try simp only [Act.put, List.setIfInBounds_toArray, List.set_cons_zero, List.set_cons_succ]
  refine wpAnyH_done (by kernel_rfl) ?_ _
  refine NoPanic.normal ?_
  clear hHeld
  have kt := setT_kept w5 (w.heap.size + 1 + 1) s' A5 c5 B5 d5'
  have hR1 : w5.heap[w.heap.size + 1 + 1]? = _ := HR15.out
  have hR2 : w5.heap[w.heap.size + 1 + 1 + 1]? = _ := HR25.out
  have hz1 := setT_block (s := s') (A := A5) (c := c5) (B := B5) (d := d5') hR1
  have hz2 := setR_block (x := told 0) (r := rp) (kt.blk hR2 (show ¬ (w.heap.size + 1 + 1 + 1 = w.heap.size + 1 + 1) by omega))
  have kr := setR_kept (setT w5 (w.heap.size + 1 + 1) s' A5 c5 B5 d5') (w.heap.size + 1 + 1 + 1) rp
  have hz1' := kr.blk hz1 (show ¬ (w.heap.size + 1 + 1 = w.heap.size + 1 + 1 + 1) by omega)
  have kz : Kept (fun i => i = w.heap.size + 2 ∨ i = w.heap.size + 3) w5 (setR (setT w5 (w.heap.size + 1 + 1) s' A5 c5 B5 d5') (w.heap.size + 1 + 1 + 1) rp).drew := ((kt.mono (fun i _ h => .inl h)).step (kr.mono (fun i _ h => .inr h))).step (Kept.drew _ _)
  have hy1 := (Kept.drew noBlock (setR (setT w5 (w.heap.size + 1 + 1) s' A5 c5 B5 d5') (w.heap.size + 1 + 1 + 1) rp)).blk hz1' (fun h => h)
  have hy2 := (Kept.drew noBlock (setR (setT w5 (w.heap.size + 1 + 1) s' A5 c5 B5 d5') (w.heap.size + 1 + 1 + 1) rp)).blk hz2 (fun h => h)
  change Exit.then _ _ _ _ ((setR (setT w5 (w.heap.size + 1 + 1) s' A5 c5 B5 d5') (w.heap.size + 1 + 1 + 1) rp).drew)
  clear kt hz1 hz2 kr hz1' hR1 hR2
  generalize (setR (setT w5 (w.heap.size + 1 + 1) s' A5 c5 B5 d5') (w.heap.size + 1 + 1 + 1) rp).drew = vz at kz hy1 hy2 ⊢
  have FG : ∀ i, (i = w.heap.size ∨ (w1.heap.size ≤ i ∧ i < w3.heap.size)) ∨ fresh w3 w5 i → fresh w vz i := fun i hi => by
    have := Z1.out
    have := K3.out.size
    have := kz.size
    have := D5.out.kept.size
    refine ⟨?_, Nat.lt_of_lt_of_le (H5.out.lt i hi) kz.size⟩
    rcases hi with (h | h) | h
    · omega
    · omega
    · have := h.1; omega
  have NZ : ∀ i, (i = w.heap.size ∨ (w1.heap.size ≤ i ∧ i < w3.heap.size)) ∨ fresh w3 w5 i → ¬ (i = w.heap.size + 2 ∨ i = w.heap.size + 3) := fun i hi h => NF.out i (.inr h) hi
  have KW : Hid (Kept noBlock w vz) := by
    have a1 : Kept (fun i => w.heap.size ≤ i) w w3 := K3.out.mono (fun i _ h => by omega)
    have a2 : Kept (fun i => w.heap.size ≤ i) w w5 := a1.trans D5.out.kept (fun i _ h => (FG i (.inl h)).1)
    exact (a2.trans kz (fun i _ h => by omega)).mono (fun i hi h => by omega)
  have SV : Hid (Sv vz (fresh w vz) s' A5 c5 B5 d5') := by
    refine ⟨(Lies.of_rows (F := _) H5.out.ownp H5.out.fp).keep kz NZ |>.mono FG, (Lies.of_rows (F := _) H5.out.owns H5.out.fs).keep kz NZ |>.mono FG, ?_, ?_⟩
    · obtain ⟨_, _, e, hle⟩ := own_form H5.out.ownp
      injection e with _ _ e
      omega
    · obtain ⟨_, _, e, hle⟩ := own_form H5.out.owns
      injection e with _ _ e
      omega
  clear FG NZ kz
  obtain ⟨y0, y1, y2, y3⟩ := st_cells hy1
  obtain ⟨x0, x1⟩ := rep_cells hy2
  clear c0 c1 c2 c3 o0 o1 r0 r1 r2 r3 q0 q1 f0 f1 f2 f3 g0 g1 hy1 hy2
  go_wp2
  refine bodyPost_ret (v := .tuple #[stv s' A5 c5 B5 d5', rp.val]) (by simp [results, Try.results13, go_sem, stv, RepV.val, Try.isAgg33, Try.sizeOf33, Try.isAgg44, Try.sizeOf44, y0, y1, y2, y3, x0, x1]) rfl ?_
  exact ⟨A5, c5, B5, d5', rfl, SV.out, KW.out⟩
end Go.Proofs.Ytgmjnjbmolalmaa
