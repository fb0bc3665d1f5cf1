/-
  The model's apply. No statement is proved here.
-/
import Derived.Test.YtgmjnjbmolalmaaMdV
namespace Go.Proofs.Ytgmjnjbmolalmaa
open Go.RowKit Tot

theorem Md.head {w : World} {m b1 b2 b3 : Nat} {s : StV} (h : Md w m b1 b2 b3 s) (i t : Int) : Md ((w.setCell ⟨m, 0, none⟩ (.int .i64 i)).setCell ⟨m, 1, none⟩ (.int .i64 t)) m b1 b2 b3 { s with index := i, term := t } := by
  have h0 := heap_setCell_same w m 0 _ 29 (.int .i64 i) h.blk
  have h1 := heap_setCell_same _ m 1 _ 29 (.int .i64 t) h0
  have k : Kept (fun j => j = m) w ((w.setCell ⟨m, 0, none⟩ (.int .i64 i)).setCell ⟨m, 1, none⟩ (.int .i64 t)) := (Kept.setCell w (by rfl) _).step (Kept.setCell _ (by rfl) _)
  exact ⟨by simpa using h1, h.keys.keep k h.ne1, h.seqs.keep k h.ne2, h.told.keep k h.ne3, h.n12, h.n13, h.n23⟩

/-- The value that a key has, or none. -/
def wasV (ps : Prs) (k : ByteArray) : ByteArray := ((Srt.look ps k).map (fun v : ByteArray × Bool => v.1)).getD noText
section
variable {ps : Prs} {c : CmdV}
theorem do_full (h : (decide (c.op = 1) && (!(Srt.look ps c.key).isSome && decide (64 ≤ ps.length))) = true) : doV ps c = (ps, told 4) := by
  simp only [Bool.and_eq_true, Bool.not_eq_true', decide_eq_true_eq] at h
  unfold doV
  cases hk : Srt.look ps c.key with
  | none => simp only; rw [if_neg (by simp [h.1]), if_pos h.2.2]
  | some v => rw [hk] at h; exact absurd h.2.1 (by simp)
theorem do_unknown (h : (!decide (c.op = 1) && !(Srt.look ps c.key).isSome) = true) : doV ps c = (ps, told 6) := by
  simp only [Bool.and_eq_true, Bool.not_eq_true', decide_eq_false_iff_not] at h
  unfold doV
  cases hk : Srt.look ps c.key with
  | none => simp only; rw [if_pos h.1]
  | some v => rw [hk] at h; exact absurd h.2 (by simp)
theorem do_some (h : (!decide (c.op = 1) && !(Srt.look ps c.key).isSome) = false) (h1 : c.op ≠ 1) : ∃ v, Srt.look ps c.key = some v ∧ v.1 = wasV ps c.key := by
  unfold wasV
  cases hk : Srt.look ps c.key with
  | none => rw [hk] at h; simp [h1] at h
  | some v => exact ⟨v, rfl, rfl⟩
theorem do_match (h3 : (!decide (c.op = 1) && !(Srt.look ps c.key).isSome) = false) (h4 : (decide (c.op = 3) && !decide (wasV ps c.key = c.old)) = true) : doV ps c = (ps, ⟨11, wasV ps c.key⟩) := by
  simp only [Bool.and_eq_true, Bool.not_eq_true', decide_eq_true_eq, decide_eq_false_iff_not] at h4
  obtain ⟨v, hk, hv⟩ := do_some h3 (by omega)
  unfold doV
  rw [hk, ← hv]
  simp only
  rw [if_pos ⟨h4.1, by rw [hv]; exact h4.2⟩]
theorem do_del (h3 : (!decide (c.op = 1) && !(Srt.look ps c.key).isSome) = false) (h : c.op = 2) : doV ps c = (Srt.del ps c.key, ⟨0, wasV ps c.key⟩) := by
  obtain ⟨v, hk, hv⟩ := do_some h3 (by omega)
  unfold doV
  rw [hk, ← hv]
  simp only
  rw [if_neg (fun h9 => by omega), if_pos h]
theorem do_put (h2 : (decide (c.op = 1) && (!(Srt.look ps c.key).isSome && decide (64 ≤ ps.length))) = false) (h3 : (!decide (c.op = 1) && !(Srt.look ps c.key).isSome) = false) (h4 : (decide (c.op = 3) && !decide (wasV ps c.key = c.old)) = false) (h : c.op ≠ 2) :
    (doV ps c).2 = ⟨0, wasV ps c.key⟩ ∧ mapV (fun v : ByteArray × Bool => v.1) (doV ps c).1 = Srt.put (mapV (fun v : ByteArray × Bool => v.1) ps) c.key c.value := by
  unfold doV wasV
  unfold wasV at h4
  cases hk : Srt.look ps c.key with
  | none =>
    rw [hk] at h2 h3
    have h1 : c.op = 1 := by simpa using h3
    have h6 : ¬ 64 ≤ ps.length := by simpa [h1] using h2
    simp only
    rw [if_neg (by simp [h1]), if_neg h6]
    exact ⟨rfl, (mapV_put (fun v : ByteArray × Bool => v.1) ps c.key (c.value, false)).symm⟩
  | some v =>
    rw [hk] at h4
    simp only
    have h9 : ¬ (c.op = 3 ∧ v.1 ≠ c.old) := fun ⟨a, b⟩ => by simp [a, b] at h4
    rw [if_neg h9, if_neg h]
    exact ⟨rfl, (mapV_put (fun v : ByteArray × Bool => v.1) ps c.key (c.value, v.2)).symm⟩
end

theorem text_same (a b : ByteArray) : (a.toList == b.toList) = decide (a = b) := by rw [Bool.eq_iff_iff]; simp [toList_inj]
/-- What a command did to the model's keys, and what is told. -/
def DoRel (w5 : World) (b1 O : Nat) (ps : Prs) (c : CmdV) (wc : World) : Prop :=
  ∃ (rp : RepV) (N : List (ByteArray × ByteArray)), Hid (rp = (doV ps c).2) ∧ Hid (N = mapV (fun v : ByteArray × Bool => v.1) (doV ps c).1) ∧ Hid (MS.Tb wc b1 N) ∧ Hid (wc.heap[O]? = some (.cells #[.int .i64 rp.err, .string rp.value] 44 (0, 0))) ∧ Hid (Kept (fun i => i = b1 ∨ i = O) w5 wc)
section
variable {w5 : World} {b1 O : Nat} {ps : Prs} {c : CmdV}
theorem DoRel.same {x rp : RepV} (h : doV ps c = (ps, rp)) (hT : MS.Tb w5 b1 (mapV (fun v : ByteArray × Bool => v.1) ps)) (hO : w5.heap[O]? = some (.cells #[.int .i64 x.err, .string x.value] 44 (0, 0))) : DoRel w5 b1 O ps c (setR w5 O rp) := by
  refine ⟨rp, _, by unfold Hid; rw [h], rfl, ?_, setR_block (x := x) (r := rp) hO, (setR_kept w5 O rp).mono (fun _ _ h => .inr h)⟩
  rw [h]
  exact hT.keep (setR_kept w5 O rp) (fun e => hT.ne hO e)
theorem DoRel.turned {x : RepV} {N : List (ByteArray × ByteArray)} {u : World} (h2 : (doV ps c).2 = x) (h1 : mapV (fun v : ByteArray × Bool => v.1) (doV ps c).1 = N) (hT : MS.Tb w5 b1 (mapV (fun v : ByteArray × Bool => v.1) ps)) (hT' : MS.Tb u b1 N) (hO : w5.heap[O]? = some (.cells #[.int .i64 x.err, .string x.value] 44 (0, 0))) (k : Kept (fun i => i = b1) w5 u) : DoRel w5 b1 O ps c u :=
  ⟨x, N, h2.symm, h1.symm, hT', k.blk hO (fun e => hT.ne hO e.symm), k.mono (fun _ _ h => .inl h)⟩
end

set_option maxRecDepth 100000 in
set_option maxHeartbeats 1000000 in
theorem mapply_any (m b1 b2 b3 : Nat) (s : StV) (e : EntryV) (w : World) (h : Md w m b1 b2 b3 s) (hs : s.Right) (hn : NextE s e) :
    Calls Try.prog 14 #[.pointer (some ⟨m, 0, none⟩), e.val] w fun en w' => en = .returned (stepV s e).2.val ∧ Md w' m b1 b2 b3 (stepV s e).1 ∧ Kept (Mb m b1 b2 b3) w w' := by
  have k1 := locE_kept w e
  have z1 := locE_size w e
  have hE := locE_ent w e
  have hR := locE_rep w e
  obtain ⟨w1, hw1⟩ : ∃ w1, w1 = locE w e := ⟨_, rfl⟩
  rw [← hw1] at k1 z1 hE hR
  unfold locE RepV.cells EntryV.cells told noText at hw1
  simp only at hw1
  have hmE : m < w.heap.size := h.lt m (.inl rfl)
  have H1 := Lib.hid (h.kept k1)
  have HLT := Lib.hid h.lt
  have HS := Lib.hid hs
  have HN := Lib.hid hn
  have HE := Lib.hid hE
  have HR := Lib.hid hR
  have K1 := Lib.hid k1
  have Z1 := Lib.hid z1
  clear h hs hn hE hR k1 z1
  obtain ⟨e0, e1, _, _, _, _, _, _⟩ := ent_cells HE.out
  unfold EntryV.val at *
  go_enter Try.func14, Try.ntmps14
  go_upto_region 1 with (fail)
  rw [← hw1]
  clear hw1
  have g0 : w1.frozen? ⟨m, 0, none⟩ = false := frozen_of_row _ _ _ _ _ H1.out.blk
  have g1 : w1.frozen? ⟨m, 1, none⟩ = false := frozen_of_row _ _ _ _ _ H1.out.blk
  obtain ⟨m0, m1, _, _, _⟩ := H1.out.cells
  have BCK : Hid (∀ u, Kept (fun i => i = m) w1 u → u.cell? ⟨w.heap.size, 0, none⟩ = some (.int .i64 e.index) ∧ u.cell? ⟨w.heap.size, 1, none⟩ = some (.int .i64 e.term)) := fun u k => ⟨k.cell e0 (show ¬ (w.heap.size = m) by omega), k.cell e1 (show ¬ (w.heap.size = m) by omega)⟩
  refine wp_region_noPanic ?_
  refine wp_region_held_drew (S := fun w' => w'.cell? ⟨w.heap.size, 0, none⟩ = some (.int .i64 e.index) ∧ w'.cell? ⟨w.heap.size, 1, none⟩ = some (.int .i64 e.term)) (by kernel_rfl) ⟨e0, e1⟩ (fun hHeld => ?_)
  refine wpAnyH_take (i := 0) (oi := ⟨some 11, Op.move (Operand.tmp 0), 24, _, _, none⟩) (v := ?v0n1k1) rfl (by kernel_rfl) (by kernel_rfl) (by kernel_rfl) (fun _ _ _ h => h) (Or.inl ⟨by rfl, ?y0n1k1⟩) hHeld ?z0n1k1
  case y0n1k1 => intro w hSw; (try dsimp only at hSw); go_simp <;> rfl
  try simp only [Act.put, List.setIfInBounds_toArray, List.set_cons_zero, List.set_cons_succ]
  refine wpAnyH_take (i := 1) (oi := ⟨some 12, Op.move (Operand.tmp 0), 24, _, _, none⟩) (v := ?v1n1k2) rfl (by kernel_rfl) (by kernel_rfl) (by kernel_rfl) (fun _ _ _ h => h) (Or.inl ⟨by rfl, ?y1n1k2⟩) hHeld ?z1n1k2
  case y1n1k2 => intro w hSw; (try dsimp only at hSw); go_simp <;> rfl
  try simp only [Act.put, List.setIfInBounds_toArray, List.set_cons_zero, List.set_cons_succ]
  refine wpAnyH_take (i := 2) (oi := ⟨some 13, Op.fieldAddr 41 (Operand.tmp 3) 0, 0, _, _, none⟩) (v := ?v2n1k3) rfl (by kernel_rfl) (by kernel_rfl) (by kernel_rfl) (fun _ _ _ h => h) (Or.inl ⟨by rfl, ?y2n1k3⟩) hHeld ?z2n1k3
  case y2n1k3 => intro w hSw; (try dsimp only at hSw); go_simp <;> rfl
  try simp only [Act.put, List.setIfInBounds_toArray, List.set_cons_zero, List.set_cons_succ]
  refine wpAnyH_take (i := 3) (oi := ⟨some 14, Op.load 3 (Operand.tmp 13), 3, _, _, none⟩) (v := ?v3n1k4) rfl (by kernel_rfl) (by kernel_rfl) (by kernel_rfl) (fun _ _ _ h => h) (Or.inl ⟨by rfl, ?y3n1k4⟩) hHeld ?z3n1k4
  case y3n1k4 => intro w hSw; (try dsimp only at hSw); go_simp <;> rfl
  try simp only [Act.put, List.setIfInBounds_toArray, List.set_cons_zero, List.set_cons_succ]
  refine wpAnyH_take (i := 4) (oi := ⟨some 15, Op.fieldAddr 41 (Operand.tmp 3) 1, 0, _, _, none⟩) (v := ?v4n1k5) rfl (by kernel_rfl) (by kernel_rfl) (by kernel_rfl) (fun _ _ _ h => h) (Or.inl ⟨by rfl, ?y4n1k5⟩) hHeld ?z4n1k5
  case y4n1k5 => intro w hSw; (try dsimp only at hSw); go_simp <;> rfl
  try simp only [Act.put, List.setIfInBounds_toArray, List.set_cons_zero, List.set_cons_succ]
  refine wpAnyH_take (i := 5) (oi := ⟨some 16, Op.load 3 (Operand.tmp 15), 3, _, _, none⟩) (v := ?v5n1k6) rfl (by kernel_rfl) (by kernel_rfl) (by kernel_rfl) (fun _ _ _ h => h) (Or.inl ⟨by rfl, ?y5n1k6⟩) hHeld ?z5n1k6
  case y5n1k6 => intro w hSw; (try dsimp only at hSw); go_simp <;> rfl
  try simp only [Act.put, List.setIfInBounds_toArray, List.set_cons_zero, List.set_cons_succ]
  refine wpAnyH_take (i := 6) (oi := ⟨some 17, Op.nilCheck (Operand.tmp 11), 0, _, _, none⟩) (v := ?v6n1k7) rfl (by kernel_rfl) (by kernel_rfl) (by kernel_rfl) (fun _ _ _ h => h) (Or.inl ⟨by rfl, ?y6n1k7⟩) hHeld ?z6n1k7
  case y6n1k7 => intro w hSw; (try dsimp only at hSw); go_simp <;> rfl
  try simp only [Act.put, List.setIfInBounds_toArray, List.set_cons_zero, List.set_cons_succ]
  refine wpAnyH_take (i := 7) (oi := ⟨some 18, Op.fieldAddr 29 (Operand.tmp 17) 0, 0, _, _, none⟩) (v := ?v7n1k8) rfl (by kernel_rfl) (by kernel_rfl) (by kernel_rfl) (fun _ _ _ h => h) (Or.inl ⟨by rfl, ?y7n1k8⟩) hHeld ?z7n1k8
  case y7n1k8 => intro w hSw; (try dsimp only at hSw); go_simp <;> rfl
  try simp only [Act.put, List.setIfInBounds_toArray, List.set_cons_zero, List.set_cons_succ]
  refine wpAnyH_ready (rs := [8]) (by kernel_rfl) (by simp) ?_
  refine AllReadyH.cons (o := ⟨none, Op.store 3 (Operand.tmp 18) (Operand.tmp 14), 0, _, _, none⟩) rfl (fun K hK => ?_) AllReadyH.nil
  go_simp
  refine hK.out _ _ (BCK.out _ ((Kept.setCell (S := fun i => i = m) w1 (by rfl) _).step (Kept.drew _ _))) (fun hHeld => ?_)
  clear hK K
  try simp only [Act.put, List.setIfInBounds_toArray, List.set_cons_zero, List.set_cons_succ]
  refine wpAnyH_take (i := 9) (oi := ⟨some 19, Op.nilCheck (Operand.tmp 12), 0, _, _, none⟩) (v := ?v9n1k9) rfl (by kernel_rfl) (by kernel_rfl) (by kernel_rfl) (fun _ _ _ h => h) (Or.inl ⟨by rfl, ?y9n1k9⟩) hHeld ?z9n1k9
  case y9n1k9 => intro w hSw; (try dsimp only at hSw); go_simp <;> rfl
  try simp only [Act.put, List.setIfInBounds_toArray, List.set_cons_zero, List.set_cons_succ]
  refine wpAnyH_take (i := 10) (oi := ⟨some 20, Op.fieldAddr 29 (Operand.tmp 19) 1, 0, _, _, none⟩) (v := ?v10n1k10) rfl (by kernel_rfl) (by kernel_rfl) (by kernel_rfl) (fun _ _ _ h => h) (Or.inl ⟨by rfl, ?y10n1k10⟩) hHeld ?z10n1k10
  case y10n1k10 => intro w hSw; (try dsimp only at hSw); go_simp <;> rfl
  try simp only [Act.put, List.setIfInBounds_toArray, List.set_cons_zero, List.set_cons_succ]
  refine wpAnyH_ready (rs := [11]) (by kernel_rfl) (by simp) ?_
  refine AllReadyH.cons (o := ⟨none, Op.store 3 (Operand.tmp 20) (Operand.tmp 16), 0, _, _, none⟩) rfl (fun K hK => ?_) AllReadyH.nil
  go_simp
  refine hK.out _ _ (BCK.out _ (((Kept.setCell (S := fun i => i = m) w1 (by rfl) _).step (Kept.setCell _ (by rfl) _)).step (Kept.drew _ _))) (fun hHeld => ?_)
  clear hK K
  try simp only [Act.put, List.setIfInBounds_toArray, List.set_cons_zero, List.set_cons_succ]
  refine wpAnyH_done (by kernel_rfl) ?_ _
  refine NoPanic.normal ?_
  clear hHeld
  have HD := Lib.hid ((H1.out.head e.index e.term).kept (Kept.drew noBlock _))
  have KD : Hid (Kept (fun i => i = m) w1 ((w1.setCell ⟨m, 0, none⟩ (.int .i64 e.index)).setCell ⟨m, 1, none⟩ (.int .i64 e.term)).drew) := ((Kept.setCell w1 (by rfl) _).step (Kept.setCell _ (by rfl) _)).step (Kept.drew _ _)
  obtain ⟨sh, hsh⟩ : ∃ sh : StV, sh = { s with index := e.index, term := e.term } := ⟨_, rfl⟩
  rw [← hsh] at HD
  generalize ((w1.setCell ⟨m, 0, none⟩ (.int .i64 e.index)).setCell ⟨m, 1, none⟩ (.int .i64 e.term)).drew = w2 at HD KD ⊢
  clear e0 e1 m0 m1 g0 g1 BCK H1
  have HE2 := Lib.hid (KD.out.blk HE.out (show ¬ (w.heap.size = m) by omega))
  have HR2 := Lib.hid (KD.out.blk HR.out (show ¬ (w.heap.size + 1 = m) by omega))
  have K2 : Hid (Kept (Mb m b1 b2 b3) w w2) := (K1.out.mono (fun _ _ h => h.elim)).trans KD.out (fun i _ h => .inl h)
  obtain ⟨_, _, e2, e3, e4, e5, e6, e7⟩ := ent_cells HE2.out
  have ka := Kept.alloc noBlock w2 (.cells #[.int .i64 e.cmd.op, .int .i64 e.cmd.client, .int .i64 e.cmd.seq, .string e.cmd.key, .string e.cmd.value, .string e.cmd.old] 39)
  have ha := heap_alloc_new w2 (.cells #[.int .i64 e.cmd.op, .int .i64 e.cmd.client, .int .i64 e.cmd.seq, .string e.cmd.key, .string e.cmd.value, .string e.cmd.old] 39)
  have HS2 := Lib.hid (Nat.le_trans (Nat.le_of_eq Z1.out.symm) KD.out.size)
  clear hmE HE HR K1 Z1 KD HE2
  go_upto_region 3 with (fail)
  obtain ⟨C, hC⟩ : ∃ C, C = w2.heap.size := ⟨_, rfl⟩
  rw [← hC] at ha HS2 ⊢
  generalize w2.alloc (.cells #[.int .i64 e.cmd.op, .int .i64 e.cmd.client, .int .i64 e.cmd.seq, .string e.cmd.key, .string e.cmd.value, .string e.cmd.old] 39) = w3 at ka ha ⊢
  have HD3 := Lib.hid (HD.out.kept ka)
  have HC3 := Lib.hid ha
  have HR3 := Lib.hid (ka.blk HR2.out (fun h => h))
  have K3 := Lib.hid (K2.out.step (ka.mono (fun _ _ h => h.elim)))
  clear hC ka ha e2 e3 e4 e5 e6 e7 HD HR2 K2
  have CC : Hid (∀ u : World, u.heap[C]? = some (.cells #[.int .i64 e.cmd.op, .int .i64 e.cmd.client, .int .i64 e.cmd.seq, .string e.cmd.key, .string e.cmd.value, .string e.cmd.old] 39 (0, 0)) → u.cell? ⟨C, 0, none⟩ = some (.int .i64 e.cmd.op) ∧ u.cell? ⟨C, 1, none⟩ = some (.int .i64 e.cmd.client) ∧ u.cell? ⟨C, 2, none⟩ = some (.int .i64 e.cmd.seq) ∧ u.cell? ⟨C, 3, none⟩ = some (.string e.cmd.key) ∧ u.cell? ⟨C, 4, none⟩ = some (.string e.cmd.value) ∧ u.cell? ⟨C, 5, none⟩ = some (.string e.cmd.old)) := fun u h =>
    ⟨cell_of_row _ _ _ _ _ _ h, cell_of_row _ _ _ _ _ _ h, cell_of_row _ _ _ _ _ _ h, cell_of_row _ _ _ _ _ _ h, cell_of_row _ _ _ _ _ _ h, cell_of_row _ _ _ _ _ _ h⟩
  have OUT : Hid (∀ (r : RepV) (s' : StV) (u : World), Md u m b1 b2 b3 s' → Kept (Mb m b1 b2 b3) w u → Md (setR u (w.heap.size + 1) r) m b1 b2 b3 s' ∧ Kept (Mb m b1 b2 b3) w (setR u (w.heap.size + 1) r)) := fun r s' u hu ku =>
    ⟨hu.keep (setR_kept u _ r) (fun i hi e => by have := HLT.out i hi; omega), ((ku.mono (T := fun i => Mb m b1 b2 b3 i ∨ w.heap.size ≤ i) (fun _ _ h => .inl h)).trans (setR_kept u _ r) (fun i _ h => .inr (by omega))).mono (fun i hi h => h.elim id (fun h => by omega))⟩
  obtain ⟨c0, c1, c2, c3, c4, c5⟩ := CC.out _ HC3.out
  obtain ⟨r0, r1⟩ := rep_cells HR3.out
  have f0 : w3.frozen? ⟨w.heap.size + 1, 0, none⟩ = false := frozen_of_row _ _ _ _ _ HR3.out
  have f1 : w3.frozen? ⟨w.heap.size + 1, 1, none⟩ = false := frozen_of_row _ _ _ _ _ HR3.out
  by_cases hop : e.cmd.op = 0
  · have E1 : Hid (stepV s e = (sh, told 0)) := by unfold Hid; rw [stepV_next HN.out, if_pos hop, hsh]
    have hbz := setR_block (x := told 0) (r := told 0) HR3.out
    have OZ := Lib.hid (OUT.out (told 0) sh w3 HD3.out K3.out)
    go_wp2
    change bodyPost _ _ _ _ _ (setR w3 (w.heap.size + 1) (told 0))
    generalize setR w3 (w.heap.size + 1) (told 0) = vz at hbz OZ ⊢
    obtain ⟨z0, z1⟩ := rep_cells hbz
    refine bodyPost_ret (v := RepV.val (told 0)) (by simp [results, Try.results14, go_sem, RepV.val, Try.isAgg44, Try.sizeOf44, z0, z1]) rfl ?_
    rw [E1.out]
    exact ⟨rfl, OZ.out⟩
  · have hop' : (e.cmd.op == 0) = false := by simpa using hop
    have hmay := HN.out.right.2.2.2.2
    obtain ⟨lq, hlq⟩ : ∃ lq, lq = Srt.look s.sess e.cmd.client := ⟨_, rfl⟩
    obtain ⟨n, hnn⟩ : ∃ n : Int, n = (lq.map (fun v : Int × RepV => v.1)).getD 0 := ⟨_, rfl⟩
    obtain ⟨ok, hok⟩ : ∃ ok : Bool, ok = lq.isSome := ⟨_, rfl⟩
    have SM : Hid (∀ u, Kept noBlock w3 u → u.cell? ⟨m, 3, none⟩ = some (.map (some b2)) ∧ u.cell? ⟨C, 1, none⟩ = some (.int .i64 e.cmd.client) ∧ (Instr.lookup 26 (.map (some b2)) (.int .i64 e.cmd.client) true).run Try.prog u = .ok (.tuple #[.int .i64 n, .bool ok]) u) := fun u k => by
      have hu := HD3.out.kept k
      have hr := MI.run_look2 hu.seqs e.cmd.client (may_client hmay)
      have e1 : Srt.look (seqsM sh) e.cmd.client = lq.map (fun v : Int × RepV => v.1) := by unfold seqsM; rw [mapV_look, hsh, hlq]
      unfold Srt.has at hr
      rw [e1, ← hnn, Option.isSome_map, ← hok] at hr
      exact ⟨hu.cells.2.2.2.1, (CC.out _ (k.blk HC3.out (fun h => h))).2.1, hr⟩
    have HOP := Lib.hid hop
    have HMAY := Lib.hid hmay
    have HLQ := Lib.hid hlq
    have HNN := Lib.hid hnn
    have HOK := Lib.hid hok
    clear hop hmay hlq hnn hok
    go_upto_region 5 with (fail)
    clear c0 c1 c2 c3 c4 c5 r0 r1 f0 f1
    refine wp_region_noPanic ?_
    refine wp_region_held_drew (S := fun u => u.cell? ⟨m, 3, none⟩ = some (.map (some b2)) ∧ u.cell? ⟨C, 1, none⟩ = some (.int .i64 e.cmd.client) ∧ (Instr.lookup 26 (.map (some b2)) (.int .i64 e.cmd.client) true).run Try.prog u = .ok (.tuple #[.int .i64 n, .bool ok]) u) (by kernel_rfl) (SM.out _ (Kept.drew _ _)) (fun hHeld => ?_)
    refine wpAnyH_take (i := 0) (oi := ⟨some 28, Op.move (Operand.tmp 0), 24, _, _, none⟩) (v := ?v0n2k1) rfl (by kernel_rfl) (by kernel_rfl) (by kernel_rfl) (fun _ _ _ h => h) (Or.inl ⟨by rfl, ?y0n2k1⟩) hHeld ?z0n2k1
    case y0n2k1 => intro w hSw; (try dsimp only at hSw); go_simp <;> rfl
    try simp only [Act.put, List.setIfInBounds_toArray, List.set_cons_zero, List.set_cons_succ]
    refine wpAnyH_take (i := 1) (oi := ⟨some 29, Op.nilCheck (Operand.tmp 28), 0, _, _, none⟩) (v := ?v1n2k2) rfl (by kernel_rfl) (by kernel_rfl) (by kernel_rfl) (fun _ _ _ h => h) (Or.inl ⟨by rfl, ?y1n2k2⟩) hHeld ?z1n2k2
    case y1n2k2 => intro w hSw; (try dsimp only at hSw); go_simp <;> rfl
    try simp only [Act.put, List.setIfInBounds_toArray, List.set_cons_zero, List.set_cons_succ]
    refine wpAnyH_take (i := 2) (oi := ⟨some 30, Op.fieldAddr 29 (Operand.tmp 29) 3, 0, _, _, none⟩) (v := ?v2n2k3) rfl (by kernel_rfl) (by kernel_rfl) (by kernel_rfl) (fun _ _ _ h => h) (Or.inl ⟨by rfl, ?y2n2k3⟩) hHeld ?z2n2k3
    case y2n2k3 => intro w hSw; (try dsimp only at hSw); go_simp <;> rfl
    try simp only [Act.put, List.setIfInBounds_toArray, List.set_cons_zero, List.set_cons_succ]
    refine wpAnyH_take (i := 3) (oi := ⟨some 31, Op.load 26 (Operand.tmp 30), 26, _, _, none⟩) (v := ?v3n2k4) rfl (by kernel_rfl) (by kernel_rfl) (by kernel_rfl) (fun _ _ _ h => h) (Or.inl ⟨by rfl, ?y3n2k4⟩) hHeld ?z3n2k4
    case y3n2k4 => intro w hSw; (try dsimp only at hSw); go_simp <;> rfl
    try simp only [Act.put, List.setIfInBounds_toArray, List.set_cons_zero, List.set_cons_succ]
    refine wpAnyH_take (i := 4) (oi := ⟨some 32, Op.fieldAddr 39 (Operand.tmp 5) 1, 0, _, _, none⟩) (v := ?v4n2k5) rfl (by kernel_rfl) (by kernel_rfl) (by kernel_rfl) (fun _ _ _ h => h) (Or.inl ⟨by rfl, ?y4n2k5⟩) hHeld ?z4n2k5
    case y4n2k5 => intro w hSw; (try dsimp only at hSw); go_simp <;> rfl
    try simp only [Act.put, List.setIfInBounds_toArray, List.set_cons_zero, List.set_cons_succ]
    refine wpAnyH_take (i := 5) (oi := ⟨some 33, Op.load 3 (Operand.tmp 32), 3, _, _, none⟩) (v := ?v5n2k6) rfl (by kernel_rfl) (by kernel_rfl) (by kernel_rfl) (fun _ _ _ h => h) (Or.inl ⟨by rfl, ?y5n2k6⟩) hHeld ?z5n2k6
    case y5n2k6 => intro w hSw; (try dsimp only at hSw); go_simp <;> rfl
    try simp only [Act.put, List.setIfInBounds_toArray, List.set_cons_zero, List.set_cons_succ]
    refine wpAnyH_take (i := 6) (oi := ⟨some 34, Op.lookup 26 (Operand.tmp 31) (Operand.tmp 33) true, 90, _, _, none⟩) (v := ?v6n2k7) rfl (by kernel_rfl) (by kernel_rfl) (by kernel_rfl) (fun _ _ _ h => h) (Or.inl ⟨by rfl, ?y6n2k7⟩) hHeld ?z6n2k7
    case y6n2k7 => intro w hSw; (try dsimp only at hSw); go_simp <;> rfl
    try simp only [Act.put, List.setIfInBounds_toArray, List.set_cons_zero, List.set_cons_succ]
    refine wpAnyH_take (i := 7) (oi := ⟨some 27, Op.move (Operand.tmp 34), 90, _, _, none⟩) (v := ?v7n2k8) rfl (by kernel_rfl) (by kernel_rfl) (by kernel_rfl) (fun _ _ _ h => h) (Or.inl ⟨by rfl, ?y7n2k8⟩) hHeld ?z7n2k8
    case y7n2k8 => intro w hSw; (try dsimp only at hSw); go_simp <;> rfl
    try simp only [Act.put, List.setIfInBounds_toArray, List.set_cons_zero, List.set_cons_succ]
    refine wpAnyH_take (i := 8) (oi := ⟨some 35, Op.extract (Operand.tmp 27) 0, 3, _, _, none⟩) (v := ?v8n2k9) rfl (by kernel_rfl) (by kernel_rfl) (by kernel_rfl) (fun _ _ _ h => h) (Or.inl ⟨by rfl, ?y8n2k9⟩) hHeld ?z8n2k9
    case y8n2k9 => intro w hSw; (try dsimp only at hSw); go_simp <;> rfl
    try simp only [Act.put, List.setIfInBounds_toArray, List.set_cons_zero, List.set_cons_succ]
    refine wpAnyH_take (i := 9) (oi := ⟨some 36, Op.extract (Operand.tmp 27) 1, 4, _, _, none⟩) (v := ?v9n2k10) rfl (by kernel_rfl) (by kernel_rfl) (by kernel_rfl) (fun _ _ _ h => h) (Or.inl ⟨by rfl, ?y9n2k10⟩) hHeld ?z9n2k10
    case y9n2k10 => intro w hSw; (try dsimp only at hSw); go_simp <;> rfl
    try simp only [Act.put, List.setIfInBounds_toArray, List.set_cons_zero, List.set_cons_succ]
    refine wpAnyH_take (i := 10) (oi := ⟨some 6, Op.assign (Operand.tmp 35), 3, _, _, none⟩) (v := ?v10n2k11) rfl (by kernel_rfl) (by kernel_rfl) (by kernel_rfl) (fun _ _ _ h => h) (Or.inl ⟨by rfl, ?y10n2k11⟩) hHeld ?z10n2k11
    case y10n2k11 => intro w hSw; (try dsimp only at hSw); go_simp <;> rfl
    try simp only [Act.put, List.setIfInBounds_toArray, List.set_cons_zero, List.set_cons_succ]
    refine wpAnyH_take (i := 11) (oi := ⟨some 7, Op.assign (Operand.tmp 36), 4, _, _, none⟩) (v := ?v11n2k12) rfl (by kernel_rfl) (by kernel_rfl) (by kernel_rfl) (fun _ _ _ h => h) (Or.inl ⟨by rfl, ?y11n2k12⟩) hHeld ?z11n2k12
    case y11n2k12 => intro w hSw; (try dsimp only at hSw); go_simp <;> rfl
    try simp only [Act.put, List.setIfInBounds_toArray, List.set_cons_zero, List.set_cons_succ]
    refine wpAnyH_done (by kernel_rfl) ?_ _
    refine NoPanic.normal ?_
    have kd := Kept.drew noBlock w3
    generalize w3.drew = w4 at kd ⊢
    have HD4 := Lib.hid (HD3.out.kept kd)
    have HC4 := Lib.hid (kd.blk HC3.out (fun h => h))
    have HR4 := Lib.hid (kd.blk HR3.out (fun h => h))
    have K4 := Lib.hid (K3.out.step (kd.mono (fun _ _ h => h.elim)))
    have HSC := Lib.hid HS2.out
    have E2 : Hid (stepV s e = onceV sh e.cmd) := by unfold Hid; rw [stepV_next HN.out, if_neg HOP.out, hsh]
    have HLS : Hid (Srt.look sh.sess e.cmd.client = lq) := by unfold Hid; rw [HLQ.out, hsh]
    have HPS : Hid (sh.pairs = s.pairs) := by unfold Hid; rw [hsh]
    clear hHeld kd SM HD3 HC3 HR3 K3
    obtain ⟨g, hg⟩ : ∃ g : Bool, g = (ok && decide (e.cmd.seq ≤ n)) := ⟨_, rfl⟩
    obtain ⟨c0, c1, c2, c3, c4, c5⟩ := CC.out _ HC4.out
    go_upto_region 6 with (fail)
    go_cut [43] (fun x wc => x = .bool g ∧ w4 = wc)
    case first =>
      cases ok with
      | false =>
        go_wp2_with fail
        go_meet
        exact ⟨by rw [hg]; rfl, rfl⟩
      | true =>
        go_wp2_with fail
        go_meet
        exact ⟨by rw [hg]; simp, rfl⟩
    case rest =>
      obtain ⟨rfl, rfl⟩ := hcut
      obtain ⟨r0, r1⟩ := rep_cells HR4.out
      have f0 : w4.frozen? ⟨w.heap.size + 1, 0, none⟩ = false := frozen_of_row _ _ _ _ _ HR4.out
      have f1 : w4.frozen? ⟨w.heap.size + 1, 1, none⟩ = false := frozen_of_row _ _ _ _ _ HR4.out
      cases hgb : g with
      | true =>
        have hq : ∃ q, lq = some q ∧ n = q.1 ∧ e.cmd.seq ≤ q.1 := by
          rw [hgb] at hg
          have h1 := HOK.out
          have h2 := HNN.out
          cases hlq : lq with
          | none => rw [hlq] at h1; rw [h1] at hg; simp at hg
          | some q =>
            rw [hlq] at h1 h2
            rw [h1] at hg
            have h3 : n = q.1 := h2
            exact ⟨q, rfl, h3, by rw [← h3]; simpa using hg.symm⟩
        obtain ⟨q, hlq, hnq, hle⟩ := hq
        have HQ := Lib.hid hlq
        clear hg hgb hlq
        by_cases hgt : e.cmd.seq < n
        · have E3 : Hid (stepV s e = (sh, told 12)) := by
            unfold Hid
            rw [E2.out]
            unfold onceV
            rw [HLS.out, HQ.out]
            simp only
            rw [if_neg (by omega), if_pos (by omega)]
          have hbz := setR_block (x := told 0) (r := told 12) HR4.out
          have OZ := Lib.hid (OUT.out (told 12) sh w4 HD4.out K4.out)
          clear hle hnq
          go_wp2
          change bodyPost _ _ _ _ _ (setR w4 (w.heap.size + 1) (told 12))
          generalize setR w4 (w.heap.size + 1) (told 12) = vz at hbz OZ ⊢
          obtain ⟨z0, z1⟩ := rep_cells hbz
          refine bodyPost_ret (v := RepV.val (told 12)) (by simp [results, Try.results14, go_sem, RepV.val, Try.isAgg44, Try.sizeOf44, z0, z1]) rfl ?_
          rw [E3.out]
          exact ⟨rfl, OZ.out⟩
        · have E3 : Hid (stepV s e = (sh, q.2)) := by
            unfold Hid
            rw [E2.out]
            unfold onceV
            rw [HLS.out, HQ.out]
            simp only
            rw [if_pos (by omega)]
          have hbz := setR_block (x := told 0) (r := q.2) HR4.out
          have OZ := Lib.hid (OUT.out q.2 sh w4 HD4.out K4.out)
          have SM : Hid (∀ u, Kept (fun i => i = w.heap.size + 1) w4 u → u.cell? ⟨m, 4, none⟩ = some (.map (some b3)) ∧ u.cell? ⟨C, 1, none⟩ = some (.int .i64 e.cmd.client) ∧ (Instr.lookup 27 (.map (some b3)) (.int .i64 e.cmd.client) false).run Try.prog u = .ok (.agg #[.int .i64 q.2.err, .string q.2.value]) u) := fun u k => by
            have hu := HD4.out.keep k (fun i hi e => by have := HLT.out i hi; omega)
            have hr := MR.run_look1 hu.told e.cmd.client (may_client HMAY.out)
            have e1 : Srt.look (toldM sh) e.cmd.client = some q.2 := by unfold toldM; rw [mapV_look, HLS.out, HQ.out]; rfl
            rw [e1] at hr
            exact ⟨hu.cells.2.2.2.2, (CC.out _ (k.blk HC4.out (show ¬ (C = w.heap.size + 1) by have := HSC.out; omega))).2.1, hr⟩
          go_upto_region 9 with (fail)
          clear c0 c1 c2 c3 c4 c5
          refine wp_region_noPanic ?_
          refine wp_region_held_drew (S := fun u => u.cell? ⟨m, 4, none⟩ = some (.map (some b3)) ∧ u.cell? ⟨C, 1, none⟩ = some (.int .i64 e.cmd.client) ∧ (Instr.lookup 27 (.map (some b3)) (.int .i64 e.cmd.client) false).run Try.prog u = .ok (.agg #[.int .i64 q.2.err, .string q.2.value]) u) (by kernel_rfl) (SM.out _ (Kept.drew _ _)) (fun hHeld => ?_)
          refine wpAnyH_take (i := 0) (oi := ⟨some 49, Op.move (Operand.tmp 0), 24, _, _, none⟩) (v := ?v0n3k1) rfl (by kernel_rfl) (by kernel_rfl) (by kernel_rfl) (fun _ _ _ h => h) (Or.inl ⟨by rfl, ?y0n3k1⟩) hHeld ?z0n3k1
          case y0n3k1 => intro w hSw; (try dsimp only at hSw); go_simp <;> rfl
          try simp only [Act.put, List.setIfInBounds_toArray, List.set_cons_zero, List.set_cons_succ]
          refine wpAnyH_take (i := 1) (oi := ⟨some 50, Op.nilCheck (Operand.tmp 49), 0, _, _, none⟩) (v := ?v1n3k2) rfl (by kernel_rfl) (by kernel_rfl) (by kernel_rfl) (fun _ _ _ h => h) (Or.inl ⟨by rfl, ?y1n3k2⟩) hHeld ?z1n3k2
          case y1n3k2 => intro w hSw; (try dsimp only at hSw); go_simp <;> rfl
          try simp only [Act.put, List.setIfInBounds_toArray, List.set_cons_zero, List.set_cons_succ]
          refine wpAnyH_take (i := 2) (oi := ⟨some 51, Op.fieldAddr 29 (Operand.tmp 50) 4, 0, _, _, none⟩) (v := ?v2n3k3) rfl (by kernel_rfl) (by kernel_rfl) (by kernel_rfl) (fun _ _ _ h => h) (Or.inl ⟨by rfl, ?y2n3k3⟩) hHeld ?z2n3k3
          case y2n3k3 => intro w hSw; (try dsimp only at hSw); go_simp <;> rfl
          try simp only [Act.put, List.setIfInBounds_toArray, List.set_cons_zero, List.set_cons_succ]
          refine wpAnyH_take (i := 3) (oi := ⟨some 52, Op.load 27 (Operand.tmp 51), 27, _, _, none⟩) (v := ?v3n3k4) rfl (by kernel_rfl) (by kernel_rfl) (by kernel_rfl) (fun _ _ _ h => h) (Or.inl ⟨by rfl, ?y3n3k4⟩) hHeld ?z3n3k4
          case y3n3k4 => intro w hSw; (try dsimp only at hSw); go_simp <;> rfl
          try simp only [Act.put, List.setIfInBounds_toArray, List.set_cons_zero, List.set_cons_succ]
          refine wpAnyH_take (i := 4) (oi := ⟨some 53, Op.fieldAddr 39 (Operand.tmp 5) 1, 0, _, _, none⟩) (v := ?v4n3k5) rfl (by kernel_rfl) (by kernel_rfl) (by kernel_rfl) (fun _ _ _ h => h) (Or.inl ⟨by rfl, ?y4n3k5⟩) hHeld ?z4n3k5
          case y4n3k5 => intro w hSw; (try dsimp only at hSw); go_simp <;> rfl
          try simp only [Act.put, List.setIfInBounds_toArray, List.set_cons_zero, List.set_cons_succ]
          refine wpAnyH_take (i := 5) (oi := ⟨some 54, Op.load 3 (Operand.tmp 53), 3, _, _, none⟩) (v := ?v5n3k6) rfl (by kernel_rfl) (by kernel_rfl) (by kernel_rfl) (fun _ _ _ h => h) (Or.inl ⟨by rfl, ?y5n3k6⟩) hHeld ?z5n3k6
          case y5n3k6 => intro w hSw; (try dsimp only at hSw); go_simp <;> rfl
          try simp only [Act.put, List.setIfInBounds_toArray, List.set_cons_zero, List.set_cons_succ]
          refine wpAnyH_take (i := 6) (oi := ⟨some 55, Op.lookup 27 (Operand.tmp 52) (Operand.tmp 54) false, 44, _, _, none⟩) (v := ?v6n3k7) rfl (by kernel_rfl) (by kernel_rfl) (by kernel_rfl) (fun _ _ _ h => h) (Or.inl ⟨by rfl, ?y6n3k7⟩) hHeld ?z6n3k7
          case y6n3k7 => intro w hSw; (try dsimp only at hSw); go_simp <;> rfl
          try simp only [Act.put, List.setIfInBounds_toArray, List.set_cons_zero, List.set_cons_succ]
          refine wpAnyH_ready (rs := [7]) (by kernel_rfl) (by simp) ?_
          refine AllReadyH.cons (o := ⟨none, Op.store 44 (Operand.tmp 4) (Operand.tmp 55), 0, _, _, none⟩) rfl (fun K hK => ?_) AllReadyH.nil
          go_simp
          refine hK.out _ _ (SM.out _ ((setR_kept w4 (w.heap.size + 1) q.2).step (Kept.drew _ _))) (fun hHeld => ?_)
          clear hK K
          try simp only [Act.put, List.setIfInBounds_toArray, List.set_cons_zero, List.set_cons_succ]
          refine wpAnyH_done (by kernel_rfl) ?_ _
          refine NoPanic.normal ?_
          clear hHeld
          have hbz2 := (Kept.drew noBlock (setR w4 (w.heap.size + 1) q.2)).blk hbz (fun h => h)
          have OZ2 : Hid (Md (setR w4 (w.heap.size + 1) q.2).drew m b1 b2 b3 sh ∧ Kept (Mb m b1 b2 b3) w (setR w4 (w.heap.size + 1) q.2).drew) := ⟨OZ.out.1.kept (Kept.drew _ _), OZ.out.2.step (Kept.drew _ _)⟩
          change Exit.then _ _ _ _ ((setR w4 (w.heap.size + 1) q.2).drew)
          generalize (setR w4 (w.heap.size + 1) q.2).drew = vz at hbz2 OZ2 ⊢
          clear hbz OZ r0 r1 f0 f1
          obtain ⟨z0, z1⟩ := rep_cells hbz2
          go_wp2
          refine bodyPost_ret (v := q.2.val) (by simp [results, Try.results14, go_sem, RepV.val, Try.isAgg44, Try.sizeOf44, z0, z1]) rfl ?_
          rw [E3.out]
          exact ⟨rfl, OZ2.out⟩
      | false =>
        have E3 : Hid (stepV s e = actV sh e.cmd) := by
          unfold Hid
          rw [E2.out]
          have h1 := HOK.out
          have h2 := HNN.out
          unfold onceV
          rw [HLS.out]
          cases hlq : lq with
          | none => rfl
          | some q =>
            rw [hgb] at hg
            rw [hlq] at h1 h2
            rw [h1] at hg
            have h3 : n = q.1 := h2
            have h4 : ¬ e.cmd.seq ≤ n := by simpa using hg.symm
            simp only
            rw [if_neg (by omega), if_neg (by omega)]
        clear hg hgb HOK HNN HLQ
        obtain ⟨was, hwas⟩ : ∃ was, was = wasV s.pairs e.cmd.key := ⟨_, rfl⟩
        obtain ⟨had, hhad⟩ : ∃ had : Bool, had = (Srt.look s.pairs e.cmd.key).isSome := ⟨_, rfl⟩
        obtain ⟨len, hlen⟩ : ∃ len, len = s.pairs.length := ⟨_, rfl⟩
        have SM : Hid (∀ u, Kept noBlock w4 u → u.cell? ⟨m, 2, none⟩ = some (.map (some b1)) ∧ u.cell? ⟨C, 3, none⟩ = some (.string e.cmd.key) ∧ (Instr.lookup 25 (.map (some b1)) (.string e.cmd.key) true).run Try.prog u = .ok (.tuple #[.string was, .bool had]) u) := fun u k => by
          have hu := HD4.out.kept k
          have hr := MS.run_look2 hu.keys e.cmd.key (may_key HMAY.out HOP.out)
          have e1 : Srt.look (keysM sh) e.cmd.key = (Srt.look s.pairs e.cmd.key).map (fun v : ByteArray × Bool => v.1) := by unfold keysM; rw [mapV_look, HPS.out]
          unfold Srt.has at hr
          rw [e1, Option.isSome_map, ← hhad] at hr
          unfold wasV at hwas
          rw [← hwas] at hr
          exact ⟨hu.cells.2.2.1, (CC.out _ (k.blk HC4.out (fun h => h))).2.2.2.1, hr⟩
        have HW := Lib.hid hwas
        have HH := Lib.hid hhad
        have HL := Lib.hid hlen
        clear hwas hhad hlen
        go_upto_region 10 with (fail)
        clear c0 c1 c2 c3 c4 c5 r0 r1 f0 f1
        refine wp_region_noPanic ?_
        refine wp_region_held_drew (S := fun u => u.cell? ⟨m, 2, none⟩ = some (.map (some b1)) ∧ u.cell? ⟨C, 3, none⟩ = some (.string e.cmd.key) ∧ (Instr.lookup 25 (.map (some b1)) (.string e.cmd.key) true).run Try.prog u = .ok (.tuple #[.string was, .bool had]) u) (by kernel_rfl) (SM.out _ (Kept.drew _ _)) (fun hHeld => ?_)
        refine wpAnyH_take (i := 0) (oi := ⟨some 57, Op.move (Operand.tmp 0), 24, _, _, none⟩) (v := ?v0n4k1) rfl (by kernel_rfl) (by kernel_rfl) (by kernel_rfl) (fun _ _ _ h => h) (Or.inl ⟨by rfl, ?y0n4k1⟩) hHeld ?z0n4k1
        case y0n4k1 => intro w hSw; (try dsimp only at hSw); go_simp <;> rfl
        try simp only [Act.put, List.setIfInBounds_toArray, List.set_cons_zero, List.set_cons_succ]
        refine wpAnyH_take (i := 1) (oi := ⟨some 58, Op.nilCheck (Operand.tmp 57), 0, _, _, none⟩) (v := ?v1n4k2) rfl (by kernel_rfl) (by kernel_rfl) (by kernel_rfl) (fun _ _ _ h => h) (Or.inl ⟨by rfl, ?y1n4k2⟩) hHeld ?z1n4k2
        case y1n4k2 => intro w hSw; (try dsimp only at hSw); go_simp <;> rfl
        try simp only [Act.put, List.setIfInBounds_toArray, List.set_cons_zero, List.set_cons_succ]
        refine wpAnyH_take (i := 2) (oi := ⟨some 59, Op.fieldAddr 29 (Operand.tmp 58) 2, 0, _, _, none⟩) (v := ?v2n4k3) rfl (by kernel_rfl) (by kernel_rfl) (by kernel_rfl) (fun _ _ _ h => h) (Or.inl ⟨by rfl, ?y2n4k3⟩) hHeld ?z2n4k3
        case y2n4k3 => intro w hSw; (try dsimp only at hSw); go_simp <;> rfl
        try simp only [Act.put, List.setIfInBounds_toArray, List.set_cons_zero, List.set_cons_succ]
        refine wpAnyH_take (i := 3) (oi := ⟨some 60, Op.load 25 (Operand.tmp 59), 25, _, _, none⟩) (v := ?v3n4k4) rfl (by kernel_rfl) (by kernel_rfl) (by kernel_rfl) (fun _ _ _ h => h) (Or.inl ⟨by rfl, ?y3n4k4⟩) hHeld ?z3n4k4
        case y3n4k4 => intro w hSw; (try dsimp only at hSw); go_simp <;> rfl
        try simp only [Act.put, List.setIfInBounds_toArray, List.set_cons_zero, List.set_cons_succ]
        refine wpAnyH_take (i := 4) (oi := ⟨some 61, Op.fieldAddr 39 (Operand.tmp 5) 3, 0, _, _, none⟩) (v := ?v4n4k5) rfl (by kernel_rfl) (by kernel_rfl) (by kernel_rfl) (fun _ _ _ h => h) (Or.inl ⟨by rfl, ?y4n4k5⟩) hHeld ?z4n4k5
        case y4n4k5 => intro w hSw; (try dsimp only at hSw); go_simp <;> rfl
        try simp only [Act.put, List.setIfInBounds_toArray, List.set_cons_zero, List.set_cons_succ]
        refine wpAnyH_take (i := 5) (oi := ⟨some 62, Op.load 9 (Operand.tmp 61), 9, _, _, none⟩) (v := ?v5n4k6) rfl (by kernel_rfl) (by kernel_rfl) (by kernel_rfl) (fun _ _ _ h => h) (Or.inl ⟨by rfl, ?y5n4k6⟩) hHeld ?z5n4k6
        case y5n4k6 => intro w hSw; (try dsimp only at hSw); go_simp <;> rfl
        try simp only [Act.put, List.setIfInBounds_toArray, List.set_cons_zero, List.set_cons_succ]
        refine wpAnyH_take (i := 6) (oi := ⟨some 63, Op.lookup 25 (Operand.tmp 60) (Operand.tmp 62) true, 49, _, _, none⟩) (v := ?v6n4k7) rfl (by kernel_rfl) (by kernel_rfl) (by kernel_rfl) (fun _ _ _ h => h) (Or.inl ⟨by rfl, ?y6n4k7⟩) hHeld ?z6n4k7
        case y6n4k7 => intro w hSw; (try dsimp only at hSw); go_simp <;> rfl
        try simp only [Act.put, List.setIfInBounds_toArray, List.set_cons_zero, List.set_cons_succ]
        refine wpAnyH_take (i := 7) (oi := ⟨some 56, Op.move (Operand.tmp 63), 49, _, _, none⟩) (v := ?v7n4k8) rfl (by kernel_rfl) (by kernel_rfl) (by kernel_rfl) (fun _ _ _ h => h) (Or.inl ⟨by rfl, ?y7n4k8⟩) hHeld ?z7n4k8
        case y7n4k8 => intro w hSw; (try dsimp only at hSw); go_simp <;> rfl
        try simp only [Act.put, List.setIfInBounds_toArray, List.set_cons_zero, List.set_cons_succ]
        refine wpAnyH_take (i := 8) (oi := ⟨some 64, Op.extract (Operand.tmp 56) 0, 9, _, _, none⟩) (v := ?v8n4k9) rfl (by kernel_rfl) (by kernel_rfl) (by kernel_rfl) (fun _ _ _ h => h) (Or.inl ⟨by rfl, ?y8n4k9⟩) hHeld ?z8n4k9
        case y8n4k9 => intro w hSw; (try dsimp only at hSw); go_simp <;> rfl
        try simp only [Act.put, List.setIfInBounds_toArray, List.set_cons_zero, List.set_cons_succ]
        refine wpAnyH_take (i := 9) (oi := ⟨some 65, Op.extract (Operand.tmp 56) 1, 4, _, _, none⟩) (v := ?v9n4k10) rfl (by kernel_rfl) (by kernel_rfl) (by kernel_rfl) (fun _ _ _ h => h) (Or.inl ⟨by rfl, ?y9n4k10⟩) hHeld ?z9n4k10
        case y9n4k10 => intro w hSw; (try dsimp only at hSw); go_simp <;> rfl
        try simp only [Act.put, List.setIfInBounds_toArray, List.set_cons_zero, List.set_cons_succ]
        refine wpAnyH_take (i := 10) (oi := ⟨some 8, Op.assign (Operand.tmp 64), 9, _, _, none⟩) (v := ?v10n4k11) rfl (by kernel_rfl) (by kernel_rfl) (by kernel_rfl) (fun _ _ _ h => h) (Or.inl ⟨by rfl, ?y10n4k11⟩) hHeld ?z10n4k11
        case y10n4k11 => intro w hSw; (try dsimp only at hSw); go_simp <;> rfl
        try simp only [Act.put, List.setIfInBounds_toArray, List.set_cons_zero, List.set_cons_succ]
        refine wpAnyH_take (i := 11) (oi := ⟨some 9, Op.assign (Operand.tmp 65), 4, _, _, none⟩) (v := ?v11n4k12) rfl (by kernel_rfl) (by kernel_rfl) (by kernel_rfl) (fun _ _ _ h => h) (Or.inl ⟨by rfl, ?y11n4k12⟩) hHeld ?z11n4k12
        case y11n4k12 => intro w hSw; (try dsimp only at hSw); go_simp <;> rfl
        try simp only [Act.put, List.setIfInBounds_toArray, List.set_cons_zero, List.set_cons_succ]
        refine wpAnyH_done (by kernel_rfl) ?_ _
        refine NoPanic.normal ?_
        have kd := (Kept.alloc noBlock w4 (.cells #[.int .i64 0, .string was] 44)).step (Kept.drew _ _)
        have ha := (Kept.drew noBlock _).blk (heap_alloc_new w4 (.cells #[.int .i64 0, .string was] 44)) (fun h => h)
        clear hHeld SM
        go_upto_region 12 with (fail)
        obtain ⟨O, hO⟩ : ∃ O, O = w4.heap.size := ⟨_, rfl⟩
        have hO4 : O = w4.heap.size := hO
        rw [← hO] at ha ⊢
        generalize (w4.alloc (.cells #[.int .i64 0, .string was] 44)).drew = w5 at kd ha ⊢
        have HD5 := Lib.hid (HD4.out.kept kd)
        have HC5 := Lib.hid (kd.blk HC4.out (fun h => h))
        have HR5 := Lib.hid (kd.blk HR4.out (fun h => h))
        have K5 := Lib.hid (K4.out.step (kd.mono (fun _ _ h => h.elim)))
        have HO5 := Lib.hid ha
        have NO : Hid ((∀ i, Mb m b1 b2 b3 i → i ≠ O) ∧ C ≠ O ∧ w.heap.size + 1 ≠ O ∧ w.heap.size ≤ O) := by
          have h1 := lt_of_blk HC4.out
          have h2 := lt_of_blk HR4.out
          exact ⟨fun i hi => by have := HD4.out.lt i hi; omega, by omega, by omega, by omega⟩
        clear kd ha hO hO4 HD4 HC4 HR4 K4 HS2
        have hz1 : (keysM sh).length = len := by unfold keysM; rw [mapV_len, HPS.out, HL.out]
        have hsz : ∀ ty, (Builtin.len_ #[25] ty #[.map (some b1)]).run Try.prog w5 = .ok (.int .i64 (len : Int)) w5 := fun ty => by
          have := MS.run_size HD5.out.keys ty
          rw [hz1] at this
          exact this
        clear hz1
        obtain ⟨_, _, p2, _, _⟩ := HD5.out.cells
        obtain ⟨c0, c1, c2, c3, c4, c5⟩ := CC.out _ HC5.out
        obtain ⟨o0, o1⟩ := re_cells HO5.out
        have f0 : w5.frozen? ⟨O, 0, none⟩ = false := frozen_of_row _ _ _ _ _ HO5.out
        have f1 : w5.frozen? ⟨O, 1, none⟩ = false := frozen_of_row _ _ _ _ _ HO5.out
        obtain ⟨g2, hg2⟩ : ∃ g2 : Bool, g2 = (decide (e.cmd.op = 1) && (!had && decide (64 ≤ len))) := ⟨_, rfl⟩
        obtain ⟨g3, hg3⟩ : ∃ g3 : Bool, g3 = (!decide (e.cmd.op = 1) && !had) := ⟨_, rfl⟩
        obtain ⟨g4, hg4⟩ : ∃ g4 : Bool, g4 = (decide (e.cmd.op = 3) && !decide (was = e.cmd.old)) := ⟨_, rfl⟩
        go_cut [82] (fun x wc => x = .bool g2 ∧ w5 = wc)
        case first =>
          by_cases hp1 : e.cmd.op = 1
          · cases had with
            | true =>
              go_wp2_with fail
              go_meet
              exact ⟨by rw [hg2]; simp, rfl⟩
            | false =>
              go_wp2_with fail
              go_meet
              exact ⟨by rw [hg2]; simp [hp1]; omega, rfl⟩
          · have hp1' : (e.cmd.op == 1) = false := by simpa using hp1
            go_wp2_with fail
            go_meet
            exact ⟨by rw [hg2]; simp [hp1], rfl⟩
        case rest =>
          obtain ⟨rfl, rfl⟩ := hcut
          go_upto_if 82 with (fail)
          have hT : MS.Tb w5 b1 (mapV (fun v : ByteArray × Bool => v.1) s.pairs) := by
            have := HD5.out.keys
            unfold keysM at this
            rw [HPS.out] at this
            exact this
          have HT := Lib.hid hT
          rw [HH.out, HL.out] at hg2
          rw [HH.out] at hg3
          rw [HW.out] at hg4
          have HG2 := Lib.hid hg2
          have HG3 := Lib.hid hg3
          have HG4 := Lib.hid hg4
          clear hg2 hg3 hg4 hT
          go_cut [] (fun wc => DoRel w5 b1 O s.pairs e.cmd wc)
          case first =>
            cases h2 : g2 with
            | true =>
              have REL := Lib.hid (DoRel.same (x := ⟨0, was⟩) (rp := told 4) (do_full (by rw [← HG2.out]; exact h2)) HT.out HO5.out)
              go_wp2_with fail
              go_meet
              exact REL.out
            | false =>
              go_upto_region 14 with (fail)
              go_cut [90] (fun x wc => x = .bool g3 ∧ w5 = wc)
              case first =>
                by_cases hp1 : e.cmd.op = 1
                · have hp1' : (e.cmd.op != 1) = false := by simpa using hp1
                  go_wp2_with fail
                  go_meet
                  exact ⟨by rw [HG3.out]; simp [hp1], rfl⟩
                · have hp1' : (e.cmd.op != 1) = true := by simpa using hp1
                  go_wp2_with fail
                  go_meet
                  exact ⟨by rw [HG3.out, ← HH.out]; simp [hp1], rfl⟩
              case rest =>
                obtain ⟨rfl, rfl⟩ := hcut
                cases h3 : g3 with
                | true =>
                  have REL := Lib.hid (DoRel.same (x := ⟨0, was⟩) (rp := told 6) (do_unknown (by rw [← HG3.out]; exact h3)) HT.out HO5.out)
                  go_wp2_with fail
                  go_meet
                  exact REL.out
                | false =>
                  go_upto_region 16 with (fail)
                  go_cut [100] (fun x wc => x = .bool g4 ∧ w5 = wc)
                  case first =>
                    by_cases hp1 : e.cmd.op = 3
                    · go_wp2_with fail
                      go_meet
                      exact ⟨by rw [HG4.out, ← HW.out, text_same]; simp [hp1], rfl⟩
                    · have hp1' : (e.cmd.op == 3) = false := by simpa using hp1
                      go_wp2_with fail
                      go_meet
                      exact ⟨by rw [HG4.out]; simp [hp1], rfl⟩
                  case rest =>
                    obtain ⟨rfl, rfl⟩ := hcut
                    cases h4 : g4 with
                    | true =>
                      have REL := Lib.hid (DoRel.same (x := ⟨0, was⟩) (rp := ⟨11, was⟩) (by rw [HW.out]; exact do_match (by rw [← HG3.out]; exact h3) (by rw [← HG4.out]; exact h4)) HT.out HO5.out)
                      go_wp2_with fail
                      go_meet
                      exact REL.out
                    | false =>
                      by_cases hp2 : e.cmd.op = 2
                      · have D := Lib.hid (do_del (by rw [← HG3.out]; exact h3) hp2)
                        have SM : Hid (∀ u, Kept (fun i => i = b1) w5 u → u.cell? ⟨m, 2, none⟩ = some (.map (some b1)) ∧ u.cell? ⟨C, 3, none⟩ = some (.string e.cmd.key)) := fun u k => ⟨k.cell p2 (fun h => HD5.out.ne1 h.symm), k.cell c3 (fun h => HD5.out.keys.ne HC5.out h.symm)⟩
                        obtain ⟨u, hrun, hTu, ku⟩ := MS.run_del (HT.out.keep (Kept.drew noBlock w5) (fun h => h)) e.cmd.key (may_key HMAY.out HOP.out)
                        have KU : Hid (Kept (fun i => i = b1) w5 u) := (Kept.drew (fun i => i = b1) w5).step ku
                        have REL := Lib.hid (DoRel.turned (x := ⟨0, was⟩) (u := u) (by rw [D.out, HW.out]) (by rw [D.out]; exact (mapV_del _ _ _).symm) HT.out hTu HO5.out KU.out)
                        have hp2' : (e.cmd.op == 2) = true := by simp [hp2]
                        unfold MS.kv at hrun
                        clear hTu ku hp2
                        go_upto_region 19 with (fail)
                        refine wp_region_noPanic ?_
                        refine wp_region_held_drew (S := fun u => u.cell? ⟨m, 2, none⟩ = some (.map (some b1)) ∧ u.cell? ⟨C, 3, none⟩ = some (.string e.cmd.key)) (by kernel_rfl) (SM.out _ (Kept.drew _ _)) (fun hHeld => ?_)
                        refine wpAnyH_take (i := 0) (oi := ⟨some 106, Op.move (Operand.tmp 0), 24, _, _, none⟩) (v := ?v0n5k1) rfl (by kernel_rfl) (by kernel_rfl) (by kernel_rfl) (fun _ _ _ h => h) (Or.inl ⟨by rfl, ?y0n5k1⟩) hHeld ?z0n5k1
                        case y0n5k1 => intro w hSw; (try dsimp only at hSw); go_simp <;> rfl
                        try simp only [Act.put, List.setIfInBounds_toArray, List.set_cons_zero, List.set_cons_succ]
                        refine wpAnyH_take (i := 1) (oi := ⟨some 107, Op.nilCheck (Operand.tmp 106), 0, _, _, none⟩) (v := ?v1n5k2) rfl (by kernel_rfl) (by kernel_rfl) (by kernel_rfl) (fun _ _ _ h => h) (Or.inl ⟨by rfl, ?y1n5k2⟩) hHeld ?z1n5k2
                        case y1n5k2 => intro w hSw; (try dsimp only at hSw); go_simp <;> rfl
                        try simp only [Act.put, List.setIfInBounds_toArray, List.set_cons_zero, List.set_cons_succ]
                        refine wpAnyH_take (i := 2) (oi := ⟨some 108, Op.fieldAddr 29 (Operand.tmp 107) 2, 0, _, _, none⟩) (v := ?v2n5k3) rfl (by kernel_rfl) (by kernel_rfl) (by kernel_rfl) (fun _ _ _ h => h) (Or.inl ⟨by rfl, ?y2n5k3⟩) hHeld ?z2n5k3
                        case y2n5k3 => intro w hSw; (try dsimp only at hSw); go_simp <;> rfl
                        try simp only [Act.put, List.setIfInBounds_toArray, List.set_cons_zero, List.set_cons_succ]
                        refine wpAnyH_take (i := 3) (oi := ⟨some 109, Op.load 25 (Operand.tmp 108), 25, _, _, none⟩) (v := ?v3n5k4) rfl (by kernel_rfl) (by kernel_rfl) (by kernel_rfl) (fun _ _ _ h => h) (Or.inl ⟨by rfl, ?y3n5k4⟩) hHeld ?z3n5k4
                        case y3n5k4 => intro w hSw; (try dsimp only at hSw); go_simp <;> rfl
                        try simp only [Act.put, List.setIfInBounds_toArray, List.set_cons_zero, List.set_cons_succ]
                        refine wpAnyH_take (i := 4) (oi := ⟨some 110, Op.fieldAddr 39 (Operand.tmp 5) 3, 0, _, _, none⟩) (v := ?v4n5k5) rfl (by kernel_rfl) (by kernel_rfl) (by kernel_rfl) (fun _ _ _ h => h) (Or.inl ⟨by rfl, ?y4n5k5⟩) hHeld ?z4n5k5
                        case y4n5k5 => intro w hSw; (try dsimp only at hSw); go_simp <;> rfl
                        try simp only [Act.put, List.setIfInBounds_toArray, List.set_cons_zero, List.set_cons_succ]
                        refine wpAnyH_take (i := 5) (oi := ⟨some 111, Op.load 9 (Operand.tmp 110), 9, _, _, none⟩) (v := ?v5n5k6) rfl (by kernel_rfl) (by kernel_rfl) (by kernel_rfl) (fun _ _ _ h => h) (Or.inl ⟨by rfl, ?y5n5k6⟩) hHeld ?z5n5k6
                        case y5n5k6 => intro w hSw; (try dsimp only at hSw); go_simp <;> rfl
                        try simp only [Act.put, List.setIfInBounds_toArray, List.set_cons_zero, List.set_cons_succ]
                        refine wpAnyH_ready (rs := [6]) (by kernel_rfl) (by simp) ?_
                        refine AllReadyH.cons (o := ⟨none, Op.call { callee := Callee.builtin Builtin.delete, args := #[Operand.tmp 109, Operand.tmp 111], argTypes := #[25, 9] }, 0, _, _, none⟩) rfl (fun K hK => ?_) AllReadyH.nil
                        go_simp
                        refine hK.out _ _ (SM.out _ KU.out) (fun hHeld => ?_)
                        clear hK K
                        try simp only [Act.put, List.setIfInBounds_toArray, List.set_cons_zero, List.set_cons_succ]
                        refine wpAnyH_done (by kernel_rfl) ?_ _
                        refine NoPanic.normal ?_
                        clear hHeld
                        go_wp2_with fail
                        go_meet
                        exact REL.out
                      · have D := Lib.hid (do_put (by rw [← HG2.out]; exact h2) (by rw [← HG3.out]; exact h3) (by rw [← HG4.out]; exact h4) hp2)
                        have SM : Hid (∀ u, Kept (fun i => i = b1) w5 u → u.cell? ⟨m, 2, none⟩ = some (.map (some b1)) ∧ u.cell? ⟨C, 3, none⟩ = some (.string e.cmd.key) ∧ u.cell? ⟨C, 4, none⟩ = some (.string e.cmd.value)) := fun u k => ⟨k.cell p2 (fun h => HD5.out.ne1 h.symm), k.cell c3 (fun h => HD5.out.keys.ne HC5.out h.symm), k.cell c4 (fun h => HD5.out.keys.ne HC5.out h.symm)⟩
                        obtain ⟨u, hrun, hTu, ku⟩ := MS.run_put (HT.out.keep (Kept.drew noBlock w5) (fun h => h)) e.cmd.key (may_key HMAY.out HOP.out) (by rw [mapV_len]; have := HS.out.len; unfold maxLen; omega) e.cmd.value
                        have KU : Hid (Kept (fun i => i = b1) w5 u) := (Kept.drew (fun i => i = b1) w5).step ku
                        have REL := Lib.hid (DoRel.turned (x := ⟨0, was⟩) (u := u) (by rw [D.out.1, HW.out]) D.out.2 HT.out hTu HO5.out KU.out)
                        have hp2' : (e.cmd.op == 2) = false := by simpa using hp2
                        unfold MS.kv MS.ev at hrun
                        clear hTu ku
                        go_upto_region 20 with (fail)
                        refine wp_region_noPanic ?_
                        refine wp_region_held_drew (S := fun u => u.cell? ⟨m, 2, none⟩ = some (.map (some b1)) ∧ u.cell? ⟨C, 3, none⟩ = some (.string e.cmd.key) ∧ u.cell? ⟨C, 4, none⟩ = some (.string e.cmd.value)) (by kernel_rfl) (SM.out _ (Kept.drew _ _)) (fun hHeld => ?_)
                        refine wpAnyH_take (i := 0) (oi := ⟨some 112, Op.move (Operand.tmp 0), 24, _, _, none⟩) (v := ?v0n6k1) rfl (by kernel_rfl) (by kernel_rfl) (by kernel_rfl) (fun _ _ _ h => h) (Or.inl ⟨by rfl, ?y0n6k1⟩) hHeld ?z0n6k1
                        case y0n6k1 => intro w hSw; (try dsimp only at hSw); go_simp <;> rfl
                        try simp only [Act.put, List.setIfInBounds_toArray, List.set_cons_zero, List.set_cons_succ]
                        refine wpAnyH_take (i := 1) (oi := ⟨some 113, Op.nilCheck (Operand.tmp 112), 0, _, _, none⟩) (v := ?v1n6k2) rfl (by kernel_rfl) (by kernel_rfl) (by kernel_rfl) (fun _ _ _ h => h) (Or.inl ⟨by rfl, ?y1n6k2⟩) hHeld ?z1n6k2
                        case y1n6k2 => intro w hSw; (try dsimp only at hSw); go_simp <;> rfl
                        try simp only [Act.put, List.setIfInBounds_toArray, List.set_cons_zero, List.set_cons_succ]
                        refine wpAnyH_take (i := 2) (oi := ⟨some 114, Op.fieldAddr 29 (Operand.tmp 113) 2, 0, _, _, none⟩) (v := ?v2n6k3) rfl (by kernel_rfl) (by kernel_rfl) (by kernel_rfl) (fun _ _ _ h => h) (Or.inl ⟨by rfl, ?y2n6k3⟩) hHeld ?z2n6k3
                        case y2n6k3 => intro w hSw; (try dsimp only at hSw); go_simp <;> rfl
                        try simp only [Act.put, List.setIfInBounds_toArray, List.set_cons_zero, List.set_cons_succ]
                        refine wpAnyH_take (i := 3) (oi := ⟨some 115, Op.load 25 (Operand.tmp 114), 25, _, _, none⟩) (v := ?v3n6k4) rfl (by kernel_rfl) (by kernel_rfl) (by kernel_rfl) (fun _ _ _ h => h) (Or.inl ⟨by rfl, ?y3n6k4⟩) hHeld ?z3n6k4
                        case y3n6k4 => intro w hSw; (try dsimp only at hSw); go_simp <;> rfl
                        try simp only [Act.put, List.setIfInBounds_toArray, List.set_cons_zero, List.set_cons_succ]
                        refine wpAnyH_take (i := 4) (oi := ⟨some 116, Op.fieldAddr 39 (Operand.tmp 5) 3, 0, _, _, none⟩) (v := ?v4n6k5) rfl (by kernel_rfl) (by kernel_rfl) (by kernel_rfl) (fun _ _ _ h => h) (Or.inl ⟨by rfl, ?y4n6k5⟩) hHeld ?z4n6k5
                        case y4n6k5 => intro w hSw; (try dsimp only at hSw); go_simp <;> rfl
                        try simp only [Act.put, List.setIfInBounds_toArray, List.set_cons_zero, List.set_cons_succ]
                        refine wpAnyH_take (i := 5) (oi := ⟨some 117, Op.load 9 (Operand.tmp 116), 9, _, _, none⟩) (v := ?v5n6k6) rfl (by kernel_rfl) (by kernel_rfl) (by kernel_rfl) (fun _ _ _ h => h) (Or.inl ⟨by rfl, ?y5n6k6⟩) hHeld ?z5n6k6
                        case y5n6k6 => intro w hSw; (try dsimp only at hSw); go_simp <;> rfl
                        try simp only [Act.put, List.setIfInBounds_toArray, List.set_cons_zero, List.set_cons_succ]
                        refine wpAnyH_take (i := 6) (oi := ⟨some 118, Op.fieldAddr 39 (Operand.tmp 5) 4, 0, _, _, none⟩) (v := ?v6n6k7) rfl (by kernel_rfl) (by kernel_rfl) (by kernel_rfl) (fun _ _ _ h => h) (Or.inl ⟨by rfl, ?y6n6k7⟩) hHeld ?z6n6k7
                        case y6n6k7 => intro w hSw; (try dsimp only at hSw); go_simp <;> rfl
                        try simp only [Act.put, List.setIfInBounds_toArray, List.set_cons_zero, List.set_cons_succ]
                        refine wpAnyH_take (i := 7) (oi := ⟨some 119, Op.load 9 (Operand.tmp 118), 9, _, _, none⟩) (v := ?v7n6k8) rfl (by kernel_rfl) (by kernel_rfl) (by kernel_rfl) (fun _ _ _ h => h) (Or.inl ⟨by rfl, ?y7n6k8⟩) hHeld ?z7n6k8
                        case y7n6k8 => intro w hSw; (try dsimp only at hSw); go_simp <;> rfl
                        try simp only [Act.put, List.setIfInBounds_toArray, List.set_cons_zero, List.set_cons_succ]
                        refine wpAnyH_ready (rs := [8]) (by kernel_rfl) (by simp) ?_
                        refine AllReadyH.cons (o := ⟨none, Op.mapUpdate 25 (Operand.tmp 115) (Operand.tmp 117) (Operand.tmp 119), 0, _, _, none⟩) rfl (fun K hK => ?_) AllReadyH.nil
                        go_simp
                        refine hK.out _ _ (SM.out _ KU.out) (fun hHeld => ?_)
                        clear hK K
                        try simp only [Act.put, List.setIfInBounds_toArray, List.set_cons_zero, List.set_cons_succ]
                        refine wpAnyH_done (by kernel_rfl) ?_ _
                        refine NoPanic.normal ?_
                        clear hHeld
                        go_wp2_with fail
                        go_meet
                        exact REL.out
          case rest =>
            obtain ⟨rp, N, HRP, HNN, HTN, HOB, KDO⟩ := hcut
            clear c0 c1 c2 c3 c4 c5 o0 o1 f0 f1 hsz p2 HT HG2 HG3 HG4
            have NB := HD5.out
            have nm1 := NB.ne1
            have nm2 := NB.ne2
            have nm3 := NB.ne3
            have n12 := NB.n12
            have n13 := NB.n13
            have n23 := NB.n23
            have ltb := NB.lt
            have hnO := NO.out.1
            have hSq : MI.Tb wc b2 (seqsM sh) := NB.seqs.keep KDO.out (fun h => h.elim (fun h => n12 h.symm) (fun h => hnO _ (.inr (.inr (.inl rfl))) h))
            have hTo : MR.Tb wc b3 (toldM sh) := NB.told.keep KDO.out (fun h => h.elim (fun h => n13 h.symm) (fun h => hnO _ (.inr (.inr (.inr rfl))) h))
            have hMB := KDO.out.blk NB.blk (fun h => h.elim (fun h => nm1 h.symm) (fun h => hnO _ (.inl rfl) h))
            have hCB := KDO.out.blk HC5.out (fun h => h.elim (fun h => NB.keys.ne HC5.out h.symm) (fun h => NO.out.2.1 h))
            have hRB := KDO.out.blk HR5.out (fun h => h.elim (fun h => NB.keys.ne HR5.out h.symm) (fun h => NO.out.2.2.1 h))
            have hlen : (seqsM sh).length < maxLen ∧ (toldM sh).length < maxLen := by
              unfold seqsM toldM
              rw [mapV_len, mapV_len, show sh.sess = s.sess by rw [hsh]]
              have := HS.out.lens
              unfold maxLen
              omega
            -- the two maps of sessions
            obtain ⟨v2, st2, u1, run1, ku1, NX1⟩ := MI.entry_store (hSq.keep (Kept.drew noBlock wc) (fun h => h)) e.cmd.client (may_client HMAY.out) hlen.1
            obtain ⟨u2, run2, ku2, hSq2⟩ := NX1 u1 e.cmd.seq rfl
            have KS2 : Hid (Kept (fun i => i = b2) wc u2) := ((Kept.drew (fun i => i = b2) wc).step ku1).step ku2
            have hTo2 := hTo.keep KS2.out (fun h => n23 h.symm)
            obtain ⟨v3, st3, u3, run3, ku3, NX3⟩ := MR.entry_store hTo2 e.cmd.client (may_client HMAY.out) hlen.2
            obtain ⟨u4, run4, ku4, hTo4⟩ := NX3 u3 rp rfl
            have KU1 : Hid (Kept (fun i => i = b2 ∨ i = b3) wc u1) := ((Kept.drew (fun i => i = b2) wc).step ku1).mono (fun _ _ h => .inl h)
            have KU2 : Hid (Kept (fun i => i = b2 ∨ i = b3) wc u2) := KS2.out.mono (fun _ _ h => .inl h)
            have KU3 : Hid (Kept (fun i => i = b2 ∨ i = b3) wc u3) := KU2.out.step (ku3.mono (fun _ _ h => .inr h))
            have KU4 : Hid (Kept (fun i => i = b2 ∨ i = b3) wc u4) := KU3.out.step (ku4.mono (fun _ _ h => .inr h))
            have NEM : m ≠ b2 ∧ m ≠ b3 := ⟨fun h => nm2 h.symm, fun h => nm3 h.symm⟩
            have NEC : C ≠ b2 ∧ C ≠ b3 := ⟨fun h => hSq.ne hCB h.symm, fun h => hTo.ne hCB h.symm⟩
            have NEO : O ≠ b2 ∧ O ≠ b3 := ⟨fun h => hnO _ (.inr (.inr (.inl rfl))) h.symm, fun h => hnO _ (.inr (.inr (.inr rfl))) h.symm⟩
            have SM : Hid (∀ u, Kept (fun i => i = b2 ∨ i = b3) wc u → (u.cell? ⟨m, 3, none⟩ = some (.map (some b2)) ∧ u.cell? ⟨m, 4, none⟩ = some (.map (some b3))) ∧ (u.cell? ⟨C, 1, none⟩ = some (.int .i64 e.cmd.client) ∧ u.cell? ⟨C, 2, none⟩ = some (.int .i64 e.cmd.seq)) ∧ u.cell? ⟨O, 0, none⟩ = some (.int .i64 rp.err) ∧ u.cell? ⟨O, 1, none⟩ = some (.string rp.value)) := fun u k => by
              have a1 := k.blk hMB (fun h => h.elim NEM.1 NEM.2)
              have a2 := CC.out _ (k.blk hCB (fun h => h.elim NEC.1 NEC.2))
              exact ⟨⟨cell_of_row _ _ _ _ _ _ a1, cell_of_row _ _ _ _ _ _ a1⟩, ⟨a2.2.1, a2.2.2.1⟩, re_cells (k.blk HOB.out (fun h => h.elim NEO.1 NEO.2))⟩
            have K6 : Hid (Kept (Mb m b1 b2 b3) w u4) :=
              (((K5.out.mono (T := fun i => Mb m b1 b2 b3 i ∨ w.heap.size ≤ i) (fun _ _ h => .inl h)).trans KDO.out (fun i _ h => h.elim (fun h => .inl (.inr (.inl h))) (fun h => .inr (by have := NO.out.2.2.2; omega)))).trans KU4.out (fun i _ h => .inl (h.elim (fun h => .inr (.inr (.inl h))) (fun h => .inr (.inr (.inr h)))))).mono (fun i hi h => h.elim id (fun h => by omega))
            have HR6 := Lib.hid (KU4.out.blk hRB (fun h => h.elim (fun h => hSq.ne hRB h.symm) (fun h => hTo.ne hRB h.symm)))
            have HO6 := Lib.hid (KU4.out.blk HOB.out (fun h => h.elim NEO.1 NEO.2))
            obtain ⟨sA, hsA⟩ : ∃ sA, sA = (actV sh e.cmd).1 := ⟨_, rfl⟩
            have hrp : (actV sh e.cmd).2 = rp := by rw [HRP.out, ← HPS.out]; rfl
            have HF : Hid (Md u4 m b1 b2 b3 sA) := by
              refine ⟨?_, ?_, ?_, ?_, n12, n13, n23⟩
              · rw [hsA]
                exact KU4.out.blk hMB (fun h => h.elim NEM.1 NEM.2)
              · have e1 : keysM sA = N := by rw [hsA, HNN.out, ← HPS.out]; rfl
                rw [e1]
                exact HTN.out.keep KU4.out (fun h => h.elim n12 n13)
              · have e1 : seqsM sA = Srt.put (seqsM sh) e.cmd.client e.cmd.seq := by
                  rw [hsA]
                  exact (mapV_put (fun v : Int × RepV => v.1) sh.sess e.cmd.client (e.cmd.seq, (doV sh.pairs e.cmd).2)).symm
                rw [e1]
                exact (hSq2.keep ku3 n23).keep ku4 n23
              · have e1 : toldM sA = Srt.put (toldM sh) e.cmd.client rp := by
                  rw [hsA, HRP.out, ← HPS.out]
                  exact (mapV_put (fun v : Int × RepV => v.2) sh.sess e.cmd.client (e.cmd.seq, (doV sh.pairs e.cmd).2)).symm
                rw [e1]
                exact hTo4
            have OZ := Lib.hid (OUT.out rp sA u4 HF.out K6.out)
            have E4 : Hid (stepV s e = (sA, rp)) := by
              unfold Hid
              rw [E3.out, hsA, ← hrp]
            obtain ⟨t2, ht2⟩ : ∃ t, t = goInt (st2 : Int) := ⟨_, rfl⟩
            obtain ⟨t3, ht3⟩ : ∃ t, t = goInt (st3 : Int) := ⟨_, rfl⟩
            rw [← ht2] at run1 run2
            rw [← ht3] at run3 run4
            unfold MI.kv at run1
            unfold MI.ev at run2
            unfold MR.kv at run3
            unfold MR.ev at run4
            clear NX1 NX3 ku1 ku2 ku3 ku4 hSq2 hTo2 hTo4 hSq hTo hMB hCB hRB ht2 ht3 hsA hrp HF K6 hlen NB nm1 nm2 nm3 n12 n13 n23 ltb hnO NEM NEC NEO HRP HNN HTN KDO E3 HO5 HC5 HD5 HR5 K5 hsh
            go_upto_region 21 with (fail)
            refine wp_region_noPanic ?_
            refine wp_region_held_drew (S := fun u => (u.cell? ⟨m, 3, none⟩ = some (.map (some b2)) ∧ u.cell? ⟨m, 4, none⟩ = some (.map (some b3))) ∧ (u.cell? ⟨C, 1, none⟩ = some (.int .i64 e.cmd.client) ∧ u.cell? ⟨C, 2, none⟩ = some (.int .i64 e.cmd.seq)) ∧ u.cell? ⟨O, 0, none⟩ = some (.int .i64 rp.err) ∧ u.cell? ⟨O, 1, none⟩ = some (.string rp.value)) (by kernel_rfl) (SM.out _ (Kept.drew _ _)) (fun hHeld => ?_)
            refine wpAnyH_take (i := 0) (oi := ⟨some 120, Op.move (Operand.tmp 0), 24, _, _, none⟩) (v := ?v0n7k1) rfl (by kernel_rfl) (by kernel_rfl) (by kernel_rfl) (fun _ _ _ h => h) (Or.inl ⟨by rfl, ?y0n7k1⟩) hHeld ?z0n7k1
            case y0n7k1 => intro w hSw; (try dsimp only at hSw); go_simp <;> rfl
            try simp only [Act.put, List.setIfInBounds_toArray, List.set_cons_zero, List.set_cons_succ]
            refine wpAnyH_take (i := 1) (oi := ⟨some 121, Op.nilCheck (Operand.tmp 120), 0, _, _, none⟩) (v := ?v1n7k2) rfl (by kernel_rfl) (by kernel_rfl) (by kernel_rfl) (fun _ _ _ h => h) (Or.inl ⟨by rfl, ?y1n7k2⟩) hHeld ?z1n7k2
            case y1n7k2 => intro w hSw; (try dsimp only at hSw); go_simp <;> rfl
            try simp only [Act.put, List.setIfInBounds_toArray, List.set_cons_zero, List.set_cons_succ]
            refine wpAnyH_take (i := 2) (oi := ⟨some 122, Op.fieldAddr 29 (Operand.tmp 121) 3, 0, _, _, none⟩) (v := ?v2n7k3) rfl (by kernel_rfl) (by kernel_rfl) (by kernel_rfl) (fun _ _ _ h => h) (Or.inl ⟨by rfl, ?y2n7k3⟩) hHeld ?z2n7k3
            case y2n7k3 => intro w hSw; (try dsimp only at hSw); go_simp <;> rfl
            try simp only [Act.put, List.setIfInBounds_toArray, List.set_cons_zero, List.set_cons_succ]
            refine wpAnyH_take (i := 3) (oi := ⟨some 123, Op.load 26 (Operand.tmp 122), 26, _, _, none⟩) (v := ?v3n7k4) rfl (by kernel_rfl) (by kernel_rfl) (by kernel_rfl) (fun _ _ _ h => h) (Or.inl ⟨by rfl, ?y3n7k4⟩) hHeld ?z3n7k4
            case y3n7k4 => intro w hSw; (try dsimp only at hSw); go_simp <;> rfl
            try simp only [Act.put, List.setIfInBounds_toArray, List.set_cons_zero, List.set_cons_succ]
            refine wpAnyH_take (i := 4) (oi := ⟨some 124, Op.fieldAddr 39 (Operand.tmp 5) 1, 0, _, _, none⟩) (v := ?v4n7k5) rfl (by kernel_rfl) (by kernel_rfl) (by kernel_rfl) (fun _ _ _ h => h) (Or.inl ⟨by rfl, ?y4n7k5⟩) hHeld ?z4n7k5
            case y4n7k5 => intro w hSw; (try dsimp only at hSw); go_simp <;> rfl
            try simp only [Act.put, List.setIfInBounds_toArray, List.set_cons_zero, List.set_cons_succ]
            refine wpAnyH_take (i := 5) (oi := ⟨some 125, Op.load 3 (Operand.tmp 124), 3, _, _, none⟩) (v := ?v5n7k6) rfl (by kernel_rfl) (by kernel_rfl) (by kernel_rfl) (fun _ _ _ h => h) (Or.inl ⟨by rfl, ?y5n7k6⟩) hHeld ?z5n7k6
            case y5n7k6 => intro w hSw; (try dsimp only at hSw); go_simp <;> rfl
            try simp only [Act.put, List.setIfInBounds_toArray, List.set_cons_zero, List.set_cons_succ]
            refine wpAnyH_take (i := 6) (oi := ⟨some 126, Op.move (Operand.tmp 0), 24, _, _, none⟩) (v := ?v6n7k7) rfl (by kernel_rfl) (by kernel_rfl) (by kernel_rfl) (fun _ _ _ h => h) (Or.inl ⟨by rfl, ?y6n7k7⟩) hHeld ?z6n7k7
            case y6n7k7 => intro w hSw; (try dsimp only at hSw); go_simp <;> rfl
            try simp only [Act.put, List.setIfInBounds_toArray, List.set_cons_zero, List.set_cons_succ]
            refine wpAnyH_take (i := 7) (oi := ⟨some 127, Op.nilCheck (Operand.tmp 126), 0, _, _, none⟩) (v := ?v7n7k8) rfl (by kernel_rfl) (by kernel_rfl) (by kernel_rfl) (fun _ _ _ h => h) (Or.inl ⟨by rfl, ?y7n7k8⟩) hHeld ?z7n7k8
            case y7n7k8 => intro w hSw; (try dsimp only at hSw); go_simp <;> rfl
            try simp only [Act.put, List.setIfInBounds_toArray, List.set_cons_zero, List.set_cons_succ]
            refine wpAnyH_take (i := 8) (oi := ⟨some 128, Op.fieldAddr 29 (Operand.tmp 127) 4, 0, _, _, none⟩) (v := ?v8n7k9) rfl (by kernel_rfl) (by kernel_rfl) (by kernel_rfl) (fun _ _ _ h => h) (Or.inl ⟨by rfl, ?y8n7k9⟩) hHeld ?z8n7k9
            case y8n7k9 => intro w hSw; (try dsimp only at hSw); go_simp <;> rfl
            try simp only [Act.put, List.setIfInBounds_toArray, List.set_cons_zero, List.set_cons_succ]
            refine wpAnyH_take (i := 9) (oi := ⟨some 129, Op.load 27 (Operand.tmp 128), 27, _, _, none⟩) (v := ?v9n7k10) rfl (by kernel_rfl) (by kernel_rfl) (by kernel_rfl) (fun _ _ _ h => h) (Or.inl ⟨by rfl, ?y9n7k10⟩) hHeld ?z9n7k10
            case y9n7k10 => intro w hSw; (try dsimp only at hSw); go_simp <;> rfl
            try simp only [Act.put, List.setIfInBounds_toArray, List.set_cons_zero, List.set_cons_succ]
            refine wpAnyH_take (i := 10) (oi := ⟨some 130, Op.fieldAddr 39 (Operand.tmp 5) 1, 0, _, _, none⟩) (v := ?v10n7k11) rfl (by kernel_rfl) (by kernel_rfl) (by kernel_rfl) (fun _ _ _ h => h) (Or.inl ⟨by rfl, ?y10n7k11⟩) hHeld ?z10n7k11
            case y10n7k11 => intro w hSw; (try dsimp only at hSw); go_simp <;> rfl
            try simp only [Act.put, List.setIfInBounds_toArray, List.set_cons_zero, List.set_cons_succ]
            refine wpAnyH_take (i := 11) (oi := ⟨some 131, Op.load 3 (Operand.tmp 130), 3, _, _, none⟩) (v := ?v11n7k12) rfl (by kernel_rfl) (by kernel_rfl) (by kernel_rfl) (fun _ _ _ h => h) (Or.inl ⟨by rfl, ?y11n7k12⟩) hHeld ?z11n7k12
            case y11n7k12 => intro w hSw; (try dsimp only at hSw); go_simp <;> rfl
            try simp only [Act.put, List.setIfInBounds_toArray, List.set_cons_zero, List.set_cons_succ]
            refine wpAnyH_take (i := 12) (oi := ⟨some 132, Op.fieldAddr 39 (Operand.tmp 5) 2, 0, _, _, none⟩) (v := ?v12n7k13) rfl (by kernel_rfl) (by kernel_rfl) (by kernel_rfl) (fun _ _ _ h => h) (Or.inl ⟨by rfl, ?y12n7k13⟩) hHeld ?z12n7k13
            case y12n7k13 => intro w hSw; (try dsimp only at hSw); go_simp <;> rfl
            try simp only [Act.put, List.setIfInBounds_toArray, List.set_cons_zero, List.set_cons_succ]
            refine wpAnyH_take (i := 13) (oi := ⟨some 133, Op.load 3 (Operand.tmp 132), 3, _, _, none⟩) (v := ?v13n7k14) rfl (by kernel_rfl) (by kernel_rfl) (by kernel_rfl) (fun _ _ _ h => h) (Or.inl ⟨by rfl, ?y13n7k14⟩) hHeld ?z13n7k14
            case y13n7k14 => intro w hSw; (try dsimp only at hSw); go_simp <;> rfl
            try simp only [Act.put, List.setIfInBounds_toArray, List.set_cons_zero, List.set_cons_succ]
            refine wpAnyH_take (i := 14) (oi := ⟨some 134, Op.load 44 (Operand.tmp 10), 44, _, _, none⟩) (v := ?v14n7k15) rfl (by kernel_rfl) (by kernel_rfl) (by kernel_rfl) (fun _ _ _ h => h) (Or.inl ⟨by rfl, ?y14n7k15⟩) hHeld ?z14n7k15
            case y14n7k15 => intro w hSw; (try dsimp only at hSw); go_simp <;> rfl
            try simp only [Act.put, List.setIfInBounds_toArray, List.set_cons_zero, List.set_cons_succ]
            refine wpAnyH_ready (rs := [15]) (by kernel_rfl) (by simp) ?_
            refine AllReadyH.cons (o := ⟨some 135, Op.mapEntry 26 (Operand.tmp 123) (Operand.tmp 125), 0, _, _, none⟩) rfl (fun K hK => ?_) AllReadyH.nil
            go_simp
            refine hK.out _ _ (SM.out _ KU1.out) (fun hHeld => ?_)
            clear hK K
            try simp only [Act.put, List.setIfInBounds_toArray, List.set_cons_zero, List.set_cons_succ]
            refine wpAnyH_take (i := 16) (oi := ⟨some 136, Op.extract (Operand.tmp 135) 1, 3, _, _, none⟩) (v := ?v16n7k16) rfl (by kernel_rfl) (by kernel_rfl) (by kernel_rfl) (fun _ _ _ h => h) (Or.inl ⟨by rfl, ?y16n7k16⟩) hHeld ?z16n7k16
            case y16n7k16 => intro w hSw; (try dsimp only at hSw); go_simp <;> rfl
            try simp only [Act.put, List.setIfInBounds_toArray, List.set_cons_zero, List.set_cons_succ]
            refine wpAnyH_ready (rs := [17]) (by kernel_rfl) (by simp) ?_
            refine AllReadyH.cons (o := ⟨none, Op.entryStore 26 (Operand.tmp 123) (Operand.tmp 136) (Operand.tmp 133), 0, _, _, none⟩) rfl (fun K hK => ?_) AllReadyH.nil
            go_simp
            refine hK.out _ _ (SM.out _ KU2.out) (fun hHeld => ?_)
            clear hK K
            try simp only [Act.put, List.setIfInBounds_toArray, List.set_cons_zero, List.set_cons_succ]
            refine wpAnyH_ready (rs := [18]) (by kernel_rfl) (by simp) ?_
            refine AllReadyH.cons (o := ⟨some 137, Op.mapEntry 27 (Operand.tmp 129) (Operand.tmp 131), 0, _, _, none⟩) rfl (fun K hK => ?_) AllReadyH.nil
            go_simp
            refine hK.out _ _ (SM.out _ KU3.out) (fun hHeld => ?_)
            clear hK K
            try simp only [Act.put, List.setIfInBounds_toArray, List.set_cons_zero, List.set_cons_succ]
            refine wpAnyH_take (i := 19) (oi := ⟨some 138, Op.extract (Operand.tmp 137) 1, 3, _, _, none⟩) (v := ?v19n7k17) rfl (by kernel_rfl) (by kernel_rfl) (by kernel_rfl) (fun _ _ _ h => h) (Or.inl ⟨by rfl, ?y19n7k17⟩) hHeld ?z19n7k17
            case y19n7k17 => intro w hSw; (try dsimp only at hSw); go_simp <;> rfl
            try simp only [Act.put, List.setIfInBounds_toArray, List.set_cons_zero, List.set_cons_succ]
            refine wpAnyH_ready (rs := [20]) (by kernel_rfl) (by simp) ?_
            refine AllReadyH.cons (o := ⟨none, Op.entryStore 27 (Operand.tmp 129) (Operand.tmp 138) (Operand.tmp 134), 0, _, _, none⟩) rfl (fun K hK => ?_) AllReadyH.nil
            go_simp
            refine hK.out _ _ (SM.out _ KU4.out) (fun hHeld => ?_)
            clear hK K
            try simp only [Act.put, List.setIfInBounds_toArray, List.set_cons_zero, List.set_cons_succ]
            refine wpAnyH_done (by kernel_rfl) ?_ _
            refine NoPanic.normal ?_
            clear hHeld SM KU1 KU2 KU3 run1 run2 run3 run4 KS2
            obtain ⟨o0, o1⟩ := re_cells HO6.out
            obtain ⟨r0, r1⟩ := rep_cells HR6.out
            have f0 : u4.frozen? ⟨w.heap.size + 1, 0, none⟩ = false := frozen_of_row _ _ _ _ _ HR6.out
            have f1 : u4.frozen? ⟨w.heap.size + 1, 1, none⟩ = false := frozen_of_row _ _ _ _ _ HR6.out
            have hbz := setR_block (x := told 0) (r := rp) HR6.out
            go_wp2
            change bodyPost _ _ _ _ _ (setR u4 (w.heap.size + 1) rp)
            generalize setR u4 (w.heap.size + 1) rp = vz at hbz OZ ⊢
            obtain ⟨z0, z1⟩ := rep_cells hbz
            refine bodyPost_ret (v := rp.val) (by simp [results, Try.results14, go_sem, RepV.val, Try.isAgg44, Try.sizeOf44, z0, z1]) rfl ?_
            rw [E4.out]
            exact ⟨rfl, OZ.out⟩
end Go.Proofs.Ytgmjnjbmolalmaa
