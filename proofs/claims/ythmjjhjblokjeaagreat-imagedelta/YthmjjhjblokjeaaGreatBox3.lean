/-
  The contract of state.do. No statement is proved here.
-/
import Derived.Test.YthmjjhjblokjeaaGreatBox2
namespace Go.Proofs.YthmjjhjblokjeaaGreat
open Go.RowKit Tot

theorem cells_del (L : Prs) (k : ByteArray) (hh : Srt.has L k = true) : PR.cells (Srt.del L k) = (PR.cells L).take (Srt.pos L k * 3) ++ (PR.cells L).drop ((Srt.pos L k + 1) * 3) := by
  unfold Srt.del PR.cells
  rw [if_pos hh, flat_append, flat_take PR.enc_len, flat_drop PR.enc_len]

theorem Did.more {F : Nat → Prop} {w w' w2 : World} {b : Nat} {s : StV} (h : Did F w w' b s) (k : Kept noBlock w' w2) : Did F w w2 b s :=
  ⟨h.kept.trans k (fun _ _ h => h.elim), (h.bx.keep k (fun _ _ h => h)).mono (fun _ hi => hi.imp id (fun h1 => ⟨h1.1, Nat.lt_of_lt_of_le h1.2 k.size⟩)) (fun i hi => hi.elim (fun h1 => Nat.lt_of_lt_of_le (h.bx.lt i (.inl h1)) k.size) (fun h1 => h1.2))⟩

set_option maxRecDepth 100000 in
set_option maxHeartbeats 1000000 in
theorem do_any (F : Nat → Prop) (b : Nat) (s : StV) (c : CmdV) (w : World) (h : Bx w F b s) (hu : Srt.Up s.pairs) (hn : s.pairs.length ≤ 1048576) :
    Calls Tryz.prog 95 #[.pointer (some ⟨b, 0, none⟩), c.val] w fun e w' =>
      e = .returned (doV s.pairs c).2.val ∧ Did F w w' b { s with pairs := (doV s.pairs c).1 } := by
  have hF := h.lt
  obtain ⟨A, cc, B, d, h⟩ := h
  have k1 := loc_kept w c
  have z1 := loc_size w c
  have hC := loc_cmd w c
  have hR := loc_rep w c
  obtain ⟨w1, hw1⟩ : ∃ w1, w1 = loc w c := ⟨_, rfl⟩
  rw [← hw1] at k1 z1 hC hR
  unfold loc RepV.cells CmdV.cells told noText at hw1
  simp only at hw1
  have h1 := h.keep k1 (fun _ _ h => h)
  obtain ⟨_, _, c2, _⟩ := h1.cells
  obtain ⟨_, _, _, e3, _, _⟩ := cmd_cells hC
  have hnc : s.pairs.length ≤ cc := by obtain ⟨_, _, e, hle⟩ := own_form h.ownp; injection e with _ _ e; omega
  have hpl := Srt.pos_le s.pairs c.key
  have FIND : Hid (∀ u, Kept noBlock w1 u → Calls Tryz.prog 77 #[.slice A s.pairs.length cc, .string c.key] u fun e w' => e = .returned (.tuple #[.int .i64 (Srt.pos s.pairs c.key : Nat), .bool (Srt.has s.pairs c.key)]) ∧ Kept noBlock u w') := fun u k =>
    PR.find_any (fun _ => True) A s.pairs.length cc s.pairs c.key u (Lies.of_rows (own_keep h1.ownp k (fun _ _ h => h)) (fun _ _ => trivial)) rfl hnc (by omega) hu
  obtain ⟨n, hnn⟩ : ∃ n, n = s.pairs.length := ⟨_, rfl⟩
  rw [← hnn] at c2 hn hpl FIND hnc
  obtain ⟨p, hp⟩ : ∃ p, p = Srt.pos s.pairs c.key := ⟨_, rfl⟩
  rw [← hp] at hpl FIND
  have OUT : Hid (∀ r s' u v, Kept noBlock w1 u → Did F u v b s' → Did F w (setR v (w.heap.size + 1) r) b s') := fun r s' u v k hd => Did.out (k1.step k) hd (setR_kept v _ r) (by omega) (by have := k.size; omega) hF
  have NR : Hid (∀ i, F i → i ≠ w.heap.size + 1) := fun i hi e => by have := hF i hi; omega
  have NC : Hid (∀ i, F i → i ≠ w.heap.size) := fun i hi e => by have := hF i hi; omega
  have HP := Lib.hid hp
  have HN := Lib.hid hnn
  have H1 := Lib.hid h1
  have HR := Lib.hid hR
  have HU := Lib.hid hu
  have HC := Lib.hid hC
  have Z1 := Lib.hid z1
  have CE : Hid (∀ u, Kept noBlock w1 u → u.cell? ⟨b, 2, none⟩ = some (.slice A n cc) ∧ u.cell? ⟨w.heap.size, 3, none⟩ = some (.string c.key)) := fun u k => ⟨k.cell c2 (fun h => h), k.cell e3 (fun h => h)⟩
  clear hp h h1 hR hu hF k1 hC hnn z1 c2 e3
  unfold CmdV.val
  go_enter Tryz.func95, Tryz.ntmps95
  go_upto_region 1 with (fail)
  rw [← hw1]
  clear hw1
  have kd := Kept.drew noBlock w1
  refine wp_region_noPanic ?_
  refine wp_region_held_drew (S := fun w' => w'.cell? ⟨b, 2, none⟩ = some (.slice A n cc) ∧ w'.cell? ⟨w.heap.size, 3, none⟩ = some (.string c.key)) (by kernel_rfl) (CE.out _ kd) (fun hHeld => ?_)
  refine wpAnyH_take (i := 0) (oi := ⟨some 9, Op.move (Operand.tmp 0), 102, _, _, none⟩) (v := ?v0n6k1) rfl (by kernel_rfl) (by kernel_rfl) (by kernel_rfl) (fun _ _ _ h => h) (Or.inl ⟨by rfl, ?y0n6k1⟩) hHeld ?z0n6k1
  case y0n6k1 => intro w hSw; (try dsimp only at hSw); go_simp <;> rfl
  try simp only [Act.put, List.setIfInBounds_toArray, List.set_cons_zero, List.set_cons_succ]
  refine wpAnyH_take (i := 1) (oi := ⟨some 10, Op.nilCheck (Operand.tmp 9), 0, _, _, none⟩) (v := ?v1n6k2) rfl (by kernel_rfl) (by kernel_rfl) (by kernel_rfl) (fun _ _ _ h => h) (Or.inl ⟨by rfl, ?y1n6k2⟩) hHeld ?z1n6k2
  case y1n6k2 => intro w hSw; (try dsimp only at hSw); go_simp <;> rfl
  try simp only [Act.put, List.setIfInBounds_toArray, List.set_cons_zero, List.set_cons_succ]
  refine wpAnyH_take (i := 2) (oi := ⟨some 11, Op.fieldAddr 27 (Operand.tmp 10) 2, 0, _, _, none⟩) (v := ?v2n6k3) rfl (by kernel_rfl) (by kernel_rfl) (by kernel_rfl) (fun _ _ _ h => h) (Or.inl ⟨by rfl, ?y2n6k3⟩) hHeld ?z2n6k3
  case y2n6k3 => intro w hSw; (try dsimp only at hSw); go_simp <;> rfl
  try simp only [Act.put, List.setIfInBounds_toArray, List.set_cons_zero, List.set_cons_succ]
  refine wpAnyH_take (i := 3) (oi := ⟨some 12, Op.load 24 (Operand.tmp 11), 24, _, _, none⟩) (v := ?v3n6k4) rfl (by kernel_rfl) (by kernel_rfl) (by kernel_rfl) (fun _ _ _ h => h) (Or.inl ⟨by rfl, ?y3n6k4⟩) hHeld ?z3n6k4
  case y3n6k4 => intro w hSw; (try dsimp only at hSw); go_simp <;> rfl
  try simp only [Act.put, List.setIfInBounds_toArray, List.set_cons_zero, List.set_cons_succ]
  refine wpAnyH_take (i := 4) (oi := ⟨some 13, Op.fieldAddr 54 (Operand.tmp 3) 3, 0, _, _, none⟩) (v := ?v4n6k5) rfl (by kernel_rfl) (by kernel_rfl) (by kernel_rfl) (fun _ _ _ h => h) (Or.inl ⟨by rfl, ?y4n6k5⟩) hHeld ?z4n6k5
  case y4n6k5 => intro w hSw; (try dsimp only at hSw); go_simp <;> rfl
  try simp only [Act.put, List.setIfInBounds_toArray, List.set_cons_zero, List.set_cons_succ]
  refine wpAnyH_take (i := 5) (oi := ⟨some 14, Op.load 9 (Operand.tmp 13), 9, _, _, none⟩) (v := ?v5n6k6) rfl (by kernel_rfl) (by kernel_rfl) (by kernel_rfl) (fun _ _ _ h => h) (Or.inl ⟨by rfl, ?y5n6k6⟩) hHeld ?z5n6k6
  case y5n6k6 => intro w hSw; (try dsimp only at hSw); go_simp <;> rfl
  try simp only [Act.put, List.setIfInBounds_toArray, List.set_cons_zero, List.set_cons_succ]
  refine wpAnyH_ready (rs := [6]) (by kernel_rfl) (by simp) ?_
  refine AllReadyH.cons (o := ⟨some 15, Op.call { callee := Callee.value (Operand.func 77), args := #[Operand.tmp 12, Operand.tmp 14], argTypes := #[24, 9] }, 106, _, _, none⟩) rfl (fun K hK => ?_) AllReadyH.nil
  go_simp
  refine (FIND.out _ kd).mono ?_
  rintro e w2 ⟨rfl, k2⟩
  dsimp only
  refine hK.out _ _ (CE.out _ (kd.step k2)) (fun hHeld => ?_)
  clear hK K
  try simp only [Act.put, List.setIfInBounds_toArray, List.set_cons_zero, List.set_cons_succ]
  refine wpAnyH_take (i := 7) (oi := ⟨some 8, Op.move (Operand.tmp 15), 106, _, _, none⟩) (v := ?v7n6k7) rfl (by kernel_rfl) (by kernel_rfl) (by kernel_rfl) (fun _ _ _ h => h) (Or.inl ⟨by rfl, ?y7n6k7⟩) hHeld ?z7n6k7
  case y7n6k7 => intro w hSw; (try dsimp only at hSw); go_simp <;> rfl
  try simp only [Act.put, List.setIfInBounds_toArray, List.set_cons_zero, List.set_cons_succ]
  refine wpAnyH_take (i := 8) (oi := ⟨some 16, Op.extract (Operand.tmp 8) 0, 3, _, _, none⟩) (v := ?v8n6k8) rfl (by kernel_rfl) (by kernel_rfl) (by kernel_rfl) (fun _ _ _ h => h) (Or.inl ⟨by rfl, ?y8n6k8⟩) hHeld ?z8n6k8
  case y8n6k8 => intro w hSw; (try dsimp only at hSw); go_simp <;> rfl
  try simp only [Act.put, List.setIfInBounds_toArray, List.set_cons_zero, List.set_cons_succ]
  refine wpAnyH_take (i := 9) (oi := ⟨some 17, Op.extract (Operand.tmp 8) 1, 4, _, _, none⟩) (v := ?v9n6k9) rfl (by kernel_rfl) (by kernel_rfl) (by kernel_rfl) (fun _ _ _ h => h) (Or.inl ⟨by rfl, ?y9n6k9⟩) hHeld ?z9n6k9
  case y9n6k9 => intro w hSw; (try dsimp only at hSw); go_simp <;> rfl
  try simp only [Act.put, List.setIfInBounds_toArray, List.set_cons_zero, List.set_cons_succ]
  refine wpAnyH_take (i := 10) (oi := ⟨some 5, Op.assign (Operand.tmp 16), 3, _, _, none⟩) (v := ?v10n6k10) rfl (by kernel_rfl) (by kernel_rfl) (by kernel_rfl) (fun _ _ _ h => h) (Or.inl ⟨by rfl, ?y10n6k10⟩) hHeld ?z10n6k10
  case y10n6k10 => intro w hSw; (try dsimp only at hSw); go_simp <;> rfl
  try simp only [Act.put, List.setIfInBounds_toArray, List.set_cons_zero, List.set_cons_succ]
  refine wpAnyH_take (i := 11) (oi := ⟨some 6, Op.assign (Operand.tmp 17), 4, _, _, none⟩) (v := ?v11n6k11) rfl (by kernel_rfl) (by kernel_rfl) (by kernel_rfl) (fun _ _ _ h => h) (Or.inl ⟨by rfl, ?y11n6k11⟩) hHeld ?z11n6k11
  case y11n6k11 => intro w hSw; (try dsimp only at hSw); go_simp <;> rfl
  try simp only [Act.put, List.setIfInBounds_toArray, List.set_cons_zero, List.set_cons_succ]
  refine wpAnyH_done (by kernel_rfl) ?_ _
  refine NoPanic.normal ?_
  have K2 := Lib.hid (kd.step k2)
  clear kd k2 hHeld FIND
  have H2 := Lib.hid (H1.out.keep K2.out (fun _ _ h => h))
  have HC2 := Lib.hid (K2.out.blk HC.out (fun h => h))
  have HR2 := Lib.hid (K2.out.blk HR.out (fun h => h))
  obtain ⟨e0, _, _, e3, e4, e5⟩ := cmd_cells HC2.out
  obtain ⟨r0, r1⟩ := rep_cells HR2.out
  have f0 : w2.frozen? ⟨w.heap.size + 1, 0, none⟩ = false := frozen_of_row _ _ _ _ _ HR2.out
  have f1 : w2.frozen? ⟨w.heap.size + 1, 1, none⟩ = false := frozen_of_row _ _ _ _ _ HR2.out
  cases hk : Srt.look s.pairs c.key with
  | none =>
    have hh : Srt.has s.pairs c.key = false := (Srt.has_false _ _).2 hk
    rw [hh]
    by_cases hop : c.op = 1
    · have e9 : doV s.pairs c = putV s.pairs c := by unfold doV putV; rw [hk]; simp [hop]
      have E0 := Lib.hid e9
      have PUT := Lib.hid (putnew_any F b s c w2 ⟨_, _, _, _, H2.out⟩ hh (by rw [← HN.out]; exact hn))
      rw [← HP.out] at PUT
      have HH := Lib.hid hh
      obtain ⟨rp, hrp⟩ : ∃ rp, rp = (putV s.pairs c).2 := ⟨_, rfl⟩
      rw [← hrp] at PUT
      unfold RepV.val CmdV.val at PUT
      rw [hop] at PUT
      have HRP := Lib.hid hrp
      clear e9 hh hk hrp
      go_wp2_with fail
      refine PUT.out.mono ?_
      rintro e w3 ⟨rfl, d3⟩
      have hR3 := d3.kept.blk HR2.out (fun hi => NR.out _ hi rfl)
      have HR3 := Lib.hid hR3
      obtain ⟨r0, r1⟩ := rep_cells hR3
      have f0 : w3.frozen? ⟨w.heap.size + 1, 0, none⟩ = false := frozen_of_row _ _ _ _ _ hR3
      have f1 : w3.frozen? ⟨w.heap.size + 1, 1, none⟩ = false := frozen_of_row _ _ _ _ _ hR3
      have D3 := Lib.hid d3
      clear hR3 d3 PUT
      have hbz := setR_block (x := told 0) (r := rp) HR3.out
      have OZ := Lib.hid (OUT.out rp _ w2 w3 K2.out D3.out)
      go_wp2
      change bodyPost _ _ _ _ _ (setR w3 (w.heap.size + 1) rp)
      generalize setR w3 (w.heap.size + 1) rp = vz at hbz OZ ⊢
      obtain ⟨z0, z1⟩ := rep_cells hbz
      refine bodyPost_ret (v := (rp).val) (by simp [results, Tryz.results95, go_sem, RepV.val, Tryz.isAgg61, Tryz.sizeOf61, z0, z1]) rfl ?_
      rw [E0.out, ← HRP.out]
      exact ⟨rfl, OZ.out⟩
    · have e9 : doV s.pairs c = (s.pairs, told 6) := by unfold doV; rw [hk]; simp [hop]
      have E0 := Lib.hid e9
      have hop' : (c.op == 1) = false := by simpa using hop
      clear e9 hh hk hop
      have hbz := setR_block (x := told 0) (r := (told 6)) HR2.out
      have OZ := Lib.hid (OUT.out (told 6) s w2 w2 K2.out (Did.refl ⟨_, _, _, _, H2.out⟩))
      go_wp2
      change bodyPost _ _ _ _ _ (setR w2 (w.heap.size + 1) (told 6))
      generalize setR w2 (w.heap.size + 1) (told 6) = vz at hbz OZ ⊢
      obtain ⟨z0, z1⟩ := rep_cells hbz
      refine bodyPost_ret (v := ((told 6)).val) (by simp [results, Tryz.results95, go_sem, RepV.val, Tryz.isAgg61, Tryz.sizeOf61, z0, z1]) rfl ?_
      rw [E0.out]
      exact ⟨rfl, OZ.out⟩
  | some v =>
    have hh : Srt.has s.pairs c.key = true := (Srt.has_iff _ _).2 ⟨_, hk⟩
    obtain ⟨v', hat, hv'⟩ := Srt.has_at HU.out hh
    rw [hk] at hv'
    injection hv' with hv'
    subst hv'
    have hlt := Srt.has_lt HU.out hh
    rw [← HP.out, ← HN.out] at hlt
    rw [← HP.out] at hat
    rw [hh]
    obtain ⟨g, cs, hA, hg⟩ := own_at H2.out.ownp (by rw [← HN.out]; omega)
    subst hA
    obtain ⟨g', o, eA, _, cv⟩ := (Lies.of_rows (F := fun _ => True) H2.out.ownp (fun _ _ => trivial)).elem PR.enc_len (by omega) hat
    injection eA with eA
    injection eA with eg eo
    subst eg eo
    have cv1 := cv 1 _ rfl
    rw [Nat.zero_add] at cv1
    simp only at cv1
    have HG := Lib.hid hg
    have HAT := Lib.hid hat
    have HK := Lib.hid hk
    have HH := Lib.hid hh
    obtain ⟨c0, c1, c2, c3⟩ := H2.out.cells
    rw [← HN.out] at c2
    clear cv hg hat hk hh
    go_upto_region 7 with (fail)
    have hO := heap_alloc_new w2 (.cells #[.int .i64 0, .string v.1] 61)
    have k3 := Kept.alloc noBlock w2 (.cells #[.int .i64 0, .string v.1] 61)
    have hz3 : w2.heap.size < (w2.alloc (.cells #[.int .i64 0, .string v.1] 61)).heap.size := by simp
    generalize w2.alloc (.cells #[.int .i64 0, .string v.1] 61) = w3 at hO k3 hz3 ⊢
    clear e0 e3 e4 e5 r0 r1 f0 f1 c0 c1 c2 c3
    have cv3 := k3.cell cv1 (fun h => h)
    clear cv1
    have H3 := Lib.hid (H2.out.keep k3 (fun _ _ h => h))
    have HC3 := Lib.hid (k3.blk HC2.out (fun h => h))
    have HR3 := Lib.hid (k3.blk HR2.out (fun h => h))
    have HG3 := Lib.hid (k3.blk HG.out (fun h => h))
    obtain ⟨e0, _, _, e3, e4, e5⟩ := cmd_cells HC3.out
    obtain ⟨r0, r1⟩ := rep_cells HR3.out
    have f0 : w3.frozen? ⟨w.heap.size + 1, 0, none⟩ = false := frozen_of_row _ _ _ _ _ HR3.out
    have f1 : w3.frozen? ⟨w.heap.size + 1, 1, none⟩ = false := frozen_of_row _ _ _ _ _ HR3.out
    obtain ⟨o0, o1⟩ := rep_cells (r := ⟨0, v.1⟩) hO
    simp only at o0 o1
    have g0 : w3.frozen? ⟨w2.heap.size, 0, none⟩ = false := frozen_of_row _ _ _ _ _ hO
    obtain ⟨c0, c1, c2, c3⟩ := H3.out.cells
    rw [← HN.out] at c2
    have K3 := Lib.hid (K2.out.step k3)
    have K2r := Lib.hid k3
    have HO := Lib.hid hO
    have RO : Hid (w.heap.size + 1 ≠ w2.heap.size) := by have := lt_of_blk HR2.out; unfold Hid; omega
    have ZO : Hid (∀ i, F i → i ≠ w2.heap.size) := fun i hi e => by have := H2.out.lt i hi; omega
    clear k3 hO hz3
    by_cases hsw : c.op = 3 ∧ v.1 ≠ c.old
    · have e9 : doV s.pairs c = (s.pairs, ⟨11, v.1⟩) := by unfold doV; rw [HK.out]; simp only; rw [if_pos hsw]
      have E0 := Lib.hid e9
      have q1 : c.op = 3 := hsw.1
      have q2 : (v.1.toList == c.old.toList) = false := beq_false_of_ne (fun e => hsw.2 ((toList_inj _ _).1 e))
      clear e9 hsw
      go_upto_region 9 with (fail)
      have hO4 := heap_setCell_same w3 w2.heap.size 0 _ 61 (.int .i64 11) HO.out
      have k4 : Kept (fun i => i = w2.heap.size) w3 (w3.setCell ⟨w2.heap.size, 0, none⟩ (.int .i64 11)) := Kept.setCell w3 (by rfl) _
      generalize w3.setCell ⟨w2.heap.size, 0, none⟩ (.int .i64 11) = w4 at hO4 k4 ⊢
      obtain ⟨o0, o1⟩ := rep_cells (r := ⟨11, v.1⟩) (show w4.heap[w2.heap.size]? = _ by rw [hO4]; rfl)
      simp only at o0 o1
      have HR4 := Lib.hid (k4.blk HR3.out RO.out)
      have dd : Did F w2 w4 b s := Did.after (K2r.out.trans k4 (fun i hi e => by omega)) (Did.refl ⟨_, _, _, _, H3.out.keep k4 (fun i hi e => ZO.out i hi e)⟩) H2.out.lt
      clear hO4 k4
      obtain ⟨r0, r1⟩ := rep_cells HR4.out
      have f0 : w4.frozen? ⟨w.heap.size + 1, 0, none⟩ = false := frozen_of_row _ _ _ _ _ HR4.out
      have f1 : w4.frozen? ⟨w.heap.size + 1, 1, none⟩ = false := frozen_of_row _ _ _ _ _ HR4.out
      have DD := Lib.hid dd
      clear dd
      have hbz := setR_block (x := told 0) (r := ⟨11, v.1⟩) HR4.out
      have OZ := Lib.hid (OUT.out ⟨11, v.1⟩ s w2 w4 K2.out DD.out)
      go_wp2
      change bodyPost _ _ _ _ _ (setR w4 (w.heap.size + 1) ⟨11, v.1⟩)
      generalize setR w4 (w.heap.size + 1) ⟨11, v.1⟩ = vz at hbz OZ ⊢
      obtain ⟨z0, z1⟩ := rep_cells hbz
      refine bodyPost_ret (v := (RepV.mk 11 v.1).val) (by simp [results, Tryz.results95, go_sem, RepV.val, Tryz.isAgg61, Tryz.sizeOf61, z0, z1]) rfl ?_
      rw [E0.out]
      exact ⟨rfl, OZ.out⟩
    · by_cases hdel : c.op = 2
      · have e9 : doV s.pairs c = (Srt.del s.pairs c.key, ⟨0, v.1⟩) := by unfold doV; rw [HK.out]; simp only; rw [if_neg hsw, if_pos hdel]
        have E0 := Lib.hid e9
        have DEL : Hid (Calls Tryz.prog 109 #[.slice (some ⟨g, 0, none⟩) n cc, .int .i64 (p : Int), .int .i64 ((p : Int) + 1)] w3 fun e w' => e = .returned (.slice (some ⟨g, 0, none⟩) (n - 1) cc) ∧
            w'.cell? ⟨b, 2, none⟩ = some (.slice (some ⟨g, 0, none⟩) n cc) ∧ w'.frozen? ⟨b, 2, none⟩ = false ∧ Did F w3 (w'.setCell ⟨b, 2, none⟩ (.slice (some ⟨g, 0, none⟩) (n - 1) cc)) b { s with pairs := Srt.del s.pairs c.key }) := by
          have ho := H3.out.ownp
          rw [← HN.out] at ho
          refine (PR.del_any (some ⟨g, 0, none⟩) n cc p (PR.cells s.pairs) w3 ho (PR.cells_one _) hlt (by omega)).mono ?_
          rintro e w' ⟨rfl, o, k⟩
          have hdl : (Srt.del s.pairs c.key).length = n - 1 := by rw [Srt.del_len HU.out, if_pos HH.out, ← HN.out]
          rw [HP.out, ← cells_del _ _ HH.out, ← hdl] at o
          have gr : Grew w3 w' (.slice (some ⟨g, 0, none⟩) s.pairs.length cc) (.slice (some ⟨g, 0, none⟩) (Srt.del s.pairs c.key).length cc) := ⟨by rw [← HN.out]; exact k, fun i hi => .inl hi⟩
          obtain ⟨y1, y2, y3⟩ := H3.out.pairs o gr
          rw [hdl] at y3
          rw [← HN.out] at y1
          exact ⟨rfl, y1, y2, y3⟩
        clear e9 hsw
        go_wp2_with fail
        refine DEL.out.mono ?_
        rintro e w4 ⟨rfl, y2, yf, d4⟩
        clear DEL
        go_upto_region 13 with (fail)
        clear y2 yf
        generalize w4.setCell ⟨b, 2, none⟩ (.slice (some ⟨g, 0, none⟩) (n - 1) cc) = w5 at d4 ⊢
        have hO5 := d4.kept.blk HO.out (fun hi => ZO.out _ hi rfl)
        obtain ⟨o0, o1⟩ := rep_cells (r := ⟨0, v.1⟩) hO5
        simp only at o0 o1
        have HR5 := Lib.hid (d4.kept.blk HR3.out (fun hi => NR.out _ hi rfl))
        have D5 := Lib.hid (Did.after K2r.out d4 H2.out.lt)
        clear hO5 d4
        obtain ⟨r0, r1⟩ := rep_cells HR5.out
        have f0 : w5.frozen? ⟨w.heap.size + 1, 0, none⟩ = false := frozen_of_row _ _ _ _ _ HR5.out
        have f1 : w5.frozen? ⟨w.heap.size + 1, 1, none⟩ = false := frozen_of_row _ _ _ _ _ HR5.out
        have hbz := setR_block (x := told 0) (r := ⟨0, v.1⟩) HR5.out
        have OZ := Lib.hid (OUT.out ⟨0, v.1⟩ _ w2 w5 K2.out D5.out)
        go_wp2
        change bodyPost _ _ _ _ _ (setR w5 (w.heap.size + 1) ⟨0, v.1⟩)
        generalize setR w5 (w.heap.size + 1) ⟨0, v.1⟩ = vz at hbz OZ ⊢
        obtain ⟨z0, z1⟩ := rep_cells hbz
        refine bodyPost_ret (v := (RepV.mk 0 v.1).val) (by simp [results, Tryz.results95, go_sem, RepV.val, Tryz.isAgg61, Tryz.sizeOf61, z0, z1]) rfl ?_
        rw [E0.out]
        exact ⟨rfl, OZ.out⟩
      · have e9 : doV s.pairs c = (Srt.put s.pairs c.key (c.value, v.2), ⟨0, v.1⟩) := by unfold doV; rw [HK.out]; simp only; rw [if_neg hsw, if_neg hdel]
        have E0 := Lib.hid e9
        have d4 := (H3.out.value HAT.out c.value).more (Kept.drew noBlock _)
        have hput : s.pairs.set p (c.key, (c.value, v.2)) = Srt.put s.pairs c.key (c.value, v.2) := by unfold Srt.put; rw [if_pos HH.out, HP.out]
        simp only at d4
        rw [hput] at d4
        have hf3 : w3.frozen? ⟨g, p * 3 + 1, none⟩ = false := frozen_of_row _ _ _ _ _ HG3.out
        have q2 : (c.op == 2) = false := by simpa using hdel
        clear e9 hput hdel
        by_cases q3 : c.op = 3
        · have q4 : (v.1.toList == c.old.toList) = true := by
            by_cases q5 : v.1 = c.old
            · rw [q5]; simp
            · exact absurd ⟨q3, q5⟩ hsw
          clear hsw
          go_upto_region 12 with (fail)
          refine wp_region_noPanic ?_
          refine wp_region_any_drew (by kernel_rfl) ?_
          refine wpAny_tail (S := fun w' => w'.cell? ⟨b, 2, none⟩ = some (.slice (some ⟨g, 0, none⟩) n cc) ∧ w'.cell? ⟨w.heap.size, 4, none⟩ = some (.string c.value)) 7 7 ⟨c2, e4⟩ (fun hHeld => ?_)
          refine wpAnyT_take (i := 0) (oi := ⟨some 67, Op.move (Operand.tmp 0), 102, _, _, none⟩) (v := ?v0n7k1) rfl (by kernel_rfl) (by kernel_rfl) (by kernel_rfl) (fun _ _ _ h => h) (Or.inl ⟨by rfl, ?y0n7k1⟩) hHeld ?z0n7k1
          case y0n7k1 => intro w hSw; (try dsimp only at hSw); go_simp <;> rfl
          try simp only [Act.put, List.setIfInBounds_toArray, List.set_cons_zero, List.set_cons_succ]
          refine wpAnyT_take (i := 1) (oi := ⟨some 68, Op.nilCheck (Operand.tmp 67), 0, _, _, none⟩) (v := ?v1n7k2) rfl (by kernel_rfl) (by kernel_rfl) (by kernel_rfl) (fun _ _ _ h => h) (Or.inl ⟨by rfl, ?y1n7k2⟩) hHeld ?z1n7k2
          case y1n7k2 => intro w hSw; (try dsimp only at hSw); go_simp <;> rfl
          try simp only [Act.put, List.setIfInBounds_toArray, List.set_cons_zero, List.set_cons_succ]
          refine wpAnyT_take (i := 2) (oi := ⟨some 69, Op.fieldAddr 27 (Operand.tmp 68) 2, 0, _, _, none⟩) (v := ?v2n7k3) rfl (by kernel_rfl) (by kernel_rfl) (by kernel_rfl) (fun _ _ _ h => h) (Or.inl ⟨by rfl, ?y2n7k3⟩) hHeld ?z2n7k3
          case y2n7k3 => intro w hSw; (try dsimp only at hSw); go_simp <;> rfl
          try simp only [Act.put, List.setIfInBounds_toArray, List.set_cons_zero, List.set_cons_succ]
          refine wpAnyT_take (i := 3) (oi := ⟨some 70, Op.load 24 (Operand.tmp 69), 24, _, _, none⟩) (v := ?v3n7k4) rfl (by kernel_rfl) (by kernel_rfl) (by kernel_rfl) (fun _ _ _ h => h) (Or.inl ⟨by rfl, ?y3n7k4⟩) hHeld ?z3n7k4
          case y3n7k4 => intro w hSw; (try dsimp only at hSw); go_simp <;> rfl
          try simp only [Act.put, List.setIfInBounds_toArray, List.set_cons_zero, List.set_cons_succ]
          refine wpAnyT_take (i := 4) (oi := ⟨some 71, Op.move (Operand.tmp 5), 3, _, _, none⟩) (v := ?v4n7k5) rfl (by kernel_rfl) (by kernel_rfl) (by kernel_rfl) (fun _ _ _ h => h) (Or.inl ⟨by rfl, ?y4n7k5⟩) hHeld ?z4n7k5
          case y4n7k5 => intro w hSw; (try dsimp only at hSw); go_simp <;> rfl
          try simp only [Act.put, List.setIfInBounds_toArray, List.set_cons_zero, List.set_cons_succ]
          refine wpAnyT_take (i := 5) (oi := ⟨some 72, Op.fieldAddr 54 (Operand.tmp 3) 4, 0, _, _, none⟩) (v := ?v5n7k6) rfl (by kernel_rfl) (by kernel_rfl) (by kernel_rfl) (fun _ _ _ h => h) (Or.inl ⟨by rfl, ?y5n7k6⟩) hHeld ?z5n7k6
          case y5n7k6 => intro w hSw; (try dsimp only at hSw); go_simp <;> rfl
          try simp only [Act.put, List.setIfInBounds_toArray, List.set_cons_zero, List.set_cons_succ]
          refine wpAnyT_take (i := 6) (oi := ⟨some 73, Op.load 9 (Operand.tmp 72), 9, _, _, none⟩) (v := ?v6n7k7) rfl (by kernel_rfl) (by kernel_rfl) (by kernel_rfl) (fun _ _ _ h => h) (Or.inl ⟨by rfl, ?y6n7k7⟩) hHeld ?z6n7k7
          case y6n7k7 => intro w hSw; (try dsimp only at hSw); go_simp <;> rfl
          try simp only [Act.put, List.setIfInBounds_toArray, List.set_cons_zero, List.set_cons_succ]
          refine wpAnyT_done (by kernel_rfl) ?_
          simp only [List.drop_succ_cons, List.drop_zero]
          clear hHeld
          go_wp2
          refine NoPanic.normal ?_
          clear hf3
          generalize (w3.setCell ⟨g, p * 3 + 1, none⟩ (.string c.value)).drew = w5 at d4 ⊢
          have hO5 := d4.kept.blk HO.out (fun hi => ZO.out _ hi rfl)
          obtain ⟨o0, o1⟩ := rep_cells (r := ⟨0, v.1⟩) hO5
          simp only at o0 o1
          have HR5 := Lib.hid (d4.kept.blk HR3.out (fun hi => NR.out _ hi rfl))
          have D5 := Lib.hid (Did.after K2r.out d4 H2.out.lt)
          clear hO5 d4
          obtain ⟨r0, r1⟩ := rep_cells HR5.out
          have f0 : w5.frozen? ⟨w.heap.size + 1, 0, none⟩ = false := frozen_of_row _ _ _ _ _ HR5.out
          have f1 : w5.frozen? ⟨w.heap.size + 1, 1, none⟩ = false := frozen_of_row _ _ _ _ _ HR5.out
          have hbz := setR_block (x := told 0) (r := ⟨0, v.1⟩) HR5.out
          have OZ := Lib.hid (OUT.out ⟨0, v.1⟩ _ w2 w5 K2.out D5.out)
          go_wp2
          change bodyPost _ _ _ _ _ (setR w5 (w.heap.size + 1) ⟨0, v.1⟩)
          generalize setR w5 (w.heap.size + 1) ⟨0, v.1⟩ = vz at hbz OZ ⊢
          obtain ⟨z0, z1⟩ := rep_cells hbz
          refine bodyPost_ret (v := (RepV.mk 0 v.1).val) (by simp [results, Tryz.results95, go_sem, RepV.val, Tryz.isAgg61, Tryz.sizeOf61, z0, z1]) rfl ?_
          rw [E0.out]
          exact ⟨rfl, OZ.out⟩
        · have q4 : (c.op == 3) = false := by simpa using q3
          clear hsw q3
          go_upto_region 12 with (fail)
          refine wp_region_noPanic ?_
          refine wp_region_any_drew (by kernel_rfl) ?_
          refine wpAny_tail (S := fun w' => w'.cell? ⟨b, 2, none⟩ = some (.slice (some ⟨g, 0, none⟩) n cc) ∧ w'.cell? ⟨w.heap.size, 4, none⟩ = some (.string c.value)) 7 7 ⟨c2, e4⟩ (fun hHeld => ?_)
          refine wpAnyT_take (i := 0) (oi := ⟨some 67, Op.move (Operand.tmp 0), 102, _, _, none⟩) (v := ?v0n8k1) rfl (by kernel_rfl) (by kernel_rfl) (by kernel_rfl) (fun _ _ _ h => h) (Or.inl ⟨by rfl, ?y0n8k1⟩) hHeld ?z0n8k1
          case y0n8k1 => intro w hSw; (try dsimp only at hSw); go_simp <;> rfl
          try simp only [Act.put, List.setIfInBounds_toArray, List.set_cons_zero, List.set_cons_succ]
          refine wpAnyT_take (i := 1) (oi := ⟨some 68, Op.nilCheck (Operand.tmp 67), 0, _, _, none⟩) (v := ?v1n8k2) rfl (by kernel_rfl) (by kernel_rfl) (by kernel_rfl) (fun _ _ _ h => h) (Or.inl ⟨by rfl, ?y1n8k2⟩) hHeld ?z1n8k2
          case y1n8k2 => intro w hSw; (try dsimp only at hSw); go_simp <;> rfl
          try simp only [Act.put, List.setIfInBounds_toArray, List.set_cons_zero, List.set_cons_succ]
          refine wpAnyT_take (i := 2) (oi := ⟨some 69, Op.fieldAddr 27 (Operand.tmp 68) 2, 0, _, _, none⟩) (v := ?v2n8k3) rfl (by kernel_rfl) (by kernel_rfl) (by kernel_rfl) (fun _ _ _ h => h) (Or.inl ⟨by rfl, ?y2n8k3⟩) hHeld ?z2n8k3
          case y2n8k3 => intro w hSw; (try dsimp only at hSw); go_simp <;> rfl
          try simp only [Act.put, List.setIfInBounds_toArray, List.set_cons_zero, List.set_cons_succ]
          refine wpAnyT_take (i := 3) (oi := ⟨some 70, Op.load 24 (Operand.tmp 69), 24, _, _, none⟩) (v := ?v3n8k4) rfl (by kernel_rfl) (by kernel_rfl) (by kernel_rfl) (fun _ _ _ h => h) (Or.inl ⟨by rfl, ?y3n8k4⟩) hHeld ?z3n8k4
          case y3n8k4 => intro w hSw; (try dsimp only at hSw); go_simp <;> rfl
          try simp only [Act.put, List.setIfInBounds_toArray, List.set_cons_zero, List.set_cons_succ]
          refine wpAnyT_take (i := 4) (oi := ⟨some 71, Op.move (Operand.tmp 5), 3, _, _, none⟩) (v := ?v4n8k5) rfl (by kernel_rfl) (by kernel_rfl) (by kernel_rfl) (fun _ _ _ h => h) (Or.inl ⟨by rfl, ?y4n8k5⟩) hHeld ?z4n8k5
          case y4n8k5 => intro w hSw; (try dsimp only at hSw); go_simp <;> rfl
          try simp only [Act.put, List.setIfInBounds_toArray, List.set_cons_zero, List.set_cons_succ]
          refine wpAnyT_take (i := 5) (oi := ⟨some 72, Op.fieldAddr 54 (Operand.tmp 3) 4, 0, _, _, none⟩) (v := ?v5n8k6) rfl (by kernel_rfl) (by kernel_rfl) (by kernel_rfl) (fun _ _ _ h => h) (Or.inl ⟨by rfl, ?y5n8k6⟩) hHeld ?z5n8k6
          case y5n8k6 => intro w hSw; (try dsimp only at hSw); go_simp <;> rfl
          try simp only [Act.put, List.setIfInBounds_toArray, List.set_cons_zero, List.set_cons_succ]
          refine wpAnyT_take (i := 6) (oi := ⟨some 73, Op.load 9 (Operand.tmp 72), 9, _, _, none⟩) (v := ?v6n8k7) rfl (by kernel_rfl) (by kernel_rfl) (by kernel_rfl) (fun _ _ _ h => h) (Or.inl ⟨by rfl, ?y6n8k7⟩) hHeld ?z6n8k7
          case y6n8k7 => intro w hSw; (try dsimp only at hSw); go_simp <;> rfl
          try simp only [Act.put, List.setIfInBounds_toArray, List.set_cons_zero, List.set_cons_succ]
          refine wpAnyT_done (by kernel_rfl) ?_
          simp only [List.drop_succ_cons, List.drop_zero]
          clear hHeld
          go_wp2
          refine NoPanic.normal ?_
          clear hf3
          generalize (w3.setCell ⟨g, p * 3 + 1, none⟩ (.string c.value)).drew = w5 at d4 ⊢
          have hO5 := d4.kept.blk HO.out (fun hi => ZO.out _ hi rfl)
          obtain ⟨o0, o1⟩ := rep_cells (r := ⟨0, v.1⟩) hO5
          simp only at o0 o1
          have HR5 := Lib.hid (d4.kept.blk HR3.out (fun hi => NR.out _ hi rfl))
          have D5 := Lib.hid (Did.after K2r.out d4 H2.out.lt)
          clear hO5 d4
          obtain ⟨r0, r1⟩ := rep_cells HR5.out
          have f0 : w5.frozen? ⟨w.heap.size + 1, 0, none⟩ = false := frozen_of_row _ _ _ _ _ HR5.out
          have f1 : w5.frozen? ⟨w.heap.size + 1, 1, none⟩ = false := frozen_of_row _ _ _ _ _ HR5.out
          have hbz := setR_block (x := told 0) (r := ⟨0, v.1⟩) HR5.out
          have OZ := Lib.hid (OUT.out ⟨0, v.1⟩ _ w2 w5 K2.out D5.out)
          go_wp2
          change bodyPost _ _ _ _ _ (setR w5 (w.heap.size + 1) ⟨0, v.1⟩)
          generalize setR w5 (w.heap.size + 1) ⟨0, v.1⟩ = vz at hbz OZ ⊢
          obtain ⟨z0, z1⟩ := rep_cells hbz
          refine bodyPost_ret (v := (RepV.mk 0 v.1).val) (by simp [results, Tryz.results95, go_sem, RepV.val, Tryz.isAgg61, Tryz.sizeOf61, z0, z1]) rfl ?_
          rw [E0.out]
          exact ⟨rfl, OZ.out⟩
end Go.Proofs.YthmjjhjblokjeaaGreat
