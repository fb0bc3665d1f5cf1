/-
  The contract of state.once. No statement is proved here.
-/
import Derived.Test.YthmjjhjblokjeaaGreatBox3
namespace Go.Proofs.YthmjjhjblokjeaaGreat
open Go.RowKit Tot

/-- A session that says nothing. -/
def noSess : Int × (Int × RepV) := (0, (0, told 0))
theorem cells_insS (L : Sns) (p : Nat) (x : Int × (Int × RepV)) : SN.cells (L.take p ++ x :: L.drop p) = (SN.cells L).take (p * 4) ++ (SN.enc x ++ (SN.cells L).drop (p * 4)) := by
  unfold SN.cells
  rw [flat_append, flat_cons, flat_take SN.enc_len, flat_drop SN.enc_len]

set_option maxRecDepth 100000 in
set_option maxHeartbeats 1000000 in
theorem once_any (F : Nat → Prop) (b : Nat) (s : StV) (c : CmdV) (w : World) (h : Bx w F b s) (hu : Srt.Up s.pairs) (hn : s.pairs.length ≤ 1048576) (hus : Srt.Up s.sess) (hm : s.sess.length ≤ 1048576) :
    Calls Tryz.prog 73 #[.pointer (some ⟨b, 0, none⟩), c.val] w fun e w' => e = .returned (onceV s c).2.val ∧ Did F w w' b (onceV s c).1 := by
  have hF := h.lt
  obtain ⟨A, cc, B, d, h⟩ := h
  have k1 := loc_kept w c
  have z1 := loc_size w c
  have hC := loc_cmd w c
  have hR := loc_rep w c
  obtain ⟨w1, hw1⟩ : ∃ w1, w1 = loc w c := ⟨_, rfl⟩
  rw [← hw1] at k1 z1 hC hR
  unfold loc RepV.cells CmdV.cells told noText at hw1
  simp only at hw1
  have h1 := h.keep k1 (fun _ _ h => h)
  obtain ⟨_, _, _, c3⟩ := h1.cells
  obtain ⟨_, e1, _, _, _, _⟩ := cmd_cells hC
  have hnc : s.sess.length ≤ d := by obtain ⟨_, _, e, hle⟩ := own_form h.owns; injection e with _ _ e; omega
  have hpl := Srt.pos_le s.sess c.client
  have FIND : Hid (∀ u, Kept noBlock w1 u → Calls Tryz.prog 93 #[.slice B s.sess.length d, .int .i64 c.client] u fun e w' => e = .returned (.tuple #[.int .i64 (Srt.pos s.sess c.client : Nat), .bool (Srt.has s.sess c.client)]) ∧ Kept noBlock u w') := fun u k =>
    SN.find_any (fun _ => True) B s.sess.length d s.sess c.client u (Lies.of_rows (own_keep h1.owns k (fun _ _ h => h)) (fun _ _ => trivial)) rfl hnc (by omega) hus
  obtain ⟨n, hnn⟩ : ∃ n, n = s.sess.length := ⟨_, rfl⟩
  rw [← hnn] at c3 hm hpl FIND hnc
  obtain ⟨p, hp⟩ : ∃ p, p = Srt.pos s.sess c.client := ⟨_, rfl⟩
  rw [← hp] at hpl FIND
  have OUT : Hid (∀ r s' u v, Kept noBlock w1 u → Did F u v b s' → Did F w (setR v (w.heap.size + 1) r) b s') := fun r s' u v k hd => Did.out (k1.step k) hd (setR_kept v _ r) (by omega) (by have := k.size; omega) hF
  have NR : Hid (∀ i, F i → i ≠ w.heap.size + 1) := fun i hi e => by have := hF i hi; omega
  have NC : Hid (∀ i, F i → i ≠ w.heap.size) := fun i hi e => by have := hF i hi; omega
  have HP := Lib.hid hp
  have HN := Lib.hid hnn
  have H1 := Lib.hid h1
  have HR := Lib.hid hR
  have HU := Lib.hid hu
  have HUS := Lib.hid hus
  have HNP := Lib.hid hn
  have HC := Lib.hid hC
  have Z1 := Lib.hid z1
  have CE : Hid (∀ u, Kept noBlock w1 u → u.cell? ⟨b, 3, none⟩ = some (.slice B n d) ∧ u.cell? ⟨w.heap.size, 1, none⟩ = some (.int .i64 c.client)) := fun u k => ⟨k.cell c3 (fun h => h), k.cell e1 (fun h => h)⟩
  clear hp h h1 hR hu hus hn hF k1 hC hnn z1 c3 e1
  unfold CmdV.val
  go_enter Tryz.func73, Tryz.ntmps73
  go_upto_region 1 with (fail)
  rw [← hw1]
  clear hw1
  have kd := Kept.drew noBlock w1
  refine wp_region_noPanic ?_
  refine wp_region_held_drew (S := fun w' => w'.cell? ⟨b, 3, none⟩ = some (.slice B n d) ∧ w'.cell? ⟨w.heap.size, 1, none⟩ = some (.int .i64 c.client)) (by kernel_rfl) (CE.out _ kd) (fun hHeld => ?_)
  refine wpAnyH_take (i := 0) (oi := ⟨some 9, Op.move (Operand.tmp 0), 102, _, _, none⟩) (v := ?v0n9k1) rfl (by kernel_rfl) (by kernel_rfl) (by kernel_rfl) (fun _ _ _ h => h) (Or.inl ⟨by rfl, ?y0n9k1⟩) hHeld ?z0n9k1
  case y0n9k1 => intro w hSw; (try dsimp only at hSw); go_simp <;> rfl
  try simp only [Act.put, List.setIfInBounds_toArray, List.set_cons_zero, List.set_cons_succ]
  refine wpAnyH_take (i := 1) (oi := ⟨some 10, Op.nilCheck (Operand.tmp 9), 0, _, _, none⟩) (v := ?v1n9k2) rfl (by kernel_rfl) (by kernel_rfl) (by kernel_rfl) (fun _ _ _ h => h) (Or.inl ⟨by rfl, ?y1n9k2⟩) hHeld ?z1n9k2
  case y1n9k2 => intro w hSw; (try dsimp only at hSw); go_simp <;> rfl
  try simp only [Act.put, List.setIfInBounds_toArray, List.set_cons_zero, List.set_cons_succ]
  refine wpAnyH_take (i := 2) (oi := ⟨some 11, Op.fieldAddr 27 (Operand.tmp 10) 3, 0, _, _, none⟩) (v := ?v2n9k3) rfl (by kernel_rfl) (by kernel_rfl) (by kernel_rfl) (fun _ _ _ h => h) (Or.inl ⟨by rfl, ?y2n9k3⟩) hHeld ?z2n9k3
  case y2n9k3 => intro w hSw; (try dsimp only at hSw); go_simp <;> rfl
  try simp only [Act.put, List.setIfInBounds_toArray, List.set_cons_zero, List.set_cons_succ]
  refine wpAnyH_take (i := 3) (oi := ⟨some 12, Op.load 25 (Operand.tmp 11), 25, _, _, none⟩) (v := ?v3n9k4) rfl (by kernel_rfl) (by kernel_rfl) (by kernel_rfl) (fun _ _ _ h => h) (Or.inl ⟨by rfl, ?y3n9k4⟩) hHeld ?z3n9k4
  case y3n9k4 => intro w hSw; (try dsimp only at hSw); go_simp <;> rfl
  try simp only [Act.put, List.setIfInBounds_toArray, List.set_cons_zero, List.set_cons_succ]
  refine wpAnyH_take (i := 4) (oi := ⟨some 13, Op.fieldAddr 54 (Operand.tmp 3) 1, 0, _, _, none⟩) (v := ?v4n9k5) rfl (by kernel_rfl) (by kernel_rfl) (by kernel_rfl) (fun _ _ _ h => h) (Or.inl ⟨by rfl, ?y4n9k5⟩) hHeld ?z4n9k5
  case y4n9k5 => intro w hSw; (try dsimp only at hSw); go_simp <;> rfl
  try simp only [Act.put, List.setIfInBounds_toArray, List.set_cons_zero, List.set_cons_succ]
  refine wpAnyH_take (i := 5) (oi := ⟨some 14, Op.load 3 (Operand.tmp 13), 3, _, _, none⟩) (v := ?v5n9k6) rfl (by kernel_rfl) (by kernel_rfl) (by kernel_rfl) (fun _ _ _ h => h) (Or.inl ⟨by rfl, ?y5n9k6⟩) hHeld ?z5n9k6
  case y5n9k6 => intro w hSw; (try dsimp only at hSw); go_simp <;> rfl
  try simp only [Act.put, List.setIfInBounds_toArray, List.set_cons_zero, List.set_cons_succ]
  refine wpAnyH_ready (rs := [6]) (by kernel_rfl) (by simp) ?_
  refine AllReadyH.cons (o := ⟨some 15, Op.call { callee := Callee.value (Operand.func 93), args := #[Operand.tmp 12, Operand.tmp 14], argTypes := #[25, 3] }, 106, _, _, none⟩) rfl (fun K hK => ?_) AllReadyH.nil
  go_simp
  refine (FIND.out _ kd).mono ?_
  rintro e w2 ⟨rfl, k2⟩
  dsimp only
  refine hK.out _ _ (CE.out _ (kd.step k2)) (fun hHeld => ?_)
  clear hK K
  try simp only [Act.put, List.setIfInBounds_toArray, List.set_cons_zero, List.set_cons_succ]
  refine wpAnyH_take (i := 7) (oi := ⟨some 8, Op.move (Operand.tmp 15), 106, _, _, none⟩) (v := ?v7n9k7) rfl (by kernel_rfl) (by kernel_rfl) (by kernel_rfl) (fun _ _ _ h => h) (Or.inl ⟨by rfl, ?y7n9k7⟩) hHeld ?z7n9k7
  case y7n9k7 => intro w hSw; (try dsimp only at hSw); go_simp <;> rfl
  try simp only [Act.put, List.setIfInBounds_toArray, List.set_cons_zero, List.set_cons_succ]
  refine wpAnyH_take (i := 8) (oi := ⟨some 16, Op.extract (Operand.tmp 8) 0, 3, _, _, none⟩) (v := ?v8n9k8) rfl (by kernel_rfl) (by kernel_rfl) (by kernel_rfl) (fun _ _ _ h => h) (Or.inl ⟨by rfl, ?y8n9k8⟩) hHeld ?z8n9k8
  case y8n9k8 => intro w hSw; (try dsimp only at hSw); go_simp <;> rfl
  try simp only [Act.put, List.setIfInBounds_toArray, List.set_cons_zero, List.set_cons_succ]
  refine wpAnyH_take (i := 9) (oi := ⟨some 17, Op.extract (Operand.tmp 8) 1, 4, _, _, none⟩) (v := ?v9n9k9) rfl (by kernel_rfl) (by kernel_rfl) (by kernel_rfl) (fun _ _ _ h => h) (Or.inl ⟨by rfl, ?y9n9k9⟩) hHeld ?z9n9k9
  case y9n9k9 => intro w hSw; (try dsimp only at hSw); go_simp <;> rfl
  try simp only [Act.put, List.setIfInBounds_toArray, List.set_cons_zero, List.set_cons_succ]
  refine wpAnyH_take (i := 10) (oi := ⟨some 5, Op.assign (Operand.tmp 16), 3, _, _, none⟩) (v := ?v10n9k10) rfl (by kernel_rfl) (by kernel_rfl) (by kernel_rfl) (fun _ _ _ h => h) (Or.inl ⟨by rfl, ?y10n9k10⟩) hHeld ?z10n9k10
  case y10n9k10 => intro w hSw; (try dsimp only at hSw); go_simp <;> rfl
  try simp only [Act.put, List.setIfInBounds_toArray, List.set_cons_zero, List.set_cons_succ]
  refine wpAnyH_take (i := 11) (oi := ⟨some 6, Op.assign (Operand.tmp 17), 4, _, _, none⟩) (v := ?v11n9k11) rfl (by kernel_rfl) (by kernel_rfl) (by kernel_rfl) (fun _ _ _ h => h) (Or.inl ⟨by rfl, ?y11n9k11⟩) hHeld ?z11n9k11
  case y11n9k11 => intro w hSw; (try dsimp only at hSw); go_simp <;> rfl
  try simp only [Act.put, List.setIfInBounds_toArray, List.set_cons_zero, List.set_cons_succ]
  refine wpAnyH_done (by kernel_rfl) ?_ _
  refine NoPanic.normal ?_
  have K2 := Lib.hid (kd.step k2)
  clear kd k2 hHeld FIND
  have H2 := Lib.hid (H1.out.keep K2.out (fun _ _ h => h))
  have HC2 := Lib.hid (K2.out.blk HC.out (fun h => h))
  have HR2 := Lib.hid (K2.out.blk HR.out (fun h => h))
  obtain ⟨e0, e1, e2, e3, e4, e5⟩ := cmd_cells HC2.out
  obtain ⟨c0, c1, c2, c3⟩ := H2.out.cells
  rw [← HN.out] at c3
  obtain ⟨out, hout⟩ : ∃ out, out = (doV s.pairs c).2 := ⟨_, rfl⟩
  have HOUT := Lib.hid hout
  clear hout
  cases hk : Srt.look s.sess c.client with
  | none =>
    have hh : Srt.has s.sess c.client = false := (Srt.has_false _ _).2 hk
    rw [hh]
    have E0 : Hid (onceV s c = actV s c) := by unfold Hid onceV; rw [hk]
    have XS : Hid ((s.sess.take p ++ noSess :: s.sess.drop p).set p (c.client, (c.seq, out)) = Srt.put s.sess c.client (c.seq, out)) := by
      unfold Hid Srt.put
      rw [if_neg (by rw [hh]; simp), ← HP.out, List.set_append_right _ _ (by rw [List.length_take]; omega), List.length_take, Nat.min_eq_left (by rw [← HN.out]; exact hpl), Nat.sub_self, List.set_cons_zero]
    obtain ⟨X, hX⟩ : ∃ X, X = s.sess.take p ++ noSess :: s.sess.drop p := ⟨_, rfl⟩
    have hXl : X.length = n + 1 := by rw [hX, List.length_append, List.length_cons, List.length_take, List.length_drop, ← HN.out]; omega
    have INS : Hid (∀ w0, Hid (BxR w0 F b s A cc B d) → ∀ u Bk, Kept noBlock w0 u → u.heap[Bk]? = some (.cells #[.int .i64 0, .int .i64 0, .int .i64 0, .string ⟨#[]⟩] 63 (0, 0)) → w0.heap.size ≤ Bk → Calls Tryz.prog 94 #[.slice B n d, .int .i64 (p : Int), .slice (some ⟨Bk, 0, none⟩) 1 1] u fun e w' => ∃ A' c', e = .returned (.slice A' (n + 1) c') ∧
        w'.cell? ⟨b, 3, none⟩ = some (.slice B n d) ∧ w'.frozen? ⟨b, 3, none⟩ = false ∧ Did F w0 (w'.setCell ⟨b, 3, none⟩ (.slice A' (n + 1) c')) b { s with sess := X }) := Lib.hid (by
      intro w0 HW u Bk k hB hlt
      have hx := HW.out.keep k (fun _ _ h => h)
      have ho := hx.owns
      rw [← HN.out] at ho
      refine (SN.ins_any B n d p Bk (SN.cells s.sess) noSess _ ho (SN.cells_one _) hpl (by omega) hB (fun e => ?_)).mono ?_
      · have := own_lt HW.out.owns _ (by rw [← HN.out]; exact e)
        omega
      · rintro e w' ⟨A', c', rfl, o, g⟩
        rw [← cells_insS, ← hX, ← hXl] at o
        have g2 : Grew w0 w' (.slice B s.sess.length d) (.slice A' X.length c') := by rw [hXl, ← HN.out]; exact Grew.after k g
        obtain ⟨q1, q2, q3⟩ := HW.out.sesss o g2
        rw [hXl] at q3
        rw [← HN.out] at q1
        exact ⟨A', c', rfl, q1, q2, q3⟩)
    rw [← hX] at XS
    have hpX : p < X.length := by omega
    have HPX := Lib.hid hpX
    clear hX hXl hh hk hpX
    go_upto_region 2 with (fail)
    go_quiet (fail)
    have kq := Kept.drewN noBlock w2 nq
    generalize w2.drewN nq = w7 at kq ⊢
    clear e0 e1 e2 e3 e4 e5 c0 c1 c2 c3
    have K7 := Lib.hid (K2.out.step kq)
    have H7 := Lib.hid (H2.out.keep kq (fun _ _ h => h))
    have HC7 := Lib.hid (kq.blk HC2.out (fun h => h))
    have HR7 := Lib.hid (kq.blk HR2.out (fun h => h))
    obtain ⟨e0, e1, e2, e3, e4, e5⟩ := cmd_cells HC7.out
    obtain ⟨c0, c1, c2, c3⟩ := H7.out.cells
    rw [← HN.out] at c3
    clear kq
    go_upto_region 4 with (fail)
    go_quiet (fail)
    have kq := Kept.drewN noBlock w7 nq
    generalize w7.drewN nq = w8 at kq ⊢
    clear e0 e1 e2 e3 e4 e5 c0 c1 c2 c3
    have K8 := Lib.hid (K7.out.step kq)
    have H8 := Lib.hid (H7.out.keep kq (fun _ _ h => h))
    have HC8 := Lib.hid (kq.blk HC7.out (fun h => h))
    have HR8 := Lib.hid (kq.blk HR7.out (fun h => h))
    obtain ⟨e0, e1, e2, e3, e4, e5⟩ := cmd_cells HC8.out
    obtain ⟨c0, c1, c2, c3⟩ := H8.out.cells
    rw [← HN.out] at c3
    clear kq
    go_wp2_with fail
    refine (INS.out _ H8 _ _ (Kept.alloc _ _ _) (heap_alloc_new _ _) (Nat.le_refl _)).mono ?_
    rintro e w3 ⟨B3, d3, rfl, y3, yf, dd⟩
    clear INS
    go_upto_region 8 with (fail)
    clear y3 yf e0 e1 e2 e3 e4 e5 c0 c1 c2 c3
    generalize w3.setCell ⟨b, 3, none⟩ (.slice B3 (n + 1) d3) = w4 at dd ⊢
    have D4 := Lib.hid dd
    have HC4 := Lib.hid (dd.kept.blk HC8.out (fun hi => NC.out _ hi rfl))
    have HR4 := Lib.hid (dd.kept.blk HR8.out (fun hi => NR.out _ hi rfl))
    have DO := Lib.hid (do_any _ b { s with sess := X } c w4 dd.bx HU.out HNP.out)
    simp only at DO
    rw [← HOUT.out] at DO
    obtain ⟨e0, e1, e2, e3, e4, e5⟩ := cmd_cells HC4.out
    unfold RepV.val CmdV.val at DO
    clear dd
    go_wp2_with fail
    refine DO.out.mono ?_
    rintro e w5 ⟨rfl, d5⟩
    have d5' := D4.out.trans d5
    clear d5 DO D4 HC4 HR4 e0 e1 e2 e3 e4 e5
    have d6 := d5'.more (Kept.alloc noBlock w5 (.cells #[.int .i64 out.err, .string out.value] 61))
    have HC6 := Lib.hid (d6.kept.blk HC8.out (fun hi => NC.out _ hi rfl))
    have HR6 := Lib.hid (d6.kept.blk HR8.out (fun hi => NR.out _ hi rfl))
    have HO6 := Lib.hid (heap_alloc_new w5 (.cells #[.int .i64 out.err, .string out.value] 61))
    clear d5'
    go_upto_region 9 with (fail)
    generalize w5.alloc (.cells #[.int .i64 out.err, .string out.value] 61) = w6 at d6 HC6 HR6 HO6 ⊢
    have D6 := Lib.hid d6
    obtain ⟨A6, c6, B6, d6', h6⟩ := d6.bx
    obtain ⟨g6, cs6, hB6, hg6⟩ := own_at h6.owns (by have := HPX.out; simp only; omega)
    subst hB6
    have HG6 := Lib.hid hg6
    obtain ⟨x6, hx6⟩ : ∃ x, X[p]? = some x := ⟨_, List.getElem?_eq_getElem HPX.out⟩
    obtain ⟨g', o, eA, _, cv⟩ := (Lies.of_rows (F := fun _ => True) h6.owns (fun _ _ => trivial)).elem SN.enc_len (by omega) hx6
    injection eA with eA
    injection eA with eg eo
    subst eg eo
    have v0 := cv 0 _ rfl
    have v1 := cv 1 _ rfl
    have v2 := cv 2 _ rfl
    have v3 := cv 3 _ rfl
    rw [Nat.zero_add] at v0 v1 v2 v3
    rw [Nat.add_zero] at v0
    have fz : ∀ j, w6.frozen? ⟨g6, j, none⟩ = false := fun j => frozen_of_row _ _ _ _ _ hg6
    have fz0 := fz (p * 4)
    have fz1 := fz (p * 4 + 1)
    have fz2 := fz (p * 4 + 2)
    have fz3 := fz (p * 4 + 3)
    obtain ⟨_, _, _, c3⟩ := h6.cells
    simp only at c3
    obtain ⟨m6, hm6⟩ : ∃ m6, m6 = X.length := ⟨_, rfl⟩
    rw [← hm6] at c3
    have hpm : p < m6 := by rw [hm6]; exact HPX.out
    have d7 := D6.out.trans (h6.session (k := p) (by rw [← hm6]; exact hpm) (c.client, (c.seq, out)))
    have ks : Kept (fun i => i = g6) w6 (setS w6 g6 p (c.client, (c.seq, out))) := (((Kept.setCell w6 (by rfl) _).step (Kept.setCell _ (by rfl) _)).step (Kept.setCell _ (by rfl) _)).step (Kept.setCell _ (by rfl) _)
    have HO7 := Lib.hid (ks.blk HO6.out (fun e => by have h9 := HG6.out; rw [← e, HO6.out] at h9; injection h9 with h9; injection h9 with _ h9; revert h9; decide))
    have HR7 := Lib.hid (ks.blk HR6.out (fun e => by have h9 := HG6.out; rw [← e, HR6.out] at h9; injection h9 with h9; injection h9 with _ h9; revert h9; decide))
    have D7 := Lib.hid (d7.more (Kept.drew noBlock _))
    obtain ⟨e0, e1, e2, e3, e4, e5⟩ := cmd_cells HC6.out
    obtain ⟨o0, o1⟩ := rep_cells (r := out) HO6.out
    clear cv d7 fz h6 hg6 hx6 hm6 d6 ks
    refine wp_region_noPanic ?_
    refine wp_region_any_drew (by kernel_rfl) ?_
    refine wpAny_tail (S := fun w' => w'.cell? ⟨b, 3, none⟩ = some (.slice (some ⟨g6, 0, none⟩) m6 d6') ∧ w'.cell? ⟨w.heap.size, 1, none⟩ = some (.int .i64 c.client) ∧ w'.cell? ⟨w.heap.size, 2, none⟩ = some (.int .i64 c.seq) ∧ w'.cell? ⟨w5.heap.size, 0, none⟩ = some (.int .i64 out.err) ∧ w'.cell? ⟨w5.heap.size, 1, none⟩ = some (.string out.value)) 11 11 ⟨c3, e1, e2, o0, o1⟩ (fun hHeld => ?_)
    refine wpAnyT_take (i := 0) (oi := ⟨some 71, Op.move (Operand.tmp 0), 102, _, _, none⟩) (v := ?v0n10k1) rfl (by kernel_rfl) (by kernel_rfl) (by kernel_rfl) (fun _ _ _ h => h) (Or.inl ⟨by rfl, ?y0n10k1⟩) hHeld ?z0n10k1
    case y0n10k1 => intro w hSw; (try dsimp only at hSw); go_simp <;> rfl
    try simp only [Act.put, List.setIfInBounds_toArray, List.set_cons_zero, List.set_cons_succ]
    refine wpAnyT_take (i := 1) (oi := ⟨some 72, Op.nilCheck (Operand.tmp 71), 0, _, _, none⟩) (v := ?v1n10k2) rfl (by kernel_rfl) (by kernel_rfl) (by kernel_rfl) (fun _ _ _ h => h) (Or.inl ⟨by rfl, ?y1n10k2⟩) hHeld ?z1n10k2
    case y1n10k2 => intro w hSw; (try dsimp only at hSw); go_simp <;> rfl
    try simp only [Act.put, List.setIfInBounds_toArray, List.set_cons_zero, List.set_cons_succ]
    refine wpAnyT_take (i := 2) (oi := ⟨some 73, Op.fieldAddr 27 (Operand.tmp 72) 3, 0, _, _, none⟩) (v := ?v2n10k3) rfl (by kernel_rfl) (by kernel_rfl) (by kernel_rfl) (fun _ _ _ h => h) (Or.inl ⟨by rfl, ?y2n10k3⟩) hHeld ?z2n10k3
    case y2n10k3 => intro w hSw; (try dsimp only at hSw); go_simp <;> rfl
    try simp only [Act.put, List.setIfInBounds_toArray, List.set_cons_zero, List.set_cons_succ]
    refine wpAnyT_take (i := 3) (oi := ⟨some 74, Op.load 25 (Operand.tmp 73), 25, _, _, none⟩) (v := ?v3n10k4) rfl (by kernel_rfl) (by kernel_rfl) (by kernel_rfl) (fun _ _ _ h => h) (Or.inl ⟨by rfl, ?y3n10k4⟩) hHeld ?z3n10k4
    case y3n10k4 => intro w hSw; (try dsimp only at hSw); go_simp <;> rfl
    try simp only [Act.put, List.setIfInBounds_toArray, List.set_cons_zero, List.set_cons_succ]
    refine wpAnyT_take (i := 4) (oi := ⟨some 75, Op.move (Operand.tmp 5), 3, _, _, none⟩) (v := ?v4n10k5) rfl (by kernel_rfl) (by kernel_rfl) (by kernel_rfl) (fun _ _ _ h => h) (Or.inl ⟨by rfl, ?y4n10k5⟩) hHeld ?z4n10k5
    case y4n10k5 => intro w hSw; (try dsimp only at hSw); go_simp <;> rfl
    try simp only [Act.put, List.setIfInBounds_toArray, List.set_cons_zero, List.set_cons_succ]
    refine wpAnyT_take (i := 5) (oi := ⟨some 76, Op.fieldAddr 54 (Operand.tmp 3) 1, 0, _, _, none⟩) (v := ?v5n10k6) rfl (by kernel_rfl) (by kernel_rfl) (by kernel_rfl) (fun _ _ _ h => h) (Or.inl ⟨by rfl, ?y5n10k6⟩) hHeld ?z5n10k6
    case y5n10k6 => intro w hSw; (try dsimp only at hSw); go_simp <;> rfl
    try simp only [Act.put, List.setIfInBounds_toArray, List.set_cons_zero, List.set_cons_succ]
    refine wpAnyT_take (i := 6) (oi := ⟨some 77, Op.load 3 (Operand.tmp 76), 3, _, _, none⟩) (v := ?v6n10k7) rfl (by kernel_rfl) (by kernel_rfl) (by kernel_rfl) (fun _ _ _ h => h) (Or.inl ⟨by rfl, ?y6n10k7⟩) hHeld ?z6n10k7
    case y6n10k7 => intro w hSw; (try dsimp only at hSw); go_simp <;> rfl
    try simp only [Act.put, List.setIfInBounds_toArray, List.set_cons_zero, List.set_cons_succ]
    refine wpAnyT_take (i := 7) (oi := ⟨some 78, Op.fieldAddr 54 (Operand.tmp 3) 2, 0, _, _, none⟩) (v := ?v7n10k8) rfl (by kernel_rfl) (by kernel_rfl) (by kernel_rfl) (fun _ _ _ h => h) (Or.inl ⟨by rfl, ?y7n10k8⟩) hHeld ?z7n10k8
    case y7n10k8 => intro w hSw; (try dsimp only at hSw); go_simp <;> rfl
    try simp only [Act.put, List.setIfInBounds_toArray, List.set_cons_zero, List.set_cons_succ]
    refine wpAnyT_take (i := 8) (oi := ⟨some 79, Op.load 3 (Operand.tmp 78), 3, _, _, none⟩) (v := ?v8n10k9) rfl (by kernel_rfl) (by kernel_rfl) (by kernel_rfl) (fun _ _ _ h => h) (Or.inl ⟨by rfl, ?y8n10k9⟩) hHeld ?z8n10k9
    case y8n10k9 => intro w hSw; (try dsimp only at hSw); go_simp <;> rfl
    try simp only [Act.put, List.setIfInBounds_toArray, List.set_cons_zero, List.set_cons_succ]
    refine wpAnyT_take (i := 9) (oi := ⟨some 80, Op.load 61 (Operand.tmp 7), 61, _, _, none⟩) (v := ?v9n10k10) rfl (by kernel_rfl) (by kernel_rfl) (by kernel_rfl) (fun _ _ _ h => h) (Or.inl ⟨by rfl, ?y9n10k10⟩) hHeld ?z9n10k10
    case y9n10k10 => intro w hSw; (try dsimp only at hSw); go_simp <;> rfl
    try simp only [Act.put, List.setIfInBounds_toArray, List.set_cons_zero, List.set_cons_succ]
    refine wpAnyT_take (i := 10) (oi := ⟨some 81, Op.build 63 #[(0, Operand.tmp 77), (1, Operand.tmp 79), (2, Operand.tmp 80)], 63, _, _, none⟩) (v := ?v10n10k11) rfl (by kernel_rfl) (by kernel_rfl) (by kernel_rfl) (fun _ _ _ h => h) (Or.inl ⟨by rfl, ?y10n10k11⟩) hHeld ?z10n10k11
    case y10n10k11 => intro w hSw; (try dsimp only at hSw); go_simp <;> rfl
    try simp only [Act.put, List.setIfInBounds_toArray, List.set_cons_zero, List.set_cons_succ]
    refine wpAnyT_done (by kernel_rfl) ?_
    simp only [List.drop_succ_cons, List.drop_zero]
    clear hHeld
    go_wp2
    refine NoPanic.normal ?_
    change Exit.then _ _ _ _ ((setS w6 g6 p (c.client, (c.seq, out))).drew)
    have HO9 := Lib.hid (show ((setS w6 g6 p (c.client, (c.seq, out))).drew).heap[w5.heap.size]? = _ from HO7.out)
    have HR9 := Lib.hid (show ((setS w6 g6 p (c.client, (c.seq, out))).drew).heap[w.heap.size + 1]? = _ from HR7.out)
    generalize (setS w6 g6 p (c.client, (c.seq, out))).drew = w9 at D7 HO9 HR9 ⊢
    clear v0 v1 v2 v3 fz0 fz1 fz2 fz3 c3 e0 e1 e2 e3 e4 e5 o0 o1 HO7 HR7
    obtain ⟨o0, o1⟩ := rep_cells (r := out) HO9.out
    obtain ⟨r0, r1⟩ := rep_cells HR9.out
    have f0 : w9.frozen? ⟨w.heap.size + 1, 0, none⟩ = false := frozen_of_row _ _ _ _ _ HR9.out
    have f1 : w9.frozen? ⟨w.heap.size + 1, 1, none⟩ = false := frozen_of_row _ _ _ _ _ HR9.out
    have hbz := setR_block (x := told 0) (r := out) HR9.out
    have OZ := Lib.hid (OUT.out out _ w8 w9 K8.out D7.out)
    go_wp2
    change bodyPost _ _ _ _ _ (setR w9 (w.heap.size + 1) out)
    generalize setR w9 (w.heap.size + 1) out = vz at hbz OZ ⊢
    obtain ⟨z0, z1⟩ := rep_cells hbz
    refine bodyPost_ret (v := RepV.val out) (by simp [results, Tryz.results73, go_sem, RepV.val, Tryz.isAgg61, Tryz.sizeOf61, z0, z1]) rfl ?_
    rw [E0.out]
    refine ⟨by rw [HOUT.out]; rfl, ?_⟩
    have oz := OZ.out
    rw [XS.out, HOUT.out] at oz
    exact oz
  | some q =>
    have hh : Srt.has s.sess c.client = true := (Srt.has_iff _ _).2 ⟨_, hk⟩
    obtain ⟨v', hat, hv'⟩ := Srt.has_at HUS.out hh
    rw [hk] at hv'
    injection hv' with hv'
    subst hv'
    have hlt := Srt.has_lt HUS.out hh
    rw [← HP.out, ← HN.out] at hlt
    rw [← HP.out] at hat
    rw [hh]
    obtain ⟨g, cs, hA, hg⟩ := own_at H2.out.owns (by rw [← HN.out]; omega)
    subst hA
    obtain ⟨g', o, eA, _, cv⟩ := (Lies.of_rows (F := fun _ => True) H2.out.owns (fun _ _ => trivial)).elem SN.enc_len (by omega) hat
    injection eA with eA
    injection eA with eg eo
    subst eg eo
    have cv1 := cv 1 _ rfl
    have cv2 := cv 2 _ rfl
    have cv3 := cv 3 _ rfl
    rw [Nat.zero_add] at cv1 cv2 cv3
    simp only at cv1 cv2 cv3
    have HK := Lib.hid hk
    have HH := Lib.hid hh
    obtain ⟨r0, r1⟩ := rep_cells HR2.out
    have f0 : w2.frozen? ⟨w.heap.size + 1, 0, none⟩ = false := frozen_of_row _ _ _ _ _ HR2.out
    have f1 : w2.frozen? ⟨w.heap.size + 1, 1, none⟩ = false := frozen_of_row _ _ _ _ _ HR2.out
    clear cv hg hat hk hh
    obtain ⟨q1, q2⟩ := q
    simp only at cv1 cv2 cv3
    by_cases hq : q1 = c.seq
    · have E0 : Hid (onceV s c = (s, q2)) := by unfold Hid onceV; rw [HK.out]; simp [hq]
      have hq' : (q1 == c.seq) = true := by simpa using hq
      have HQ := Lib.hid hq
      clear hq
      go_upto_region 2 with (fail)
      go_quiet (fail)
      have kq := Kept.drewN noBlock w2 nq
      generalize w2.drewN nq = w7 at kq ⊢
      clear e0 e1 e2 e3 e4 e5 c0 c1 c2 c3
      have K7 := Lib.hid (K2.out.step kq)
      have H7 := Lib.hid (H2.out.keep kq (fun _ _ h => h))
      have HC7 := Lib.hid (kq.blk HC2.out (fun h => h))
      have HR7 := Lib.hid (kq.blk HR2.out (fun h => h))
      obtain ⟨e0, e1, e2, e3, e4, e5⟩ := cmd_cells HC7.out
      obtain ⟨c0, c1, c2, c3⟩ := H7.out.cells
      rw [← HN.out] at c3
      clear r0 r1 f0 f1
      replace cv1 := kq.cell cv1 (fun h => h)
      replace cv2 := kq.cell cv2 (fun h => h)
      replace cv3 := kq.cell cv3 (fun h => h)
      obtain ⟨r0, r1⟩ := rep_cells HR7.out
      have f0 : w7.frozen? ⟨w.heap.size + 1, 0, none⟩ = false := frozen_of_row _ _ _ _ _ HR7.out
      have f1 : w7.frozen? ⟨w.heap.size + 1, 1, none⟩ = false := frozen_of_row _ _ _ _ _ HR7.out
      clear kq
      have hbz := setR_block (x := told 0) (r := q2) HR7.out
      have OZ := Lib.hid (OUT.out q2 s w7 w7 K7.out (Did.refl ⟨_, _, _, _, H7.out⟩))
      go_wp2
      change bodyPost _ _ _ _ _ (setR w7 (w.heap.size + 1) q2)
      generalize setR w7 (w.heap.size + 1) q2 = vz at hbz OZ ⊢
      obtain ⟨z0, z1⟩ := rep_cells hbz
      refine bodyPost_ret (v := RepV.val q2) (by simp [results, Tryz.results73, go_sem, RepV.val, Tryz.isAgg61, Tryz.sizeOf61, z0, z1]) rfl ?_
      rw [E0.out]
      exact ⟨rfl, OZ.out⟩
    · have hq' : (q1 == c.seq) = false := by simpa using hq
      by_cases hl : c.seq < q1
      · have E0 : Hid (onceV s c = (s, told 12)) := by unfold Hid onceV; rw [HK.out]; simp [hq, hl]
        clear hq
        go_upto_region 2 with (fail)
        go_quiet (fail)
        have kq := Kept.drewN noBlock w2 nq
        generalize w2.drewN nq = w7 at kq ⊢
        clear e0 e1 e2 e3 e4 e5 c0 c1 c2 c3
        have K7 := Lib.hid (K2.out.step kq)
        have H7 := Lib.hid (H2.out.keep kq (fun _ _ h => h))
        have HC7 := Lib.hid (kq.blk HC2.out (fun h => h))
        have HR7 := Lib.hid (kq.blk HR2.out (fun h => h))
        obtain ⟨e0, e1, e2, e3, e4, e5⟩ := cmd_cells HC7.out
        obtain ⟨c0, c1, c2, c3⟩ := H7.out.cells
        rw [← HN.out] at c3
        clear r0 r1 f0 f1
        replace cv1 := kq.cell cv1 (fun h => h)
        replace cv2 := kq.cell cv2 (fun h => h)
        replace cv3 := kq.cell cv3 (fun h => h)
        obtain ⟨r0, r1⟩ := rep_cells HR7.out
        have f0 : w7.frozen? ⟨w.heap.size + 1, 0, none⟩ = false := frozen_of_row _ _ _ _ _ HR7.out
        have f1 : w7.frozen? ⟨w.heap.size + 1, 1, none⟩ = false := frozen_of_row _ _ _ _ _ HR7.out
        clear kq
        go_upto_region 4 with (fail)
        go_quiet (fail)
        have kq := Kept.drewN noBlock w7 nq
        generalize w7.drewN nq = w8 at kq ⊢
        clear e0 e1 e2 e3 e4 e5 c0 c1 c2 c3
        have K8 := Lib.hid (K7.out.step kq)
        have H8 := Lib.hid (H7.out.keep kq (fun _ _ h => h))
        have HC8 := Lib.hid (kq.blk HC7.out (fun h => h))
        have HR8 := Lib.hid (kq.blk HR7.out (fun h => h))
        obtain ⟨e0, e1, e2, e3, e4, e5⟩ := cmd_cells HC8.out
        obtain ⟨c0, c1, c2, c3⟩ := H8.out.cells
        rw [← HN.out] at c3
        clear r0 r1 f0 f1
        replace cv1 := kq.cell cv1 (fun h => h)
        replace cv2 := kq.cell cv2 (fun h => h)
        replace cv3 := kq.cell cv3 (fun h => h)
        obtain ⟨r0, r1⟩ := rep_cells HR8.out
        have f0 : w8.frozen? ⟨w.heap.size + 1, 0, none⟩ = false := frozen_of_row _ _ _ _ _ HR8.out
        have f1 : w8.frozen? ⟨w.heap.size + 1, 1, none⟩ = false := frozen_of_row _ _ _ _ _ HR8.out
        clear kq
        have hbz := setR_block (x := told 0) (r := (told 12)) HR8.out
        have OZ := Lib.hid (OUT.out (told 12) s w8 w8 K8.out (Did.refl ⟨_, _, _, _, H8.out⟩))
        go_wp2
        change bodyPost _ _ _ _ _ (setR w8 (w.heap.size + 1) (told 12))
        generalize setR w8 (w.heap.size + 1) (told 12) = vz at hbz OZ ⊢
        obtain ⟨z0, z1⟩ := rep_cells hbz
        refine bodyPost_ret (v := RepV.val (told 12)) (by simp [results, Tryz.results73, go_sem, RepV.val, Tryz.isAgg61, Tryz.sizeOf61, z0, z1]) rfl ?_
        rw [E0.out]
        exact ⟨rfl, OZ.out⟩
      · have E0 : Hid (onceV s c = actV s c) := by unfold Hid onceV; rw [HK.out]; simp [hq, hl]
        obtain ⟨X, hX⟩ : ∃ X, X = s.sess := ⟨_, rfl⟩
        have XS : Hid (X.set p (c.client, (c.seq, out)) = Srt.put s.sess c.client (c.seq, out)) := by
          unfold Hid Srt.put
          rw [if_pos HH.out, ← HP.out, hX]
        have HPX : Hid (p < X.length) := by unfold Hid; rw [hX, ← HN.out]; exact hlt
        have hl' : decide (c.seq < q1) = false := decide_eq_false hl
        clear hq
        go_upto_region 2 with (fail)
        go_quiet (fail)
        have kq := Kept.drewN noBlock w2 nq
        generalize w2.drewN nq = w7 at kq ⊢
        clear e0 e1 e2 e3 e4 e5 c0 c1 c2 c3
        have K7 := Lib.hid (K2.out.step kq)
        have H7 := Lib.hid (H2.out.keep kq (fun _ _ h => h))
        have HC7 := Lib.hid (kq.blk HC2.out (fun h => h))
        have HR7 := Lib.hid (kq.blk HR2.out (fun h => h))
        obtain ⟨e0, e1, e2, e3, e4, e5⟩ := cmd_cells HC7.out
        obtain ⟨c0, c1, c2, c3⟩ := H7.out.cells
        rw [← HN.out] at c3
        clear r0 r1 f0 f1
        replace cv1 := kq.cell cv1 (fun h => h)
        replace cv2 := kq.cell cv2 (fun h => h)
        replace cv3 := kq.cell cv3 (fun h => h)
        obtain ⟨r0, r1⟩ := rep_cells HR7.out
        have f0 : w7.frozen? ⟨w.heap.size + 1, 0, none⟩ = false := frozen_of_row _ _ _ _ _ HR7.out
        have f1 : w7.frozen? ⟨w.heap.size + 1, 1, none⟩ = false := frozen_of_row _ _ _ _ _ HR7.out
        clear kq
        go_upto_region 4 with (fail)
        go_quiet (fail)
        have kq := Kept.drewN noBlock w7 nq
        generalize w7.drewN nq = w8 at kq ⊢
        clear e0 e1 e2 e3 e4 e5 c0 c1 c2 c3
        have K8 := Lib.hid (K7.out.step kq)
        have H8 := Lib.hid (H7.out.keep kq (fun _ _ h => h))
        have HC8 := Lib.hid (kq.blk HC7.out (fun h => h))
        have HR8 := Lib.hid (kq.blk HR7.out (fun h => h))
        obtain ⟨e0, e1, e2, e3, e4, e5⟩ := cmd_cells HC8.out
        obtain ⟨c0, c1, c2, c3⟩ := H8.out.cells
        rw [← HN.out] at c3
        clear r0 r1 f0 f1
        replace cv1 := kq.cell cv1 (fun h => h)
        replace cv2 := kq.cell cv2 (fun h => h)
        replace cv3 := kq.cell cv3 (fun h => h)
        obtain ⟨r0, r1⟩ := rep_cells HR8.out
        have f0 : w8.frozen? ⟨w.heap.size + 1, 0, none⟩ = false := frozen_of_row _ _ _ _ _ HR8.out
        have f1 : w8.frozen? ⟨w.heap.size + 1, 1, none⟩ = false := frozen_of_row _ _ _ _ _ HR8.out
        clear kq
        have dd : Did F w8 w8 b { s with sess := X } := by rw [hX]; exact Did.refl ⟨_, _, _, _, H8.out⟩
        clear hX
        go_upto_region 8 with (fail)
        clear e0 e1 e2 e3 e4 e5 c0 c1 c2 c3 cv1 cv2 cv3 r0 r1 f0 f1
        have D4 := Lib.hid dd
        have HC4 := Lib.hid (dd.kept.blk HC8.out (fun hi => NC.out _ hi rfl))
        have HR4 := Lib.hid (dd.kept.blk HR8.out (fun hi => NR.out _ hi rfl))
        have DO := Lib.hid (do_any _ b { s with sess := X } c w8 dd.bx HU.out HNP.out)
        simp only at DO
        rw [← HOUT.out] at DO
        obtain ⟨e0, e1, e2, e3, e4, e5⟩ := cmd_cells HC4.out
        unfold RepV.val CmdV.val at DO
        clear dd
        go_wp2_with fail
        refine DO.out.mono ?_
        rintro e w5 ⟨rfl, d5⟩
        have d5' := D4.out.trans d5
        clear d5 DO D4 HC4 HR4 e0 e1 e2 e3 e4 e5
        have d6 := d5'.more (Kept.alloc noBlock w5 (.cells #[.int .i64 out.err, .string out.value] 61))
        have HC6 := Lib.hid (d6.kept.blk HC8.out (fun hi => NC.out _ hi rfl))
        have HR6 := Lib.hid (d6.kept.blk HR8.out (fun hi => NR.out _ hi rfl))
        have HO6 := Lib.hid (heap_alloc_new w5 (.cells #[.int .i64 out.err, .string out.value] 61))
        clear d5'
        go_upto_region 9 with (fail)
        generalize w5.alloc (.cells #[.int .i64 out.err, .string out.value] 61) = w6 at d6 HC6 HR6 HO6 ⊢
        have D6 := Lib.hid d6
        obtain ⟨A6, c6, B6, d6', h6⟩ := d6.bx
        obtain ⟨g6, cs6, hB6, hg6⟩ := own_at h6.owns (by have := HPX.out; simp only; omega)
        subst hB6
        have HG6 := Lib.hid hg6
        obtain ⟨x6, hx6⟩ : ∃ x, X[p]? = some x := ⟨_, List.getElem?_eq_getElem HPX.out⟩
        obtain ⟨g', o, eA, _, cv⟩ := (Lies.of_rows (F := fun _ => True) h6.owns (fun _ _ => trivial)).elem SN.enc_len (by omega) hx6
        injection eA with eA
        injection eA with eg eo
        subst eg eo
        have v0 := cv 0 _ rfl
        have v1 := cv 1 _ rfl
        have v2 := cv 2 _ rfl
        have v3 := cv 3 _ rfl
        rw [Nat.zero_add] at v0 v1 v2 v3
        rw [Nat.add_zero] at v0
        have fz : ∀ j, w6.frozen? ⟨g6, j, none⟩ = false := fun j => frozen_of_row _ _ _ _ _ hg6
        have fz0 := fz (p * 4)
        have fz1 := fz (p * 4 + 1)
        have fz2 := fz (p * 4 + 2)
        have fz3 := fz (p * 4 + 3)
        obtain ⟨_, _, _, c3⟩ := h6.cells
        simp only at c3
        obtain ⟨m6, hm6⟩ : ∃ m6, m6 = X.length := ⟨_, rfl⟩
        rw [← hm6] at c3
        have hpm : p < m6 := by rw [hm6]; exact HPX.out
        have d7 := D6.out.trans (h6.session (k := p) (by rw [← hm6]; exact hpm) (c.client, (c.seq, out)))
        have ks : Kept (fun i => i = g6) w6 (setS w6 g6 p (c.client, (c.seq, out))) := (((Kept.setCell w6 (by rfl) _).step (Kept.setCell _ (by rfl) _)).step (Kept.setCell _ (by rfl) _)).step (Kept.setCell _ (by rfl) _)
        have HO7 := Lib.hid (ks.blk HO6.out (fun e => by have h9 := HG6.out; rw [← e, HO6.out] at h9; injection h9 with h9; injection h9 with _ h9; revert h9; decide))
        have HR7 := Lib.hid (ks.blk HR6.out (fun e => by have h9 := HG6.out; rw [← e, HR6.out] at h9; injection h9 with h9; injection h9 with _ h9; revert h9; decide))
        have D7 := Lib.hid (d7.more (Kept.drew noBlock _))
        obtain ⟨e0, e1, e2, e3, e4, e5⟩ := cmd_cells HC6.out
        obtain ⟨o0, o1⟩ := rep_cells (r := out) HO6.out
        clear cv d7 fz h6 hg6 hx6 hm6 d6 ks
        refine wp_region_noPanic ?_
        refine wp_region_any_drew (by kernel_rfl) ?_
        refine wpAny_tail (S := fun w' => w'.cell? ⟨b, 3, none⟩ = some (.slice (some ⟨g6, 0, none⟩) m6 d6') ∧ w'.cell? ⟨w.heap.size, 1, none⟩ = some (.int .i64 c.client) ∧ w'.cell? ⟨w.heap.size, 2, none⟩ = some (.int .i64 c.seq) ∧ w'.cell? ⟨w5.heap.size, 0, none⟩ = some (.int .i64 out.err) ∧ w'.cell? ⟨w5.heap.size, 1, none⟩ = some (.string out.value)) 11 11 ⟨c3, e1, e2, o0, o1⟩ (fun hHeld => ?_)
        refine wpAnyT_take (i := 0) (oi := ⟨some 71, Op.move (Operand.tmp 0), 102, _, _, none⟩) (v := ?v0n11k1) rfl (by kernel_rfl) (by kernel_rfl) (by kernel_rfl) (fun _ _ _ h => h) (Or.inl ⟨by rfl, ?y0n11k1⟩) hHeld ?z0n11k1
        case y0n11k1 => intro w hSw; (try dsimp only at hSw); go_simp <;> rfl
        try simp only [Act.put, List.setIfInBounds_toArray, List.set_cons_zero, List.set_cons_succ]
        refine wpAnyT_take (i := 1) (oi := ⟨some 72, Op.nilCheck (Operand.tmp 71), 0, _, _, none⟩) (v := ?v1n11k2) rfl (by kernel_rfl) (by kernel_rfl) (by kernel_rfl) (fun _ _ _ h => h) (Or.inl ⟨by rfl, ?y1n11k2⟩) hHeld ?z1n11k2
        case y1n11k2 => intro w hSw; (try dsimp only at hSw); go_simp <;> rfl
        try simp only [Act.put, List.setIfInBounds_toArray, List.set_cons_zero, List.set_cons_succ]
        refine wpAnyT_take (i := 2) (oi := ⟨some 73, Op.fieldAddr 27 (Operand.tmp 72) 3, 0, _, _, none⟩) (v := ?v2n11k3) rfl (by kernel_rfl) (by kernel_rfl) (by kernel_rfl) (fun _ _ _ h => h) (Or.inl ⟨by rfl, ?y2n11k3⟩) hHeld ?z2n11k3
        case y2n11k3 => intro w hSw; (try dsimp only at hSw); go_simp <;> rfl
        try simp only [Act.put, List.setIfInBounds_toArray, List.set_cons_zero, List.set_cons_succ]
        refine wpAnyT_take (i := 3) (oi := ⟨some 74, Op.load 25 (Operand.tmp 73), 25, _, _, none⟩) (v := ?v3n11k4) rfl (by kernel_rfl) (by kernel_rfl) (by kernel_rfl) (fun _ _ _ h => h) (Or.inl ⟨by rfl, ?y3n11k4⟩) hHeld ?z3n11k4
        case y3n11k4 => intro w hSw; (try dsimp only at hSw); go_simp <;> rfl
        try simp only [Act.put, List.setIfInBounds_toArray, List.set_cons_zero, List.set_cons_succ]
        refine wpAnyT_take (i := 4) (oi := ⟨some 75, Op.move (Operand.tmp 5), 3, _, _, none⟩) (v := ?v4n11k5) rfl (by kernel_rfl) (by kernel_rfl) (by kernel_rfl) (fun _ _ _ h => h) (Or.inl ⟨by rfl, ?y4n11k5⟩) hHeld ?z4n11k5
        case y4n11k5 => intro w hSw; (try dsimp only at hSw); go_simp <;> rfl
        try simp only [Act.put, List.setIfInBounds_toArray, List.set_cons_zero, List.set_cons_succ]
        refine wpAnyT_take (i := 5) (oi := ⟨some 76, Op.fieldAddr 54 (Operand.tmp 3) 1, 0, _, _, none⟩) (v := ?v5n11k6) rfl (by kernel_rfl) (by kernel_rfl) (by kernel_rfl) (fun _ _ _ h => h) (Or.inl ⟨by rfl, ?y5n11k6⟩) hHeld ?z5n11k6
        case y5n11k6 => intro w hSw; (try dsimp only at hSw); go_simp <;> rfl
        try simp only [Act.put, List.setIfInBounds_toArray, List.set_cons_zero, List.set_cons_succ]
        refine wpAnyT_take (i := 6) (oi := ⟨some 77, Op.load 3 (Operand.tmp 76), 3, _, _, none⟩) (v := ?v6n11k7) rfl (by kernel_rfl) (by kernel_rfl) (by kernel_rfl) (fun _ _ _ h => h) (Or.inl ⟨by rfl, ?y6n11k7⟩) hHeld ?z6n11k7
        case y6n11k7 => intro w hSw; (try dsimp only at hSw); go_simp <;> rfl
        try simp only [Act.put, List.setIfInBounds_toArray, List.set_cons_zero, List.set_cons_succ]
        refine wpAnyT_take (i := 7) (oi := ⟨some 78, Op.fieldAddr 54 (Operand.tmp 3) 2, 0, _, _, none⟩) (v := ?v7n11k8) rfl (by kernel_rfl) (by kernel_rfl) (by kernel_rfl) (fun _ _ _ h => h) (Or.inl ⟨by rfl, ?y7n11k8⟩) hHeld ?z7n11k8
        case y7n11k8 => intro w hSw; (try dsimp only at hSw); go_simp <;> rfl
        try simp only [Act.put, List.setIfInBounds_toArray, List.set_cons_zero, List.set_cons_succ]
        refine wpAnyT_take (i := 8) (oi := ⟨some 79, Op.load 3 (Operand.tmp 78), 3, _, _, none⟩) (v := ?v8n11k9) rfl (by kernel_rfl) (by kernel_rfl) (by kernel_rfl) (fun _ _ _ h => h) (Or.inl ⟨by rfl, ?y8n11k9⟩) hHeld ?z8n11k9
        case y8n11k9 => intro w hSw; (try dsimp only at hSw); go_simp <;> rfl
        try simp only [Act.put, List.setIfInBounds_toArray, List.set_cons_zero, List.set_cons_succ]
        refine wpAnyT_take (i := 9) (oi := ⟨some 80, Op.load 61 (Operand.tmp 7), 61, _, _, none⟩) (v := ?v9n11k10) rfl (by kernel_rfl) (by kernel_rfl) (by kernel_rfl) (fun _ _ _ h => h) (Or.inl ⟨by rfl, ?y9n11k10⟩) hHeld ?z9n11k10
        case y9n11k10 => intro w hSw; (try dsimp only at hSw); go_simp <;> rfl
        try simp only [Act.put, List.setIfInBounds_toArray, List.set_cons_zero, List.set_cons_succ]
        refine wpAnyT_take (i := 10) (oi := ⟨some 81, Op.build 63 #[(0, Operand.tmp 77), (1, Operand.tmp 79), (2, Operand.tmp 80)], 63, _, _, none⟩) (v := ?v10n11k11) rfl (by kernel_rfl) (by kernel_rfl) (by kernel_rfl) (fun _ _ _ h => h) (Or.inl ⟨by rfl, ?y10n11k11⟩) hHeld ?z10n11k11
        case y10n11k11 => intro w hSw; (try dsimp only at hSw); go_simp <;> rfl
        try simp only [Act.put, List.setIfInBounds_toArray, List.set_cons_zero, List.set_cons_succ]
        refine wpAnyT_done (by kernel_rfl) ?_
        simp only [List.drop_succ_cons, List.drop_zero]
        clear hHeld
        go_wp2
        refine NoPanic.normal ?_
        change Exit.then _ _ _ _ ((setS w6 g6 p (c.client, (c.seq, out))).drew)
        have HO9 := Lib.hid (show ((setS w6 g6 p (c.client, (c.seq, out))).drew).heap[w5.heap.size]? = _ from HO7.out)
        have HR9 := Lib.hid (show ((setS w6 g6 p (c.client, (c.seq, out))).drew).heap[w.heap.size + 1]? = _ from HR7.out)
        generalize (setS w6 g6 p (c.client, (c.seq, out))).drew = w9 at D7 HO9 HR9 ⊢
        clear v0 v1 v2 v3 fz0 fz1 fz2 fz3 c3 e0 e1 e2 e3 e4 e5 o0 o1 HO7 HR7
        obtain ⟨o0, o1⟩ := rep_cells (r := out) HO9.out
        obtain ⟨r0, r1⟩ := rep_cells HR9.out
        have f0 : w9.frozen? ⟨w.heap.size + 1, 0, none⟩ = false := frozen_of_row _ _ _ _ _ HR9.out
        have f1 : w9.frozen? ⟨w.heap.size + 1, 1, none⟩ = false := frozen_of_row _ _ _ _ _ HR9.out
        have hbz := setR_block (x := told 0) (r := out) HR9.out
        have OZ := Lib.hid (OUT.out out _ w8 w9 K8.out D7.out)
        go_wp2
        change bodyPost _ _ _ _ _ (setR w9 (w.heap.size + 1) out)
        generalize setR w9 (w.heap.size + 1) out = vz at hbz OZ ⊢
        obtain ⟨z0, z1⟩ := rep_cells hbz
        refine bodyPost_ret (v := RepV.val out) (by simp [results, Tryz.results73, go_sem, RepV.val, Tryz.isAgg61, Tryz.sizeOf61, z0, z1]) rfl ?_
        rw [E0.out]
        refine ⟨by rw [HOUT.out]; rfl, ?_⟩
        have oz := OZ.out
        rw [XS.out, HOUT.out] at oz
        exact oz
end Go.Proofs.YthmjjhjblokjeaaGreat
