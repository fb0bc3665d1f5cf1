/-
  The contract of state.putNew. No statement is proved here.
-/
import Derived.Test.YthmjjhjblokjeaaGreatBox
import Derived.Test.YthmjjhjblokjeaaGreatTail
import Derived.Deep.DeepCutAuto
namespace Go.Proofs.YthmjjhjblokjeaaGreat
open Go.RowKit Tot

/-- The cells of a row of the call's own. -/
theorem Lies.of_rows {w : World} {F : Nat → Prop} {base n c size : Nat} {t : TypeId} {a : Option Addr} {xs : List Value} (h : w.ownsRow base t size (.slice a n c) n xs) (hF : ∀ k, (Value.slice a n c).ownBlock = some k → F k) : Lies w F a xs := fun hx => by
  rcases h.2 with ⟨_, rfl⟩ | ⟨g, cap, cur, e, _, hg, _, _, _, htk⟩
  · have := h.1
    rw [Nat.zero_mul] at this
    exact absurd (List.eq_nil_of_length_eq_zero this) hx
  · injection e with e
    subst e
    refine ⟨⟨g, 0, none⟩, rfl, hF g rfl, fun j u hu => ?_⟩
    rw [add_plain, Nat.zero_add, cell_of_row _ _ _ _ _ _ hg]
    rw [← htk, List.getElem?_take] at hu
    split at hu
    · simpa using hu
    · cases hu
/-- The two locals that a call makes first: the command, and the place of what is told. -/
def loc (w : World) (c : CmdV) : World := (w.alloc (.cells c.cells.toArray 54)).alloc (.cells (told 0).cells.toArray 61)
theorem loc_kept (w : World) (c : CmdV) : Kept noBlock w (loc w c) := (Kept.alloc _ _ _).step (Kept.alloc _ _ _)
theorem loc_size (w : World) (c : CmdV) : (loc w c).heap.size = w.heap.size + 2 := by unfold loc; simp
theorem loc_cmd (w : World) (c : CmdV) : (loc w c).heap[w.heap.size]? = some (.cells c.cells.toArray 54 (0, 0)) := (Kept.alloc noBlock _ _).blk (heap_alloc_new w _) (fun h => h)
theorem loc_rep (w : World) (c : CmdV) : (loc w c).heap[w.heap.size + 1]? = some (.cells (told 0).cells.toArray 61 (0, 0)) := by
  have := heap_alloc_new (w.alloc (.cells c.cells.toArray 54)) (.cells (told 0).cells.toArray 61)
  rw [show (w.alloc (.cells c.cells.toArray 54)).heap.size = w.heap.size + 1 by simp] at this
  exact this
/-- The command's cells. -/
theorem cmd_cells {w : World} {C : Nat} {c : CmdV} {t : TypeId} {fr : Nat × Nat} (h : w.heap[C]? = some (.cells c.cells.toArray t fr)) :
    w.cell? ⟨C, 0, none⟩ = some (.int .i64 c.op) ∧ w.cell? ⟨C, 1, none⟩ = some (.int .i64 c.client) ∧ w.cell? ⟨C, 2, none⟩ = some (.int .i64 c.seq) ∧ w.cell? ⟨C, 3, none⟩ = some (.string c.key) ∧ w.cell? ⟨C, 4, none⟩ = some (.string c.value) ∧ w.cell? ⟨C, 5, none⟩ = some (.string c.old) := by
  unfold CmdV.cells at h
  exact ⟨cell_of_row _ _ _ _ _ _ h, cell_of_row _ _ _ _ _ _ h, cell_of_row _ _ _ _ _ _ h, cell_of_row _ _ _ _ _ _ h, cell_of_row _ _ _ _ _ _ h, cell_of_row _ _ _ _ _ _ h⟩
theorem rep_cells {w : World} {R : Nat} {r : RepV} {t : TypeId} {fr : Nat × Nat} (h : w.heap[R]? = some (.cells r.cells.toArray t fr)) : w.cell? ⟨R, 0, none⟩ = some (.int .i64 r.err) ∧ w.cell? ⟨R, 1, none⟩ = some (.string r.value) := by
  unfold RepV.cells at h
  exact ⟨cell_of_row _ _ _ _ _ _ h, cell_of_row _ _ _ _ _ _ h⟩

theorem cells_ins (L : Prs) (k : ByteArray) (v : ByteArray × Bool) (hh : Srt.has L k = false) : PR.cells (Srt.put L k v) = (PR.cells L).take (Srt.pos L k * 3) ++ (PR.enc (k, v) ++ (PR.cells L).drop (Srt.pos L k * 3)) := by
  unfold Srt.put PR.cells
  rw [if_neg (by rw [hh]; simp), flat_append, flat_cons, flat_take PR.enc_len, flat_drop PR.enc_len]

/-- What putting a key does that has no value. -/
def putV (ps : Prs) (c : CmdV) : Prs × RepV := if 64 ≤ ps.length then (ps, told 4) else (Srt.put ps c.key (c.value, false), told 0)
set_option maxRecDepth 100000 in
set_option maxHeartbeats 1000000 in
theorem putnew_any (F : Nat → Prop) (b : Nat) (s : StV) (c : CmdV) (w : World) (h : Bx w F b s) (hh : Srt.has s.pairs c.key = false) (hn : s.pairs.length ≤ 1048576) :
    Calls Tryz.prog 108 #[.pointer (some ⟨b, 0, none⟩), .int .i64 (Srt.pos s.pairs c.key : Nat), c.val] w fun e w' =>
      e = .returned (putV s.pairs c).2.val ∧ Did F w w' b { s with pairs := (putV s.pairs c).1 } := by
  have hF := h.lt
  obtain ⟨A, cc, B, d, h⟩ := h
  have k1 := loc_kept w c
  have z1 := loc_size w c
  have hC := loc_cmd w c
  have hR := loc_rep w c
  obtain ⟨w1, hw1⟩ : ∃ w1, w1 = loc w c := ⟨_, rfl⟩
  rw [← hw1] at k1 z1 hC hR
  unfold loc RepV.cells CmdV.cells told noText at hw1
  simp only at hw1
  have h1 := h.keep k1 (fun _ _ h => h)
  obtain ⟨_, _, c2, _⟩ := h1.cells
  obtain ⟨_, _, _, e3, e4, _⟩ := cmd_cells hC
  have hpl := Srt.pos_le s.pairs c.key
  obtain ⟨n, hnn⟩ : ∃ n, n = s.pairs.length := ⟨_, rfl⟩
  rw [← hnn] at c2 hn hpl
  obtain ⟨p, hp⟩ : ∃ p, p = Srt.pos s.pairs c.key := ⟨_, rfl⟩
  rw [← hp] at hpl ⊢
  have OUT : Hid (∀ r s' v, Did F w1 v b s' → Did F w (setR v (w.heap.size + 1) r) b s') := fun r s' v hd => Did.out k1 hd (setR_kept v _ r) (by omega) (by omega) hF
  have nR : ∀ i, F i → i ≠ w.heap.size + 1 := fun i hi e => by have := hF i hi; omega
  have NR := Lib.hid nR
  have HP := Lib.hid hp
  have HN := Lib.hid hnn
  have H1 := Lib.hid h1
  have HR := Lib.hid hR
  have HHH := Lib.hid hh
  have K1 := Lib.hid k1
  have HC := Lib.hid hC
  have HF := Lib.hid hF
  have Z1 := Lib.hid z1
  clear hp h h1 hR hh hF nR k1 hC hnn z1
  unfold CmdV.val
  go_enter Tryz.func108, Tryz.ntmps108
  go_upto_region 1 with (fail)
  rw [← hw1]
  clear hw1
  by_cases h64 : 64 ≤ n
  · have e0 : putV s.pairs c = (s.pairs, told 4) := by unfold putV; rw [if_pos (by rw [← HN.out]; exact h64)]
    have E0 := Lib.hid e0; clear e0
    have h64' : (64 : Int) ≤ (n : Int) := by omega
    obtain ⟨r0, r1⟩ := rep_cells HR.out
    have f0 : w1.frozen? ⟨w.heap.size + 1, 0, none⟩ = false := frozen_of_row _ _ _ _ _ HR.out
    have f1 : w1.frozen? ⟨w.heap.size + 1, 1, none⟩ = false := frozen_of_row _ _ _ _ _ HR.out
    have o0 := OUT.out (told 4) s w1 (Did.refl ⟨_, _, _, _, H1.out⟩)
    have O0 := Lib.hid o0
    have hb := setR_block (x := told 0) (r := told 4) HR.out
    clear o0
    go_wp2
    change bodyPost _ _ _ _ _ (setR w1 (w.heap.size + 1) (told 4))
    generalize setR w1 (w.heap.size + 1) (told 4) = v at hb O0 ⊢
    obtain ⟨d0, d1⟩ := rep_cells hb
    refine bodyPost_ret (v := (told 4).val) (by simp [results, Tryz.results108, go_sem, RepV.val, Tryz.isAgg61, Tryz.sizeOf61, d0, d1]) rfl ?_
    rw [E0.out]
    exact ⟨rfl, O0.out⟩
  · have e0 : putV s.pairs c = (Srt.put s.pairs c.key (c.value, false), told 0) := by unfold putV; rw [if_neg (by rw [← HN.out]; exact h64)]
    have E0 := Lib.hid e0; clear e0
    have h64' : ¬ (64 : Int) ≤ (n : Int) := by omega
    have CE : Hid (∀ u, Kept noBlock w1 u → u.cell? ⟨b, 2, none⟩ = some (.slice A n cc) ∧ u.cell? ⟨w.heap.size, 3, none⟩ = some (.string c.key) ∧ u.cell? ⟨w.heap.size, 4, none⟩ = some (.string c.value)) := fun u k => ⟨k.cell c2 (fun h => h), k.cell e3 (fun h => h), k.cell e4 (fun h => h)⟩
    have INS : Hid (∀ u B, Kept noBlock w1 u → u.heap[B]? = some (.cells #[.string c.key, .string c.value, .bool false] 68 (0, 0)) → w1.heap.size ≤ B → Calls Tryz.prog 113 #[.slice A n cc, .int .i64 (p : Int), .slice (some ⟨B, 0, none⟩) 1 1] u fun e w' => ∃ A' c', e = .returned (.slice A' (n + 1) c') ∧
        (w'.cell? ⟨b, 2, none⟩ = some (.slice A n cc) ∧ w'.cell? ⟨w.heap.size, 3, none⟩ = some (.string c.key) ∧ w'.cell? ⟨w.heap.size, 4, none⟩ = some (.string c.value)) ∧ w'.frozen? ⟨b, 2, none⟩ = false ∧ (setR (w'.setCell ⟨b, 2, none⟩ (.slice A' (n + 1) c')) (w.heap.size + 1) (told 0)).heap[w.heap.size + 1]? = some (.cells (told 0).cells.toArray 61 (0, 0)) ∧
          ((w'.setCell ⟨b, 2, none⟩ (.slice A' (n + 1) c')).heap[w.heap.size + 1]? = some (.cells (told 0).cells.toArray 61 (0, 0))) ∧
          Did F w (setR (w'.setCell ⟨b, 2, none⟩ (.slice A' (n + 1) c')) (w.heap.size + 1) (told 0)) b { s with pairs := Srt.put s.pairs c.key (c.value, false) }) := Lib.hid (by
      intro u B k hB hlt
      have hx := H1.out.keep k (fun _ _ h => h)
      have ho := hx.ownp
      rw [← HN.out] at ho
      refine (PR.ins_any A n cc p B (PR.cells s.pairs) (c.key, (c.value, false)) _ ho (PR.cells_one _) hpl (by omega) hB (fun e => ?_)).mono ?_
      · have := own_lt H1.out.ownp _ (by rw [← HN.out]; exact e)
        omega
      · rintro e w' ⟨A', c', rfl, o, g⟩
        have hpl2 : (Srt.put s.pairs c.key (c.value, false)).length = n + 1 := by rw [Srt.put_len, if_neg (by rw [HHH.out]; simp), ← HN.out]
        rw [HP.out, ← cells_ins _ _ _ HHH.out, ← hpl2] at o
        have g2 : Grew w1 w' (.slice A s.pairs.length cc) (.slice A' (Srt.put s.pairs c.key (c.value, false)).length c') := by rw [hpl2, ← HN.out]; exact Grew.after k g
        obtain ⟨q1, q2, q3⟩ := H1.out.pairs o g2
        rw [hpl2] at q3
        rw [← HN.out] at q1
        have gk : ∀ i, (Value.slice A n cc).ownBlock = some i → F i := fun i hi => H1.out.fp i (by rw [← HN.out]; exact hi)
        have gk2 := g2.kept
        rw [← HN.out] at gk2
        have hC2 := gk2.blk HC.out (fun hi => by have := HF.out _ (gk _ hi); exact absurd this (Nat.lt_irrefl _))
        obtain ⟨_, _, _, y3, y4, _⟩ := cmd_cells hC2
        have hR2 := gk2.blk HR.out (fun hi => NR.out _ (gk _ hi) rfl)
        have hR3 : (w'.setCell ⟨b, 2, none⟩ (.slice A' (n + 1) c')).heap[w.heap.size + 1]? = some (.cells (told 0).cells.toArray 61 (0, 0)) := (Kept.setCell (S := fun i => i = b) w' (by rfl) _).blk hR2 (fun e => NR.out b H1.out.fb e.symm)
        exact ⟨A', c', rfl, ⟨q1, y3, y4⟩, q2, setR_block hR3, hR3, OUT.out _ _ _ q3⟩)
    go_upto_region 3 with (fail)
    have kd := Kept.drew noBlock w1
    refine wp_region_noPanic ?_
    refine wp_region_any_drew (by kernel_rfl) ?_
    refine wpAny_tail (S := fun w' => w'.cell? ⟨b, 2, none⟩ = some (.slice A n cc) ∧ w'.cell? ⟨w.heap.size, 3, none⟩ = some (.string c.key) ∧ w'.cell? ⟨w.heap.size, 4, none⟩ = some (.string c.value)) 13 13 (CE.out _ kd) (fun hHeld => ?_)
    refine wpAnyT_take (i := 0) (oi := ⟨some 14, Op.move (Operand.tmp 0), 102, _, _, none⟩) (v := ?v0n5k1) rfl (by kernel_rfl) (by kernel_rfl) (by kernel_rfl) (fun _ _ _ h => h) (Or.inl ⟨by rfl, ?y0n5k1⟩) hHeld ?z0n5k1
    case y0n5k1 => intro w hSw; (try dsimp only at hSw); go_simp <;> rfl
    try simp only [Act.put, List.setIfInBounds_toArray, List.set_cons_zero, List.set_cons_succ]
    refine wpAnyT_take (i := 1) (oi := ⟨some 15, Op.move (Operand.tmp 0), 102, _, _, none⟩) (v := ?v1n5k2) rfl (by kernel_rfl) (by kernel_rfl) (by kernel_rfl) (fun _ _ _ h => h) (Or.inl ⟨by rfl, ?y1n5k2⟩) hHeld ?z1n5k2
    case y1n5k2 => intro w hSw; (try dsimp only at hSw); go_simp <;> rfl
    try simp only [Act.put, List.setIfInBounds_toArray, List.set_cons_zero, List.set_cons_succ]
    refine wpAnyT_take (i := 2) (oi := ⟨some 16, Op.nilCheck (Operand.tmp 15), 0, _, _, none⟩) (v := ?v2n5k3) rfl (by kernel_rfl) (by kernel_rfl) (by kernel_rfl) (fun _ _ _ h => h) (Or.inl ⟨by rfl, ?y2n5k3⟩) hHeld ?z2n5k3
    case y2n5k3 => intro w hSw; (try dsimp only at hSw); go_simp <;> rfl
    try simp only [Act.put, List.setIfInBounds_toArray, List.set_cons_zero, List.set_cons_succ]
    refine wpAnyT_take (i := 3) (oi := ⟨some 17, Op.fieldAddr 27 (Operand.tmp 16) 2, 0, _, _, none⟩) (v := ?v3n5k4) rfl (by kernel_rfl) (by kernel_rfl) (by kernel_rfl) (fun _ _ _ h => h) (Or.inl ⟨by rfl, ?y3n5k4⟩) hHeld ?z3n5k4
    case y3n5k4 => intro w hSw; (try dsimp only at hSw); go_simp <;> rfl
    try simp only [Act.put, List.setIfInBounds_toArray, List.set_cons_zero, List.set_cons_succ]
    refine wpAnyT_take (i := 4) (oi := ⟨some 18, Op.load 24 (Operand.tmp 17), 24, _, _, none⟩) (v := ?v4n5k5) rfl (by kernel_rfl) (by kernel_rfl) (by kernel_rfl) (fun _ _ _ h => h) (Or.inl ⟨by rfl, ?y4n5k5⟩) hHeld ?z4n5k5
    case y4n5k5 => intro w hSw; (try dsimp only at hSw); go_simp <;> rfl
    try simp only [Act.put, List.setIfInBounds_toArray, List.set_cons_zero, List.set_cons_succ]
    refine wpAnyT_take (i := 5) (oi := ⟨some 19, Op.move (Operand.tmp 1), 3, _, _, none⟩) (v := ?v5n5k6) rfl (by kernel_rfl) (by kernel_rfl) (by kernel_rfl) (fun _ _ _ h => h) (Or.inl ⟨by rfl, ?y5n5k6⟩) hHeld ?z5n5k6
    case y5n5k6 => intro w hSw; (try dsimp only at hSw); go_simp <;> rfl
    try simp only [Act.put, List.setIfInBounds_toArray, List.set_cons_zero, List.set_cons_succ]
    refine wpAnyT_take (i := 6) (oi := ⟨some 20, Op.fieldAddr 54 (Operand.tmp 5) 3, 0, _, _, none⟩) (v := ?v6n5k7) rfl (by kernel_rfl) (by kernel_rfl) (by kernel_rfl) (fun _ _ _ h => h) (Or.inl ⟨by rfl, ?y6n5k7⟩) hHeld ?z6n5k7
    case y6n5k7 => intro w hSw; (try dsimp only at hSw); go_simp <;> rfl
    try simp only [Act.put, List.setIfInBounds_toArray, List.set_cons_zero, List.set_cons_succ]
    refine wpAnyT_take (i := 7) (oi := ⟨some 21, Op.load 9 (Operand.tmp 20), 9, _, _, none⟩) (v := ?v7n5k8) rfl (by kernel_rfl) (by kernel_rfl) (by kernel_rfl) (fun _ _ _ h => h) (Or.inl ⟨by rfl, ?y7n5k8⟩) hHeld ?z7n5k8
    case y7n5k8 => intro w hSw; (try dsimp only at hSw); go_simp <;> rfl
    try simp only [Act.put, List.setIfInBounds_toArray, List.set_cons_zero, List.set_cons_succ]
    refine wpAnyT_take (i := 8) (oi := ⟨some 22, Op.fieldAddr 54 (Operand.tmp 5) 4, 0, _, _, none⟩) (v := ?v8n5k9) rfl (by kernel_rfl) (by kernel_rfl) (by kernel_rfl) (fun _ _ _ h => h) (Or.inl ⟨by rfl, ?y8n5k9⟩) hHeld ?z8n5k9
    case y8n5k9 => intro w hSw; (try dsimp only at hSw); go_simp <;> rfl
    try simp only [Act.put, List.setIfInBounds_toArray, List.set_cons_zero, List.set_cons_succ]
    refine wpAnyT_take (i := 9) (oi := ⟨some 23, Op.load 9 (Operand.tmp 22), 9, _, _, none⟩) (v := ?v9n5k10) rfl (by kernel_rfl) (by kernel_rfl) (by kernel_rfl) (fun _ _ _ h => h) (Or.inl ⟨by rfl, ?y9n5k10⟩) hHeld ?z9n5k10
    case y9n5k10 => intro w hSw; (try dsimp only at hSw); go_simp <;> rfl
    try simp only [Act.put, List.setIfInBounds_toArray, List.set_cons_zero, List.set_cons_succ]
    refine wpAnyT_take (i := 10) (oi := ⟨some 24, Op.build 68 #[(0, Operand.tmp 21), (1, Operand.tmp 23)], 68, _, _, none⟩) (v := ?v10n5k11) rfl (by kernel_rfl) (by kernel_rfl) (by kernel_rfl) (fun _ _ _ h => h) (Or.inl ⟨by rfl, ?y10n5k11⟩) hHeld ?z10n5k11
    case y10n5k11 => intro w hSw; (try dsimp only at hSw); go_simp <;> rfl
    try simp only [Act.put, List.setIfInBounds_toArray, List.set_cons_zero, List.set_cons_succ]
    refine wpAnyT_ready (rs := [11]) (by kernel_rfl) (by simp) ?_
    refine AllReadyT.cons (o := ⟨some 25, Op.buildSlice 24 1 #[(0, Operand.tmp 24)], 24, _, _, none⟩) rfl (fun K hK => ?_) AllReadyT.nil
    go_simp
    refine hK.out _ _ (CE.out _ ((Kept.alloc _ _ _).step (Kept.drew _ _))) (fun hHeld => ?_)
    clear hK K
    try simp only [Act.put, List.setIfInBounds_toArray, List.set_cons_zero, List.set_cons_succ]
    refine wpAnyT_ready (rs := [12]) (by kernel_rfl) (by simp) ?_
    refine AllReadyT.cons (o := ⟨some 26, Op.call { callee := Callee.value (Operand.func 113), args := #[Operand.tmp 18, Operand.tmp 19, Operand.tmp 25], argTypes := #[24, 3, 24] }, 24, _, _, none⟩) rfl (fun K hK => ?_) AllReadyT.nil
    go_simp
    refine (INS.out _ _ ((Kept.alloc _ _ _).step (Kept.drew _ _)) (show (w1.alloc _).heap[_]? = _ from heap_alloc_new _ _) (Nat.le_refl _)).mono ?_
    rintro e w2 ⟨A', c', rfl, y, yf, hb0, hb1, d2⟩
    dsimp only
    refine hK.out _ _ y (fun hHeld => ?_)
    clear hK K
    try simp only [Act.put, List.setIfInBounds_toArray, List.set_cons_zero, List.set_cons_succ]
    refine wpAnyT_done (by kernel_rfl) ?_
    simp only [List.drop_succ_cons, List.drop_zero]
    have D2 := Lib.hid d2
    have hy := y.1
    obtain ⟨r0, r1⟩ := rep_cells hb1
    have f0 : (w2.setCell ⟨b, 2, none⟩ (.slice A' (n + 1) c')).frozen? ⟨w.heap.size + 1, 0, none⟩ = false := frozen_of_row _ _ _ _ _ hb1
    have f1 : (w2.setCell ⟨b, 2, none⟩ (.slice A' (n + 1) c')).frozen? ⟨w.heap.size + 1, 1, none⟩ = false := frozen_of_row _ _ _ _ _ hb1
    clear y d2 hHeld hb1 CE INS
    go_wp2
    refine NoPanic.normal ?_
    go_wp2
    change bodyPost _ _ _ _ _ (setR (w2.setCell ⟨b, 2, none⟩ (.slice A' (n + 1) c')) (w.heap.size + 1) (told 0))
    generalize setR (w2.setCell ⟨b, 2, none⟩ (.slice A' (n + 1) c')) (w.heap.size + 1) (told 0) = v at hb0 D2 ⊢
    obtain ⟨d0, d1⟩ := rep_cells hb0
    refine bodyPost_ret (v := (told 0).val) (by simp [results, Tryz.results108, go_sem, RepV.val, Tryz.isAgg61, Tryz.sizeOf61, d0, d1]) rfl ?_
    rw [E0.out]
    exact ⟨rfl, D2.out⟩
end Go.Proofs.YthmjjhjblokjeaaGreat
