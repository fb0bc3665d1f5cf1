/-
  The walk of EditsBytes. No statement is proved here.
-/
import Derived.Test.YtjijdkdpmbfdmaaL10EdPl
import Derived.Test.YtjijdkdpmbfdmaaTail
namespace Go.Proofs.Ytjijdkdpmbfdmaa
open Go.RowKit Tot

set_option maxRecDepth 100000 in
set_option maxHeartbeats 4000000 in
theorem ebytes10_walk (F : Nat → Prop) (a : Option Addr) (n cp : Nat) (ss : List StepV) (r : EditV) (A : Option Addr) (ca : Nat) (D : Option Addr) (cd : Nat) (w : World) (hv : Ev w (fun i => i < w.heap.size) r A ca D cd) (hrf : ∀ x ∈ r.add, Fit x.from_ ∧ Fit x.to_) (hrd : ∀ s ∈ r.drop, s.size ≤ 1048576) (hfl : Fit r.floor) (h : Lies w F a (stepCells ss)) (hx : ∀ x ∈ ss, x.lies F w ∧ x.any.name.size ≤ 1048576) (hl : ss.length = n) (hnc : n ≤ cp) :
    Calls Try.prog 5 #[.slice a n cp, evl r A ca D cd] w fun e w' => e = .returned (.bool true) ∧ Kept noBlock w w' := by
  obtain ⟨M, hM⟩ : ∃ M, M = min n 20 := ⟨_, rfl⟩
  have q1 : (if (20 : Int) < (n : Int) then (20 : Int) else (n : Int)) = (M : Int) := by split <;> omega
  have q2 : min (n : Int) 20 = (M : Int) := by omega
  have i1 : (M : Int) ≤ cp := by omega
  have hM20 : M ≤ 20 := by omega
  have hMn : M ≤ n := by omega
  obtain ⟨na, hna⟩ : ∃ na, na = r.add.length := ⟨_, rfl⟩
  obtain ⟨nd, hnd⟩ : ∃ nd, nd = r.drop.length := ⟨_, rfl⟩
  obtain ⟨fl, hf⟩ : ∃ fl, fl = r.floor := ⟨_, rfl⟩
  obtain ⟨MA, hMA⟩ : ∃ M, M = min na 20 := ⟨_, rfl⟩
  obtain ⟨MD, hMD⟩ : ∃ M, M = min nd 20 := ⟨_, rfl⟩
  have q3 : (if (20 : Int) < (na : Int) then (20 : Int) else (na : Int)) = (MA : Int) := by split <;> omega
  have q4 : min (na : Int) 20 = (MA : Int) := by omega
  have q5 : (if (20 : Int) < (nd : Int) then (20 : Int) else (nd : Int)) = (MD : Int) := by split <;> omega
  have q6 : min (nd : Int) 20 = (MD : Int) := by omega
  have hca := hv.ca
  have hcb := hv.cb
  rw [← hna] at hca
  rw [← hnd] at hcb
  have i3 : (MA : Int) ≤ ca := by omega
  have i4 : (MD : Int) ≤ cd := by omega
  have hMA20 : MA ≤ 20 := by omega
  have hMD20 : MD ≤ 20 := by omega
  obtain ⟨LA, hLA⟩ : ∃ LA, LA = r.add.take MA := ⟨_, rfl⟩
  obtain ⟨LD, hLD⟩ : ∃ LD, LD = r.drop.take MD := ⟨_, rfl⟩
  have hLAl : LA.length = MA := by rw [hLA, List.length_take]; omega
  have hLDl : LD.length = MD := by rw [hLD, List.length_take]; omega
  have VA : Hid (Lies w (fun i => i < w.heap.size) A (refCells LA)) := by
    unfold Hid
    have e : refCells LA = (refCells r.add).take (MA * 4) := by
      have h1 : refCells r.add = refCells LA ++ refCells (r.add.drop MA) := by rw [← refCells_append, hLA, List.take_append_drop]
      rw [h1, ← hLAl, ← refCells_length, List.take_left' rfl]
    rw [e]
    exact hv.la.take _
  have VD : Hid (Lies w (fun i => i < w.heap.size) D (LD.map Value.string)) := by
    unfold Hid
    rw [hLD, List.map_take]
    exact hv.ld.take _
  have HFA : Hid (∀ x ∈ LA, Fit x.from_ ∧ Fit x.to_) := fun x hx => hrf x (by rw [hLA] at hx; exact List.mem_of_mem_take hx)
  have HFD : Hid (∀ s ∈ LD, s.size ≤ 1048576) := fun x hx => hrd x (by rw [hLD] at hx; exact List.mem_of_mem_take hx)
  have HFF : Hid (Fit fl) := by unfold Hid; rw [hf]; exact hfl
  have H := Lib.hid h
  have HX := Lib.hid hx
  have HL := Lib.hid hl
  have HLA := Lib.hid hLAl
  have HLD := Lib.hid hLDl
  have ka := Kept.alloc noBlock w (.cells #[.slice A na ca, .slice D nd cd, .int .i64 fl] 36)
  have ha := heap_alloc_new w (.cells #[.slice A na ca, .slice D nd cd, .int .i64 fl] 36)
  unfold evl
  rw [← hna, ← hnd, ← hf]
  clear h hx hl hM hv hrf hrd hfl hna hnd hf hMA hMD hLA hLD hLAl hLDl
  go_enter Try.func5, Try.ntmps5
  go_upto_region 1 with (fail)
  obtain ⟨T, hT⟩ : ∃ T, T = w.heap.size := ⟨_, rfl⟩
  rw [← hT] at ha ⊢
  generalize w.alloc (.cells #[.slice A na ca, .slice D nd cd, .int .i64 fl] 36) = u0 at ka ha ⊢
  have K0 := Lib.hid ka
  have T0 := Lib.hid ha
  clear ka ha
  go_wp2_with fail
  refine (awake10_any u0).mono ?_
  rintro en w1 ⟨rfl, k1⟩
  have K1 := Lib.hid (K0.out.step k1)
  have T1 := Lib.hid (k1.blk T0.out (fun h => h))
  have hwT : w.heap.size ≤ T := by omega
  have HT1 : Hid (T < w1.heap.size) := lt_of_blk T1.out
  clear k1 K0 T0 hT
  go_upto_region 3 with (fail)
  go_cut [] (fun wc => ∃ (B : Option Addr) (cb : Nat), Hid (wc.heap[T]? = some (.cells #[.slice B MA cb, .slice D MD cd, .int .i64 fl] 36 (0, 0))) ∧ Hid (wc.ownsRow 0 31 4 (.slice B MA cb) MA (refCells LA)) ∧ Hid (∀ i, (Value.slice B MA cb).ownBlock = some i → T < i) ∧ Hid (Kept noBlock w wc))
  case first =>
    have KC : Hid (Kept noBlock w1 w1.drew) := Kept.drew _ _
    have C0 : Hid (∀ u, Kept noBlock w1 u → u.cell? ⟨T, 0, none⟩ = some (.slice A na ca)) := fun u k => (ed_cells (k.blk T1.out (fun h => h))).1
    have C1 : Hid (∀ u, Kept (fun i => w1.heap.size ≤ i) w1 u → u.cell? ⟨T, 1, none⟩ = some (.slice D nd cd)) := fun u k => (ed_cells (k.blk T1.out (fun h => by have := HT1.out; omega))).2.1
    refine wp_region_noPanic ?_
    refine wp_region_any_drew (by kernel_rfl) ?_
    refine wpAny_tail (S := fun u => u.cell? ⟨T, 1, none⟩ = some (.slice D nd cd)) 18 18 (C1.out _ (Kept.to KC.out)) (fun hHeld => ?_)
    refine wpAnyT_take (i := 0) (oi := ⟨some 18, Op.fieldAddr 36 (Operand.tmp 3) 0, 0, _, _, none⟩) (v := ?v0n1k1) rfl (by kernel_rfl) (by kernel_rfl) (by kernel_rfl) (fun _ _ _ h => h) (Or.inl ⟨by rfl, ?y0n1k1⟩) hHeld ?z0n1k1
    case y0n1k1 => intro w hSw; (try dsimp only at hSw); go_simp <;> rfl
    try simp only [Act.put, List.setIfInBounds_toArray, List.set_cons_zero, List.set_cons_succ]
    refine wpAnyT_take (i := 2) (oi := ⟨some 20, Op.fieldAddr 36 (Operand.tmp 3) 0, 0, _, _, none⟩) (v := ?v2n1k2) rfl (by kernel_rfl) (by kernel_rfl) (by kernel_rfl) (fun _ _ _ h => h) (Or.inl ⟨by rfl, ?y2n1k2⟩) hHeld ?z2n1k2
    case y2n1k2 => intro w hSw; (try dsimp only at hSw); go_simp <;> rfl
    try simp only [Act.put, List.setIfInBounds_toArray, List.set_cons_zero, List.set_cons_succ]
    refine wpAnyT_take (i := 8) (oi := ⟨some 26, Op.fieldAddr 36 (Operand.tmp 3) 1, 0, _, _, none⟩) (v := ?v8n1k3) rfl (by kernel_rfl) (by kernel_rfl) (by kernel_rfl) (fun _ _ _ h => h) (Or.inl ⟨by rfl, ?y8n1k3⟩) hHeld ?z8n1k3
    case y8n1k3 => intro w hSw; (try dsimp only at hSw); go_simp <;> rfl
    try simp only [Act.put, List.setIfInBounds_toArray, List.set_cons_zero, List.set_cons_succ]
    refine wpAnyT_take (i := 9) (oi := ⟨some 27, Op.load 34 (Operand.tmp 26), 34, _, _, none⟩) (v := ?v9n1k4) rfl (by kernel_rfl) (by kernel_rfl) (by kernel_rfl) (fun _ _ _ h => h) (Or.inl ⟨by rfl, ?y9n1k4⟩) hHeld ?z9n1k4
    case y9n1k4 => intro w hSw; (try dsimp only at hSw); go_simp <;> rfl
    try simp only [Act.put, List.setIfInBounds_toArray, List.set_cons_zero, List.set_cons_succ]
    refine wpAnyT_take (i := 10) (oi := ⟨some 28, Op.fieldAddr 36 (Operand.tmp 3) 1, 0, _, _, none⟩) (v := ?v10n1k5) rfl (by kernel_rfl) (by kernel_rfl) (by kernel_rfl) (fun _ _ _ h => h) (Or.inl ⟨by rfl, ?y10n1k5⟩) hHeld ?z10n1k5
    case y10n1k5 => intro w hSw; (try dsimp only at hSw); go_simp <;> rfl
    try simp only [Act.put, List.setIfInBounds_toArray, List.set_cons_zero, List.set_cons_succ]
    refine wpAnyT_take (i := 11) (oi := ⟨some 29, Op.load 34 (Operand.tmp 28), 34, _, _, none⟩) (v := ?v11n1k6) rfl (by kernel_rfl) (by kernel_rfl) (by kernel_rfl) (fun _ _ _ h => h) (Or.inl ⟨by rfl, ?y11n1k6⟩) hHeld ?z11n1k6
    case y11n1k6 => intro w hSw; (try dsimp only at hSw); go_simp <;> rfl
    try simp only [Act.put, List.setIfInBounds_toArray, List.set_cons_zero, List.set_cons_succ]
    refine wpAnyT_take (i := 12) (oi := ⟨some 30, Op.call { callee := Callee.builtin Builtin.len, args := #[Operand.tmp 29], argTypes := #[34] }, 3, _, _, none⟩) (v := ?v12n1k7) rfl (by kernel_rfl) (by kernel_rfl) (by kernel_rfl) (fun _ _ _ h => h) (Or.inl ⟨by rfl, ?y12n1k7⟩) hHeld ?z12n1k7
    case y12n1k7 => intro w hSw; (try dsimp only at hSw); go_simp <;> rfl
    try simp only [Act.put, List.setIfInBounds_toArray, List.set_cons_zero, List.set_cons_succ]
    refine wpAnyT_take (i := 13) (oi := ⟨some 31, Op.call { callee := Callee.builtin Builtin.min, args := #[Operand.tmp 30, Operand.const (Value.int IntKind.i64 20)], argTypes := #[3, 3] }, 3, _, _, none⟩) (v := ?v13n1k8) rfl (by kernel_rfl) (by kernel_rfl) (by kernel_rfl) (fun _ _ _ h => h) (Or.inl ⟨by rfl, ?y13n1k8⟩) hHeld ?z13n1k8
    case y13n1k8 => intro w hSw; (try dsimp only at hSw); go_simp <;> rfl
    try simp only [Act.put, List.setIfInBounds_toArray, List.set_cons_zero, List.set_cons_succ]
    refine wpAnyT_take (i := 14) (oi := ⟨some 32, Op.slice 34 (Operand.tmp 27) none (some (Operand.tmp 31)) none, 34, _, _, none⟩) (v := ?v14n1k9) rfl (by kernel_rfl) (by kernel_rfl) (by kernel_rfl) (fun _ _ _ h => h) (Or.inl ⟨by rfl, ?y14n1k9⟩) hHeld ?z14n1k9
    case y14n1k9 => intro w hSw; (try dsimp only at hSw); go_simp <;> rfl
    try simp only [Act.put, List.setIfInBounds_toArray, List.set_cons_zero, List.set_cons_succ]
    refine wpAnyT_ready (rs := [1, 3]) (by kernel_rfl) (by simp) ?_
    refine (AllReadyT.cons (o := ⟨some 19, Op.load 24 (Operand.tmp 18), 24, _, _, none⟩) rfl (fun K hK => ?b1n1k11) (AllReadyT.cons (o := ⟨some 21, Op.load 24 (Operand.tmp 20), 24, _, _, none⟩) rfl (fun K hK => ?b3n1k10) AllReadyT.nil))
    case b1n1k11 =>
      have hc0 := C0.out _ KC.out
      go_simp
      clear hc0
      refine hK.out _ _ (C1.out _ (Kept.to KC.out)) (fun hHeld => ?_)
      clear hK K
      try simp only [Act.put, List.setIfInBounds_toArray, List.set_cons_zero, List.set_cons_succ]
      refine wpAnyT_ready (rs := [3]) (by kernel_rfl) (by simp) ?_
      refine AllReadyT.cons (o := ⟨some 21, Op.load 24 (Operand.tmp 20), 24, _, _, none⟩) rfl (fun K hK => ?_) AllReadyT.nil
      have hc0 := C0.out _ KC.out
      go_simp
      clear hc0
      refine hK.out _ _ (C1.out _ (Kept.to KC.out)) (fun hHeld => ?_)
      clear hK K
      try simp only [Act.put, List.setIfInBounds_toArray, List.set_cons_zero, List.set_cons_succ]
      refine wpAnyT_take (i := 4) (oi := ⟨some 22, Op.call { callee := Callee.builtin Builtin.len, args := #[Operand.tmp 21], argTypes := #[24] }, 3, _, _, none⟩) (v := ?v4n1k12) rfl (by kernel_rfl) (by kernel_rfl) (by kernel_rfl) (fun _ _ _ h => h) (Or.inl ⟨by rfl, ?y4n1k12⟩) hHeld ?z4n1k12
      case y4n1k12 => intro w hSw; (try dsimp only at hSw); go_simp <;> rfl
      try simp only [Act.put, List.setIfInBounds_toArray, List.set_cons_zero, List.set_cons_succ]
      refine wpAnyT_take (i := 5) (oi := ⟨some 23, Op.call { callee := Callee.builtin Builtin.min, args := #[Operand.tmp 22, Operand.const (Value.int IntKind.i64 20)], argTypes := #[3, 3] }, 3, _, _, none⟩) (v := ?v5n1k13) rfl (by kernel_rfl) (by kernel_rfl) (by kernel_rfl) (fun _ _ _ h => h) (Or.inl ⟨by rfl, ?y5n1k13⟩) hHeld ?z5n1k13
      case y5n1k13 => intro w hSw; (try dsimp only at hSw); go_simp <;> rfl
      try simp only [Act.put, List.setIfInBounds_toArray, List.set_cons_zero, List.set_cons_succ]
      refine wpAnyT_take (i := 6) (oi := ⟨some 24, Op.slice 24 (Operand.tmp 19) none (some (Operand.tmp 23)) none, 24, _, _, none⟩) (v := ?v6n1k14) rfl (by kernel_rfl) (by kernel_rfl) (by kernel_rfl) (fun _ _ _ h => h) (Or.inl ⟨by rfl, ?y6n1k14⟩) hHeld ?z6n1k14
      case y6n1k14 => intro w hSw; (try dsimp only at hSw); go_simp <;> rfl
      try simp only [Act.put, List.setIfInBounds_toArray, List.set_cons_zero, List.set_cons_succ]
      refine wpAnyT_ready (rs := [7]) (by kernel_rfl) (by simp) ?_
      refine AllReadyT.cons (o := ⟨some 25, Op.call { callee := Callee.builtin Builtin.append, args := #[Operand.const (Value.slice none 0 0), Operand.tmp 24], argTypes := #[24, 24] }, 24, _, _, none⟩) rfl (fun K hK => ?_) AllReadyT.nil
      refine step_append_src rfl _ _ 24 24 rfl 31 noRef.val 4 40 Try.underlying24 Try.infoRef rfl (.slice none 0 0) 0 [] rfl (World.ownsRow_nil _ _ _ _) (.slice A MA ca) MA (refCells LA) rfl (src_sl ((VA.out.keep (K1.out.step KC.out) (fun _ _ h => h))) (by rw [refCells_length, HLA.out]) (one_refs _)) (by unfold maxLen; omega) (by omega) ?_
      intro B9 c9 u9 o9 k9 a9
      try simp only [Nat.zero_add, List.nil_append] at o9
      try simp only [Nat.zero_add] at a9
      try simp only [Nat.zero_add]
      have O9 : Hid (u9.ownsRow 0 31 4 (.slice B9 MA c9) MA (refCells LA)) := o9
      have HB9 : Hid (∀ i, (Value.slice B9 MA c9).ownBlock = some i → w1.heap.size ≤ i) := fun i hi => by
        rcases a9 i hi with h | h
        · simp [Value.ownBlock] at h
        · exact Nat.le_trans KC.out.size h.1
      replace KC := Lib.hid (KC.out.step (k9.mono (T := noBlock) (fun _ _ h => by simp [Value.ownBlock] at h)))
      clear o9 k9 a9
      refine hK.out _ _ (C1.out _ (Kept.to KC.out)) (fun hHeld => ?_)
      clear hK K
      try simp only [Act.put, List.setIfInBounds_toArray, List.set_cons_zero, List.set_cons_succ]
      refine wpAnyT_take (i := 15) (oi := ⟨some 33, Op.fieldAddr 36 (Operand.tmp 3) 0, 0, _, _, none⟩) (v := ?v15n1k15) rfl (by kernel_rfl) (by kernel_rfl) (by kernel_rfl) (fun _ _ _ h => h) (Or.inl ⟨by rfl, ?y15n1k15⟩) hHeld ?z15n1k15
      case y15n1k15 => intro w hSw; (try dsimp only at hSw); go_simp <;> rfl
      try simp only [Act.put, List.setIfInBounds_toArray, List.set_cons_zero, List.set_cons_succ]
      refine wpAnyT_ready (rs := [16]) (by kernel_rfl) (by simp) ?_
      refine AllReadyT.cons (o := ⟨none, Op.store 24 (Operand.tmp 33) (Operand.tmp 25), 0, _, _, none⟩) rfl (fun K hK => ?_) AllReadyT.nil
      have hb := KC.out.blk T1.out (fun h => h)
      have hc0 := C0.out _ KC.out
      have hf0 : u9.frozen? ⟨T, 0, none⟩ = false := frozen_of_row _ _ _ _ _ hb
      have ks : Kept (fun i => i = T) u9 (u9.setCell ⟨T, 0, none⟩ (.slice B9 MA c9)) := Kept.setCell u9 (by rfl) _
      have hz := heap_setCell_same u9 T 0 _ 36 (.slice B9 MA c9) hb
      have HZ : Hid ((u9.setCell ⟨T, 0, none⟩ (.slice B9 MA c9)).heap[T]? = some (.cells #[.slice B9 MA c9, .slice D nd cd, .int .i64 fl] 36 (0, 0))) := by unfold Hid; simpa using hz
      have KZ : Hid (Kept (fun i => i = T) w1 (u9.setCell ⟨T, 0, none⟩ (.slice B9 MA c9))) := KC.out.to.step ks
      have OZ := Lib.hid (own_keep O9.out ks (fun i hi e => by have := HB9.out i hi; have := HT1.out; omega))
      clear hb ks hz
      go_simp
      clear hc0 hf0
      refine hK.out _ _ (ed_cells HZ.out).2.1 (fun hHeld => ?_)
      clear hK K
      try simp only [Act.put, List.setIfInBounds_toArray, List.set_cons_zero, List.set_cons_succ]
      refine wpAnyT_take (i := 17) (oi := ⟨some 34, Op.fieldAddr 36 (Operand.tmp 3) 1, 0, _, _, none⟩) (v := ?v17n1k16) rfl (by kernel_rfl) (by kernel_rfl) (by kernel_rfl) (fun _ _ _ h => h) (Or.inl ⟨by rfl, ?y17n1k16⟩) hHeld ?z17n1k16
      case y17n1k16 => intro w hSw; (try dsimp only at hSw); go_simp <;> rfl
      try simp only [Act.put, List.setIfInBounds_toArray, List.set_cons_zero, List.set_cons_succ]
      refine wpAnyT_done (by kernel_rfl) ?_
      simp only [List.drop_succ_cons, List.drop_zero]
      have hb2 := HZ.out
      obtain ⟨t0, t1, t2⟩ := ed_cells hb2
      have hf1 := frozen_of_row _ _ 1 _ _ hb2
      have hz2 := heap_setCell_same _ T 1 _ 36 (.slice D MD cd) hb2
      have ks2 : Kept (fun i => i = T) (u9.setCell ⟨T, 0, none⟩ (.slice B9 MA c9)) ((u9.setCell ⟨T, 0, none⟩ (.slice B9 MA c9)).setCell ⟨T, 1, none⟩ (.slice D MD cd)) := Kept.setCell _ (by rfl) _
      have RT : Hid (((u9.setCell ⟨T, 0, none⟩ (.slice B9 MA c9)).setCell ⟨T, 1, none⟩ (.slice D MD cd)).heap[T]? = some (.cells #[.slice B9 MA c9, .slice D MD cd, .int .i64 fl] 36 (0, 0))) := by unfold Hid; simpa using hz2
      have RO := Lib.hid (own_keep OZ.out ks2 (fun i hi e => by have := HB9.out i hi; have := HT1.out; omega))
      have RB : Hid (∀ i, (Value.slice B9 MA c9).ownBlock = some i → T < i) := fun i hi => by have := HB9.out i hi; have := HT1.out; omega
      have RK : Hid (Kept noBlock w ((u9.setCell ⟨T, 0, none⟩ (.slice B9 MA c9)).setCell ⟨T, 1, none⟩ (.slice D MD cd))) := K1.out.trans (KZ.out.step ks2) (fun i hi e => by omega)
      clear hb2 hz2 ks2
      go_wp2
      refine NoPanic.normal ?_
      go_wp2
      go_meet
      case rel => exact ⟨B9, c9, RT, RO, RB, RK⟩
    case b3n1k10 =>
      have hc0 := C0.out _ KC.out
      go_simp
      clear hc0
      refine hK.out _ _ (C1.out _ (Kept.to KC.out)) (fun hHeld => ?_)
      clear hK K
      try simp only [Act.put, List.setIfInBounds_toArray, List.set_cons_zero, List.set_cons_succ]
      refine wpAnyT_take (i := 4) (oi := ⟨some 22, Op.call { callee := Callee.builtin Builtin.len, args := #[Operand.tmp 21], argTypes := #[24] }, 3, _, _, none⟩) (v := ?v4n1k17) rfl (by kernel_rfl) (by kernel_rfl) (by kernel_rfl) (fun _ _ _ h => h) (Or.inl ⟨by rfl, ?y4n1k17⟩) hHeld ?z4n1k17
      case y4n1k17 => intro w hSw; (try dsimp only at hSw); go_simp <;> rfl
      try simp only [Act.put, List.setIfInBounds_toArray, List.set_cons_zero, List.set_cons_succ]
      refine wpAnyT_take (i := 5) (oi := ⟨some 23, Op.call { callee := Callee.builtin Builtin.min, args := #[Operand.tmp 22, Operand.const (Value.int IntKind.i64 20)], argTypes := #[3, 3] }, 3, _, _, none⟩) (v := ?v5n1k18) rfl (by kernel_rfl) (by kernel_rfl) (by kernel_rfl) (fun _ _ _ h => h) (Or.inl ⟨by rfl, ?y5n1k18⟩) hHeld ?z5n1k18
      case y5n1k18 => intro w hSw; (try dsimp only at hSw); go_simp <;> rfl
      try simp only [Act.put, List.setIfInBounds_toArray, List.set_cons_zero, List.set_cons_succ]
      refine wpAnyT_ready (rs := [1]) (by kernel_rfl) (by simp) ?_
      refine AllReadyT.cons (o := ⟨some 19, Op.load 24 (Operand.tmp 18), 24, _, _, none⟩) rfl (fun K hK => ?_) AllReadyT.nil
      have hc0 := C0.out _ KC.out
      go_simp
      clear hc0
      refine hK.out _ _ (C1.out _ (Kept.to KC.out)) (fun hHeld => ?_)
      clear hK K
      try simp only [Act.put, List.setIfInBounds_toArray, List.set_cons_zero, List.set_cons_succ]
      refine wpAnyT_take (i := 6) (oi := ⟨some 24, Op.slice 24 (Operand.tmp 19) none (some (Operand.tmp 23)) none, 24, _, _, none⟩) (v := ?v6n1k19) rfl (by kernel_rfl) (by kernel_rfl) (by kernel_rfl) (fun _ _ _ h => h) (Or.inl ⟨by rfl, ?y6n1k19⟩) hHeld ?z6n1k19
      case y6n1k19 => intro w hSw; (try dsimp only at hSw); go_simp <;> rfl
      try simp only [Act.put, List.setIfInBounds_toArray, List.set_cons_zero, List.set_cons_succ]
      refine wpAnyT_ready (rs := [7]) (by kernel_rfl) (by simp) ?_
      refine AllReadyT.cons (o := ⟨some 25, Op.call { callee := Callee.builtin Builtin.append, args := #[Operand.const (Value.slice none 0 0), Operand.tmp 24], argTypes := #[24, 24] }, 24, _, _, none⟩) rfl (fun K hK => ?_) AllReadyT.nil
      refine step_append_src rfl _ _ 24 24 rfl 31 noRef.val 4 40 Try.underlying24 Try.infoRef rfl (.slice none 0 0) 0 [] rfl (World.ownsRow_nil _ _ _ _) (.slice A MA ca) MA (refCells LA) rfl (src_sl ((VA.out.keep (K1.out.step KC.out) (fun _ _ h => h))) (by rw [refCells_length, HLA.out]) (one_refs _)) (by unfold maxLen; omega) (by omega) ?_
      intro B9 c9 u9 o9 k9 a9
      try simp only [Nat.zero_add, List.nil_append] at o9
      try simp only [Nat.zero_add] at a9
      try simp only [Nat.zero_add]
      have O9 : Hid (u9.ownsRow 0 31 4 (.slice B9 MA c9) MA (refCells LA)) := o9
      have HB9 : Hid (∀ i, (Value.slice B9 MA c9).ownBlock = some i → w1.heap.size ≤ i) := fun i hi => by
        rcases a9 i hi with h | h
        · simp [Value.ownBlock] at h
        · exact Nat.le_trans KC.out.size h.1
      replace KC := Lib.hid (KC.out.step (k9.mono (T := noBlock) (fun _ _ h => by simp [Value.ownBlock] at h)))
      clear o9 k9 a9
      refine hK.out _ _ (C1.out _ (Kept.to KC.out)) (fun hHeld => ?_)
      clear hK K
      try simp only [Act.put, List.setIfInBounds_toArray, List.set_cons_zero, List.set_cons_succ]
      refine wpAnyT_take (i := 15) (oi := ⟨some 33, Op.fieldAddr 36 (Operand.tmp 3) 0, 0, _, _, none⟩) (v := ?v15n1k20) rfl (by kernel_rfl) (by kernel_rfl) (by kernel_rfl) (fun _ _ _ h => h) (Or.inl ⟨by rfl, ?y15n1k20⟩) hHeld ?z15n1k20
      case y15n1k20 => intro w hSw; (try dsimp only at hSw); go_simp <;> rfl
      try simp only [Act.put, List.setIfInBounds_toArray, List.set_cons_zero, List.set_cons_succ]
      refine wpAnyT_ready (rs := [16]) (by kernel_rfl) (by simp) ?_
      refine AllReadyT.cons (o := ⟨none, Op.store 24 (Operand.tmp 33) (Operand.tmp 25), 0, _, _, none⟩) rfl (fun K hK => ?_) AllReadyT.nil
      have hb := KC.out.blk T1.out (fun h => h)
      have hc0 := C0.out _ KC.out
      have hf0 : u9.frozen? ⟨T, 0, none⟩ = false := frozen_of_row _ _ _ _ _ hb
      have ks : Kept (fun i => i = T) u9 (u9.setCell ⟨T, 0, none⟩ (.slice B9 MA c9)) := Kept.setCell u9 (by rfl) _
      have hz := heap_setCell_same u9 T 0 _ 36 (.slice B9 MA c9) hb
      have HZ : Hid ((u9.setCell ⟨T, 0, none⟩ (.slice B9 MA c9)).heap[T]? = some (.cells #[.slice B9 MA c9, .slice D nd cd, .int .i64 fl] 36 (0, 0))) := by unfold Hid; simpa using hz
      have KZ : Hid (Kept (fun i => i = T) w1 (u9.setCell ⟨T, 0, none⟩ (.slice B9 MA c9))) := KC.out.to.step ks
      have OZ := Lib.hid (own_keep O9.out ks (fun i hi e => by have := HB9.out i hi; have := HT1.out; omega))
      clear hb ks hz
      go_simp
      clear hc0 hf0
      refine hK.out _ _ (ed_cells HZ.out).2.1 (fun hHeld => ?_)
      clear hK K
      try simp only [Act.put, List.setIfInBounds_toArray, List.set_cons_zero, List.set_cons_succ]
      refine wpAnyT_take (i := 17) (oi := ⟨some 34, Op.fieldAddr 36 (Operand.tmp 3) 1, 0, _, _, none⟩) (v := ?v17n1k21) rfl (by kernel_rfl) (by kernel_rfl) (by kernel_rfl) (fun _ _ _ h => h) (Or.inl ⟨by rfl, ?y17n1k21⟩) hHeld ?z17n1k21
      case y17n1k21 => intro w hSw; (try dsimp only at hSw); go_simp <;> rfl
      try simp only [Act.put, List.setIfInBounds_toArray, List.set_cons_zero, List.set_cons_succ]
      refine wpAnyT_done (by kernel_rfl) ?_
      simp only [List.drop_succ_cons, List.drop_zero]
      have hb2 := HZ.out
      obtain ⟨t0, t1, t2⟩ := ed_cells hb2
      have hf1 := frozen_of_row _ _ 1 _ _ hb2
      have hz2 := heap_setCell_same _ T 1 _ 36 (.slice D MD cd) hb2
      have ks2 : Kept (fun i => i = T) (u9.setCell ⟨T, 0, none⟩ (.slice B9 MA c9)) ((u9.setCell ⟨T, 0, none⟩ (.slice B9 MA c9)).setCell ⟨T, 1, none⟩ (.slice D MD cd)) := Kept.setCell _ (by rfl) _
      have RT : Hid (((u9.setCell ⟨T, 0, none⟩ (.slice B9 MA c9)).setCell ⟨T, 1, none⟩ (.slice D MD cd)).heap[T]? = some (.cells #[.slice B9 MA c9, .slice D MD cd, .int .i64 fl] 36 (0, 0))) := by unfold Hid; simpa using hz2
      have RO := Lib.hid (own_keep OZ.out ks2 (fun i hi e => by have := HB9.out i hi; have := HT1.out; omega))
      have RB : Hid (∀ i, (Value.slice B9 MA c9).ownBlock = some i → T < i) := fun i hi => by have := HB9.out i hi; have := HT1.out; omega
      have RK : Hid (Kept noBlock w ((u9.setCell ⟨T, 0, none⟩ (.slice B9 MA c9)).setCell ⟨T, 1, none⟩ (.slice D MD cd))) := K1.out.trans (KZ.out.step ks2) (fun i hi e => by omega)
      clear hb2 hz2 ks2
      go_wp2
      refine NoPanic.normal ?_
      go_wp2
      go_meet
      case rel => exact ⟨B9, c9, RT, RO, RB, RK⟩
  case rest =>
    obtain ⟨B, cb, HT, HO, HOB, KW⟩ := hcut
    obtain ⟨v0, hv0⟩ : ∃ v0, v0 = wc := ⟨_, rfl⟩
    subst hv0
    have hcb2 : MA ≤ cb := by obtain ⟨_, _, e, hle⟩ := own_form HO.out; injection e with _ _ e; omega
    obtain ⟨t0, t1, t2⟩ := ed_cells HT.out
    clear K1 T1 HT1 q3 q4 q5 q6
    go_wp2_with fail
    go_loopw [38] (fun i wr => ∃ (j : Nat) (C : List RefV), j ≤ MA ∧ i = .int .i64 (j : Int) ∧ Hid (CutTo LA C j) ∧ Hid (wr.heap[T]? = some (.cells #[.slice B MA cb, .slice D MD cd, .int .i64 fl] 36 (0, 0))) ∧ Hid (wr.ownsRow 0 31 4 (.slice B MA cb) MA (refCells C)) ∧ Hid (Kept noBlock w wr)) (fun i _ => MA - (intOf i).toNat)
    case atStart => exact ⟨0, LA, by omega, rfl, CutTo.start _, HT, HO, KW⟩
    case round =>
      obtain ⟨j, C, hjM, rfl, HC, HTR, HOR, KR⟩ := hrel
      by_cases hlt : j < MA
      · obtain ⟨x, hx⟩ : ∃ x, LA[j]? = some x := ⟨_, List.getElem?_eq_getElem (by have := HLA.out; omega)⟩
        have hcx := HC.out.at_ hx
        obtain ⟨g, o, hBg, _, cc⟩ := (Lies.of_rows (F := fun _ => True) HOR.out (fun _ _ => trivial)).elem (enc := RefV.cells) ref_len (by omega) hcx
        have ho0 : o = 0 := by
          obtain ⟨g', cap, hv, _, _⟩ := HOR.out.form (by omega)
          injection hv with h1
          rw [hBg] at h1
          injection h1 with h1
          injection h1 with _ h2
        subst ho0
        subst hBg
        have e0 := cc 0 _ rfl
        have e1 := cc 1 _ rfl
        have e2 := cc 2 _ rfl
        have e3 := cc 3 _ rfl
        simp only [Nat.zero_add, Nat.add_zero] at e0 e1 e2 e3
        have hTg : T < g := HOB.out g rfl
        have hgl : g < wr.heap.size := (HOR.out.lt g rfl).2
        obtain ⟨t0, t1, t2⟩ := ed_cells HTR.out
        obtain ⟨m6, hm6⟩ : ∃ m, m = min x.name.size 60 := ⟨_, rfl⟩
        have q7 : (if (60 : Int) < (x.name.size : Int) then (60 : Int) else (x.name.size : Int)) = (m6 : Int) := by split <;> omega
        have q8 : min (x.name.size : Int) 60 = (m6 : Int) := by omega
        have z1 := fun w => cut60_run w x.name m6 hm6
        have hand := and255 x.kind
        have ka := Kept.alloc noBlock wr (.cells #[.string x.name, .int .i64 x.kind, .int .i64 x.from_, .int .i64 x.to_] 31)
        have ha := heap_alloc_new wr (.cells #[.string x.name, .int .i64 x.kind, .int .i64 x.from_, .int .i64 x.to_] 31)
        have HXJ := Lib.hid hx
        have HCX := Lib.hid hcx
        have HJ := Lib.hid hlt
        clear cc hx hcx hm6
        go_upto_region 7 with (fail)
        obtain ⟨Y, hY⟩ : ∃ Y, Y = wr.heap.size := ⟨_, rfl⟩
        rw [← hY] at ha hgl ⊢
        generalize wr.alloc (.cells #[.string x.name, .int .i64 x.kind, .int .i64 x.from_, .int .i64 x.to_] 31) = w3 at ka ha ⊢
        have T3 := Lib.hid (ka.blk HTR.out (fun h => h))
        have Y3 := Lib.hid ha
        have O3 := Lib.hid (own_keep HOR.out ka (fun _ _ h => h))
        have K3 := Lib.hid (KR.out.step ka)
        have HYT : Hid (T < g ∧ g < Y) := ⟨hTg, hgl⟩
        have CE : Hid (∀ u, Kept (fun i => i = g) w3 u → u.cell? ⟨T, 0, none⟩ = some (.slice (some ⟨g, 0, none⟩) MA cb) ∧ u.cell? ⟨Y, 0, none⟩ = some (.string x.name) ∧ u.cell? ⟨Y, 1, none⟩ = some (.int .i64 x.kind)) := fun u k => by
          have h1 := ref_cells (k.blk Y3.out (fun e => by have := HYT.out; omega))
          exact ⟨(ed_cells (k.blk T3.out (fun e => by have := HYT.out; omega))).1, h1.1, h1.2.1⟩
        have KC : Hid (Kept noBlock w3 w3.drew) := Kept.drew _ _
        have HE0 := Lib.hid (ka.cell e0 (fun h => h))
        have HE1 := Lib.hid (ka.cell e1 (fun h => h))
        clear ka ha e0 e1 e2 e3 t0 t1 t2 hY hTg hgl HTR HOR KR
        refine wp_region_noPanic ?_
        refine wp_region_held_drew (S := fun u => u.cell? ⟨T, 0, none⟩ = some (.slice (some ⟨g, 0, none⟩) MA cb) ∧ u.cell? ⟨Y, 0, none⟩ = some (.string x.name) ∧ u.cell? ⟨Y, 1, none⟩ = some (.int .i64 x.kind)) (by kernel_rfl) (CE.out _ (Kept.to KC.out)) (fun hHeld => ?_)
        refine wpAnyH_take (i := 0) (oi := ⟨some 43, Op.fieldAddr 36 (Operand.tmp 3) 0, 0, _, _, none⟩) (v := ?v0n2k1) rfl (by kernel_rfl) (by kernel_rfl) (by kernel_rfl) (fun _ _ _ h => h) (Or.inl ⟨by rfl, ?y0n2k1⟩) hHeld ?z0n2k1
        case y0n2k1 => intro w hSw; (try dsimp only at hSw); go_simp <;> rfl
        try simp only [Act.put, List.setIfInBounds_toArray, List.set_cons_zero, List.set_cons_succ]
        refine wpAnyH_take (i := 1) (oi := ⟨some 44, Op.load 24 (Operand.tmp 43), 24, _, _, none⟩) (v := ?v1n2k2) rfl (by kernel_rfl) (by kernel_rfl) (by kernel_rfl) (fun _ _ _ h => h) (Or.inl ⟨by rfl, ?y1n2k2⟩) hHeld ?z1n2k2
        case y1n2k2 => intro w hSw; (try dsimp only at hSw); go_simp <;> rfl
        try simp only [Act.put, List.setIfInBounds_toArray, List.set_cons_zero, List.set_cons_succ]
        refine wpAnyH_take (i := 2) (oi := ⟨some 45, Op.move (Operand.tmp 5), 3, _, _, none⟩) (v := ?v2n2k3) rfl (by kernel_rfl) (by kernel_rfl) (by kernel_rfl) (fun _ _ _ h => h) (Or.inl ⟨by rfl, ?y2n2k3⟩) hHeld ?z2n2k3
        case y2n2k3 => intro w hSw; (try dsimp only at hSw); go_simp <;> rfl
        try simp only [Act.put, List.setIfInBounds_toArray, List.set_cons_zero, List.set_cons_succ]
        refine wpAnyH_take (i := 3) (oi := ⟨some 46, Op.fieldAddr 36 (Operand.tmp 3) 0, 0, _, _, none⟩) (v := ?v3n2k4) rfl (by kernel_rfl) (by kernel_rfl) (by kernel_rfl) (fun _ _ _ h => h) (Or.inl ⟨by rfl, ?y3n2k4⟩) hHeld ?z3n2k4
        case y3n2k4 => intro w hSw; (try dsimp only at hSw); go_simp <;> rfl
        try simp only [Act.put, List.setIfInBounds_toArray, List.set_cons_zero, List.set_cons_succ]
        refine wpAnyH_take (i := 4) (oi := ⟨some 47, Op.load 24 (Operand.tmp 46), 24, _, _, none⟩) (v := ?v4n2k5) rfl (by kernel_rfl) (by kernel_rfl) (by kernel_rfl) (fun _ _ _ h => h) (Or.inl ⟨by rfl, ?y4n2k5⟩) hHeld ?z4n2k5
        case y4n2k5 => intro w hSw; (try dsimp only at hSw); go_simp <;> rfl
        try simp only [Act.put, List.setIfInBounds_toArray, List.set_cons_zero, List.set_cons_succ]
        refine wpAnyH_take (i := 5) (oi := ⟨some 48, Op.move (Operand.tmp 5), 3, _, _, none⟩) (v := ?v5n2k6) rfl (by kernel_rfl) (by kernel_rfl) (by kernel_rfl) (fun _ _ _ h => h) (Or.inl ⟨by rfl, ?y5n2k6⟩) hHeld ?z5n2k6
        case y5n2k6 => intro w hSw; (try dsimp only at hSw); go_simp <;> rfl
        try simp only [Act.put, List.setIfInBounds_toArray, List.set_cons_zero, List.set_cons_succ]
        refine wpAnyH_take (i := 6) (oi := ⟨some 49, Op.fieldAddr 31 (Operand.tmp 6) 0, 0, _, _, none⟩) (v := ?v6n2k7) rfl (by kernel_rfl) (by kernel_rfl) (by kernel_rfl) (fun _ _ _ h => h) (Or.inl ⟨by rfl, ?y6n2k7⟩) hHeld ?z6n2k7
        case y6n2k7 => intro w hSw; (try dsimp only at hSw); go_simp <;> rfl
        try simp only [Act.put, List.setIfInBounds_toArray, List.set_cons_zero, List.set_cons_succ]
        refine wpAnyH_take (i := 7) (oi := ⟨some 50, Op.load 9 (Operand.tmp 49), 9, _, _, none⟩) (v := ?v7n2k8) rfl (by kernel_rfl) (by kernel_rfl) (by kernel_rfl) (fun _ _ _ h => h) (Or.inl ⟨by rfl, ?y7n2k8⟩) hHeld ?z7n2k8
        case y7n2k8 => intro w hSw; (try dsimp only at hSw); go_simp <;> rfl
        try simp only [Act.put, List.setIfInBounds_toArray, List.set_cons_zero, List.set_cons_succ]
        refine wpAnyH_take (i := 8) (oi := ⟨some 51, Op.fieldAddr 31 (Operand.tmp 6) 0, 0, _, _, none⟩) (v := ?v8n2k9) rfl (by kernel_rfl) (by kernel_rfl) (by kernel_rfl) (fun _ _ _ h => h) (Or.inl ⟨by rfl, ?y8n2k9⟩) hHeld ?z8n2k9
        case y8n2k9 => intro w hSw; (try dsimp only at hSw); go_simp <;> rfl
        try simp only [Act.put, List.setIfInBounds_toArray, List.set_cons_zero, List.set_cons_succ]
        refine wpAnyH_take (i := 9) (oi := ⟨some 52, Op.load 9 (Operand.tmp 51), 9, _, _, none⟩) (v := ?v9n2k10) rfl (by kernel_rfl) (by kernel_rfl) (by kernel_rfl) (fun _ _ _ h => h) (Or.inl ⟨by rfl, ?y9n2k10⟩) hHeld ?z9n2k10
        case y9n2k10 => intro w hSw; (try dsimp only at hSw); go_simp <;> rfl
        try simp only [Act.put, List.setIfInBounds_toArray, List.set_cons_zero, List.set_cons_succ]
        refine wpAnyH_take (i := 10) (oi := ⟨some 53, Op.call { callee := Callee.builtin Builtin.len, args := #[Operand.tmp 52], argTypes := #[9] }, 3, _, _, none⟩) (v := ?v10n2k11) rfl (by kernel_rfl) (by kernel_rfl) (by kernel_rfl) (fun _ _ _ h => h) (Or.inl ⟨by rfl, ?y10n2k11⟩) hHeld ?z10n2k11
        case y10n2k11 => intro w hSw; (try dsimp only at hSw); go_simp <;> rfl
        try simp only [Act.put, List.setIfInBounds_toArray, List.set_cons_zero, List.set_cons_succ]
        refine wpAnyH_take (i := 11) (oi := ⟨some 54, Op.call { callee := Callee.builtin Builtin.min, args := #[Operand.tmp 53, Operand.const (Value.int IntKind.i64 60)], argTypes := #[3, 3] }, 3, _, _, none⟩) (v := ?v11n2k12) rfl (by kernel_rfl) (by kernel_rfl) (by kernel_rfl) (fun _ _ _ h => h) (Or.inl ⟨by rfl, ?y11n2k12⟩) hHeld ?z11n2k12
        case y11n2k12 => intro w hSw; (try dsimp only at hSw); go_simp <;> rfl
        try simp only [Act.put, List.setIfInBounds_toArray, List.set_cons_zero, List.set_cons_succ]
        refine wpAnyH_take (i := 12) (oi := ⟨some 55, Op.slice 9 (Operand.tmp 50) none (some (Operand.tmp 54)) none, 9, _, _, none⟩) (v := ?v12n2k13) rfl (by kernel_rfl) (by kernel_rfl) (by kernel_rfl) (fun _ _ _ h => h) (Or.inl ⟨by rfl, ?y12n2k13⟩) hHeld ?z12n2k13
        case y12n2k13 => intro w hSw; (try dsimp only at hSw); go_simp <;> rfl
        try simp only [Act.put, List.setIfInBounds_toArray, List.set_cons_zero, List.set_cons_succ]
        refine wpAnyH_take (i := 13) (oi := ⟨some 56, Op.fieldAddr 31 (Operand.tmp 6) 1, 0, _, _, none⟩) (v := ?v13n2k14) rfl (by kernel_rfl) (by kernel_rfl) (by kernel_rfl) (fun _ _ _ h => h) (Or.inl ⟨by rfl, ?y13n2k14⟩) hHeld ?z13n2k14
        case y13n2k14 => intro w hSw; (try dsimp only at hSw); go_simp <;> rfl
        try simp only [Act.put, List.setIfInBounds_toArray, List.set_cons_zero, List.set_cons_succ]
        refine wpAnyH_take (i := 14) (oi := ⟨some 57, Op.load 29 (Operand.tmp 56), 29, _, _, none⟩) (v := ?v14n2k15) rfl (by kernel_rfl) (by kernel_rfl) (by kernel_rfl) (fun _ _ _ h => h) (Or.inl ⟨by rfl, ?y14n2k15⟩) hHeld ?z14n2k15
        case y14n2k15 => intro w hSw; (try dsimp only at hSw); go_simp <;> rfl
        try simp only [Act.put, List.setIfInBounds_toArray, List.set_cons_zero, List.set_cons_succ]
        refine wpAnyH_take (i := 15) (oi := ⟨some 58, Op.binOp BinOp.and 29 (Operand.tmp 57) (Operand.const (Value.int IntKind.i64 255)) 29, 29, _, _, none⟩) (v := ?v15n2k16) rfl (by kernel_rfl) (by kernel_rfl) (by kernel_rfl) (fun _ _ _ h => h) (Or.inl ⟨by rfl, ?y15n2k16⟩) hHeld ?z15n2k16
        case y15n2k16 => intro w hSw; (try dsimp only at hSw); go_simp <;> rfl
        try simp only [Act.put, List.setIfInBounds_toArray, List.set_cons_zero, List.set_cons_succ]
        refine wpAnyH_take (i := 16) (oi := ⟨some 59, Op.indexAddr 24 (Operand.tmp 44) (Operand.tmp 45), 0, _, _, none⟩) (v := ?v16n2k17) rfl (by kernel_rfl) (by kernel_rfl) (by kernel_rfl) (fun _ _ _ h => h) (Or.inl ⟨by rfl, ?y16n2k17⟩) hHeld ?z16n2k17
        case y16n2k17 => intro w hSw; (try dsimp only at hSw); go_simp <;> rfl
        try simp only [Act.put, List.setIfInBounds_toArray, List.set_cons_zero, List.set_cons_succ]
        refine wpAnyH_take (i := 17) (oi := ⟨some 60, Op.fieldAddr 31 (Operand.tmp 59) 0, 0, _, _, none⟩) (v := ?v17n2k18) rfl (by kernel_rfl) (by kernel_rfl) (by kernel_rfl) (fun _ _ _ h => h) (Or.inl ⟨by rfl, ?y17n2k18⟩) hHeld ?z17n2k18
        case y17n2k18 => intro w hSw; (try dsimp only at hSw); go_simp <;> rfl
        try simp only [Act.put, List.setIfInBounds_toArray, List.set_cons_zero, List.set_cons_succ]
        refine wpAnyH_ready (rs := [18]) (by kernel_rfl) (by simp) ?_
        refine AllReadyH.cons (o := ⟨none, Op.store 9 (Operand.tmp 60) (Operand.tmp 55), 0, _, _, none⟩) rfl (fun K hK => ?_) AllReadyH.nil
        generalize w3.drew = d3 at KC ⊢
        have hc0 := KC.out.cell HE0.out (fun h => h)
        have oc := own_keep O3.out KC.out (fun _ _ h => h)
        have hf0 : d3.frozen? ⟨g, j * 4, none⟩ = false := oc.frozenAt _
        have OS := Lib.hid (oc.stored (j * 4) (.string (cut60 x.name))).1
        have ks : Kept (fun i => i = g) d3 (d3.setCell ⟨g, j * 4, none⟩ (.string (cut60 x.name))) := Kept.setCell _ (by rfl) _
        have KS : Hid (Kept (fun i => i = g) w3 (d3.setCell ⟨g, j * 4, none⟩ (.string (cut60 x.name)))) := (Kept.to KC.out).step ks
        clear oc ks
        go_simp
        clear hc0 hf0
        refine hK.out _ _ (CE.out _ KS.out) (fun hHeld => ?_)
        clear hK K
        try simp only [Act.put, List.setIfInBounds_toArray, List.set_cons_zero, List.set_cons_succ]
        refine wpAnyH_take (i := 19) (oi := ⟨some 61, Op.indexAddr 24 (Operand.tmp 47) (Operand.tmp 48), 0, _, _, none⟩) (v := ?v19n2k19) rfl (by kernel_rfl) (by kernel_rfl) (by kernel_rfl) (fun _ _ _ h => h) (Or.inl ⟨by rfl, ?y19n2k19⟩) hHeld ?z19n2k19
        case y19n2k19 => intro w hSw; (try dsimp only at hSw); go_simp <;> rfl
        try simp only [Act.put, List.setIfInBounds_toArray, List.set_cons_zero, List.set_cons_succ]
        refine wpAnyH_take (i := 20) (oi := ⟨some 62, Op.fieldAddr 31 (Operand.tmp 61) 1, 0, _, _, none⟩) (v := ?v20n2k20) rfl (by kernel_rfl) (by kernel_rfl) (by kernel_rfl) (fun _ _ _ h => h) (Or.inl ⟨by rfl, ?y20n2k20⟩) hHeld ?z20n2k20
        case y20n2k20 => intro w hSw; (try dsimp only at hSw); go_simp <;> rfl
        try simp only [Act.put, List.setIfInBounds_toArray, List.set_cons_zero, List.set_cons_succ]
        refine wpAnyH_ready (rs := [21]) (by kernel_rfl) (by simp) ?_
        refine AllReadyH.cons (o := ⟨none, Op.store 29 (Operand.tmp 62) (Operand.tmp 58), 0, _, _, none⟩) rfl (fun K hK => ?_) AllReadyH.nil
        have hc1 : (d3.setCell ⟨g, j * 4, none⟩ (.string (cut60 x.name))).cell? ⟨g, j * 4 + 1, none⟩ = some (.int .i64 x.kind) := by
          rw [OS.out.cellAt (j * 4 + 1) (by have := HJ.out; omega), List.getElem?_set_ne (by omega)]
          rw [← O3.out.cellAt (j * 4 + 1) (by have := HJ.out; omega)]
          exact HE1.out
        have hc2 : d3.cell? ⟨g, j * 4 + 1, none⟩ = some (.int .i64 x.kind) := KC.out.cell HE1.out (fun h => h)
        have hf2 : d3.frozen? ⟨g, j * 4 + 1, none⟩ = false := (own_keep O3.out KC.out (fun _ _ h => h)).frozenAt _
        have hf1 : (d3.setCell ⟨g, j * 4, none⟩ (.string (cut60 x.name))).frozen? ⟨g, j * 4 + 1, none⟩ = false := OS.out.frozenAt _
        have OS2 := (OS.out.stored (j * 4 + 1) (.int .i64 (x.kind % 256))).1
        rw [refCells_set C j x (cut60 x.name) (x.kind % 256) HCX.out] at OS2
        have OS2 := Lib.hid OS2
        have ks : Kept (fun i => i = g) (d3.setCell ⟨g, j * 4, none⟩ (.string (cut60 x.name))) ((d3.setCell ⟨g, j * 4, none⟩ (.string (cut60 x.name))).setCell ⟨g, j * 4 + 1, none⟩ (.int .i64 (x.kind % 256))) := Kept.setCell _ (by rfl) _
        have KS2 := Lib.hid (KS.out.step ks)
        clear ks
        go_simp
        clear hc1 hf1 hc2 hf2
        refine hK.out _ _ (CE.out _ KS2.out) (fun hHeld => ?_)
        clear hK K
        try simp only [Act.put, List.setIfInBounds_toArray, List.set_cons_zero, List.set_cons_succ]
        refine wpAnyH_done (by kernel_rfl) ?_ _
        refine NoPanic.normal ?_
        clear hHeld
        have TZ := Lib.hid (KS2.out.blk T3.out (fun e => by have := HYT.out; omega))
        have KZ := Lib.hid (K3.out.trans KS2.out (fun i hi e => by have := HYT.out; omega))
        have CN : Hid (CutTo LA (C.set j (cutR x)) (j + 1)) := HC.out.next HXJ.out
        clear CE HE0 HE1 T3 Y3 O3 K3 KS2 KC OS KS q7 q8 z1 hand
        go_wp2
        go_roundw
        case rel => exact ⟨j + 1, _, by have := HJ.out; omega, by go_num, CN, TZ, OS2, KZ⟩
        case measure => have := HJ.out; simp [intOf]; omega
      · obtain rfl : j = MA := by omega
        have hCm : C = LA.map cutR := by
          have h1 := HC.out
          rw [← HLA.out] at h1
          exact h1.done
        subst hCm
        have hlm : (LA.map cutR).length = j := by rw [List.length_map, HLA.out]
        obtain ⟨t0, t1, t2⟩ := ed_cells HTR.out
        obtain ⟨E0, hE0⟩ : ∃ E0 : EdV, E0 = ⟨⟨LA.map cutR, LD, fl⟩, B, cb, D, cd⟩ := ⟨_, rfl⟩
        have hcells : E0.cells = [.slice B j cb, .slice D MD cd, .int .i64 fl] := by rw [hE0]; unfold EdV.cells; simp only; rw [hlm, HLD.out]
        have hfits : E0.e.Fits ∧ E0.e.bytes.length ≤ 40000000 := by
          rw [hE0]
          have hf1 : ∀ x ∈ LA.map cutR, x.Fit := fun x hx => by
            obtain ⟨y, hy, rfl⟩ := List.mem_map.1 hx
            exact cutR_fit (HFA.out y hy).1 (HFA.out y hy).2
          refine ⟨⟨hf1, fun s hs => by have := HFD.out s hs; omega, HFF.out, by simp only; omega, by simp only; rw [HLD.out]; omega⟩, ?_⟩
          have h7 := flatMap_cap refB 85 (LA.map cutR) (fun x hx => by
            obtain ⟨y, hy, rfl⟩ := List.mem_map.1 hx
            rw [refB_length]
            have := cut60_size y.name
            show 25 + (cut60 y.name).size ≤ 85
            omega)
          have h8 := flatMap_cap tx 1048584 LD (fun x hx => by rw [tx_length]; have := HFD.out x hx; omega)
          rw [EditV.bytes_length]
          simp only
          rw [hlm] at h7
          rw [HLD.out] at h8
          omega
        have ka := Kept.alloc noBlock wr (.cells #[.slice B j cb, .slice D MD cd, .int .i64 fl] 36)
        have ho := World.ownsRow_lit (base := 0) (e := 36) (size := 3) wr #[.slice B j cb, .slice D MD cd, .int .i64 fl] 1 (Nat.zero_le _) (by unfold maxLen; omega) (by simp)
        have evr : Ev wr (fun i => i < wr.heap.size) E0.e E0.A E0.a E0.D E0.d := by
          rw [hE0]
          exact ⟨(Lies.of_rows (F := fun _ => True) HOR.out (fun _ _ => trivial)).lt, (VD.out.keep KR.out (fun _ _ h => h)).mono (fun i hi => Nat.lt_of_lt_of_le hi KR.out.size), by simp only; omega, by simp only; rw [HLD.out]; omega⟩
        go_upto_region 10 with (fail)
        obtain ⟨P0, hP0⟩ : ∃ P, P = wr.heap.size := ⟨_, rfl⟩
        have hwP : w.heap.size ≤ P0 := by rw [hP0]; exact KR.out.size
        rw [← hP0] at ho evr ⊢
        generalize wr.alloc (.cells #[.slice B j cb, .slice D MD cd, .int .i64 fl] 36) = u5 at ka ho ⊢
        have L0 : Hid (AllE w u5 (some ⟨P0, 0, none⟩) 1 1 [E0]) := by
          refine ⟨?_, fun z hz => ?_, fun z hz => ?_, fun i hi => ?_, rfl, KR.out.step ka⟩
          · have := ho
            rw [List.flatMap_cons, List.flatMap_nil, List.append_nil, hcells]
            simpa using this
          · rw [List.mem_singleton] at hz
            subst hz
            refine (evr.kept ka).mono (fun i hi e => ?_)
            simp [Value.ownBlock] at e
            omega
          · rw [List.mem_singleton] at hz
            subst hz
            exact hfits
          · simp [Value.ownBlock] at hi
            omega
        clear ka ho evr hcells hfits hE0 hlm HTR HOR KR t0 t1 t2 hP0 hlt
        go_wp2_with fail
        go_loopw [72, 7] (fun i al wr => ∃ (k : Nat) (P : Option Addr) (m pc : Nat) (es : List EdV), k ≤ M ∧ i = .int .i64 (k : Int) ∧ al = .slice P m pc ∧ Hid (m ≤ 1 + k) ∧ Hid (AllE w wr P m pc es)) (fun i _ _ => M - (intOf i).toNat)
        case atStart => exact ⟨0, some ⟨P0, 0, none⟩, 1, 1, [E0], by omega, rfl, rfl, Nat.le_refl _, L0⟩
        case round =>
          obtain ⟨k, P, m, pc, es, hkM, rfl, rfl, hm, LS⟩ := hrel
          by_cases hlt : k < M
          · obtain ⟨x, hx⟩ : ∃ x, ss[k]? = some x := ⟨_, List.getElem?_eq_getElem (by have := HL.out; omega)⟩
            obtain ⟨ad, o, rfl, _, cc⟩ := (H.out.keep LS.out.kept (fun _ _ h => h)).elem (enc := StepV.cells) step_len (by omega) hx
            have e0 := cc 0 _ rfl
            have e1 := cc 1 _ rfl
            have e2 := cc 2 _ rfl
            have e3 := cc 3 _ rfl
            have e4 := cc 4 _ rfl
            have e5 := cc 5 _ rfl
            have e6 := cc 6 _ rfl
            have e7 := cc 7 _ rfl
            rw [Nat.add_zero] at e0
            have XL := Lib.hid ((HX.out x (List.mem_of_getElem? hx)).1.keep LS.out.kept (fun _ _ h => h))
            have hxn := (HX.out x (List.mem_of_getElem? hx)).2
            have ka := Kept.alloc noBlock wr (.cells #[.slice x.A x.add.length x.ca, .slice x.D x.drop.length x.cd, .int .u8 (x.floor.toNat : Int), .bool x.odd, .string x.any.name, .int .i64 x.any.kind, .int .i64 x.any.from_, .int .i64 x.any.to_] 33)
            have ha := heap_alloc_new wr (.cells #[.slice x.A x.add.length x.ca, .slice x.D x.drop.length x.cd, .int .u8 (x.floor.toNat : Int), .bool x.odd, .string x.any.name, .int .i64 x.any.kind, .int .i64 x.any.from_, .int .i64 x.any.to_] 33)
            clear cc hx
            go_upto_region 13 with (fail)
            obtain ⟨Y, hY⟩ : ∃ Y, Y = wr.heap.size := ⟨_, rfl⟩
            rw [← hY] at ha ⊢
            generalize wr.alloc (.cells #[.slice x.A x.add.length x.ca, .slice x.D x.drop.length x.cd, .int .u8 (x.floor.toNat : Int), .bool x.odd, .string x.any.name, .int .i64 x.any.kind, .int .i64 x.any.from_, .int .i64 x.any.to_] 33) = w3 at ka ha ⊢
            have K3 := Lib.hid ka
            have LE := Lib.hid (edit_step2 (XL.out.keep ka (fun _ _ h => h)))
            have HY3 := Lib.hid ha
            have HWR : Hid (wr.heap.size ≤ w3.heap.size) := ka.size
            obtain ⟨hb24, hbN⟩ := editOf_bytes x
            have hfx : x.odd = false → (editOf x).Fits := fun h => editOf_fits (fun r hr => by
              unfold editOf at hr
              rw [h] at hr
              simp only [Bool.false_eq_true, if_false, List.append_nil, List.mem_map] at hr
              obtain ⟨n, _, rfl⟩ := hr
              exact (refOf_may n).fit)
            obtain ⟨y0, y1, y2, y3, y4, y5, y6, y7⟩ := step_cells ha
            obtain ⟨e, he⟩ : ∃ e, e = editOf x := ⟨_, rfl⟩
            rw [← he] at LE hb24 hbN hfx
            obtain ⟨od, hod⟩ : ∃ od, od = x.odd := ⟨_, rfl⟩
            have HFX : Hid (x.odd = false → e.Fits ∧ e.bytes.length ≤ 40000000) := fun h => ⟨hfx h, by omega⟩
            clear e0 e1 e2 e3 e4 e5 e6 e7 ka ha XL he hfx hY hb24 hbN
            go_wp2_with fail
            refine LE.out.mono ?_
            rintro en w4 ⟨A2, a2, D2, d2, rfl, ev2, k4⟩
            have ka := Kept.alloc noBlock w4 (.cells #[.slice A2 e.add.length a2, .slice D2 e.drop.length d2, .int .i64 e.floor] 36)
            have ha := heap_alloc_new w4 (.cells #[.slice A2 e.add.length a2, .slice D2 e.drop.length d2, .int .i64 e.floor] 36)
            go_upto_region 14 with (fail)
            obtain ⟨Z, hZ⟩ : ∃ Z, Z = w4.heap.size := ⟨_, rfl⟩
            rw [← hZ] at ha ⊢
            generalize w4.alloc (.cells #[.slice A2 e.add.length a2, .slice D2 e.drop.length d2, .int .i64 e.floor] 36) = w5 at ka ha ⊢
            have K5 : Hid (Kept noBlock wr w5) := (K3.out.step k4).step ka
            have H45 : Hid (w4.heap.size ≤ w5.heap.size) := ka.size
            have HZ5 := Lib.hid ha
            have EV5 := Lib.hid (ev2.kept ka)
            obtain ⟨y0, y1, y2, y3, y4, y5, y6, y7⟩ := step_cells ((k4.step ka).blk HY3.out (fun h => h))
            rw [← hod] at y3 HFX
            clear ka ha k4 ev2 LE hZ K3 hod y0 y1 y2 y4 y5 y6 y7 HY3
            cases od with
            | true =>
              have LN := Lib.hid (LS.out.keep K5.out)
              have HM2 : Hid (m ≤ 1 + (k + 1)) := by unfold Hid; have := hm.out; omega
              go_wp2
              go_roundw
              case rel => exact ⟨k + 1, P, m, pc, es, by omega, by go_num, rfl, HM2, LN⟩
              case measure => simp [intOf]; omega
            | false =>
              have hmm := hm.out
              obtain ⟨z0, z1, z2⟩ := ed_cells HZ5.out
              have ka := Kept.alloc noBlock w5 (.cells #[.slice A2 e.add.length a2, .slice D2 e.drop.length d2, .int .i64 e.floor] 36)
              have ha := heap_alloc_new w5 (.cells #[.slice A2 e.add.length a2, .slice D2 e.drop.length d2, .int .i64 e.floor] 36)
              have hown8 := (LS.out.keep (K5.out.step ka)).own
              have hsrc8 : Src Try.prog 3 55 (.slice (some ⟨w5.heap.size, 0, none⟩) 1 1) 1 (EdV.cells ⟨e, A2, a2, D2, d2⟩) (w5.alloc (.cells #[.slice A2 e.add.length a2, .slice D2 e.drop.length d2, .int .i64 e.floor] 36)) := src_ed _ ha
              have HAT : Hid (∀ (P' : Option Addr) (pc' : Nat) (v : World), v.ownsRow 0 36 3 (.slice P' (m + 1) pc') (m + 1) (es.flatMap EdV.cells ++ EdV.cells ⟨e, A2, a2, D2, d2⟩) → Kept (fun i => (Value.slice P m pc).ownBlock = some i) (w5.alloc (.cells #[.slice A2 e.add.length a2, .slice D2 e.drop.length d2, .int .i64 e.floor] 36)) v → (∀ i, (Value.slice P' (m + 1) pc').ownBlock = some i → (Value.slice P m pc).ownBlock = some i ∨ fresh (w5.alloc (.cells #[.slice A2 e.add.length a2, .slice D2 e.drop.length d2, .int .i64 e.floor] 36)) v i) →
                AllE w v P' (m + 1) pc' (es ++ [⟨e, A2, a2, D2, d2⟩])) := fun P' pc' v o k hat =>
                LS.out.one (K5.out.step ka) _ ((EV5.out.kept ka).mono (fun i hi => by
                  have h1 := hi.1
                  have h2 := HWR.out
                  have h3 := H45.out
                  have h4 := ka.size
                  have h5 := hi.2
                  omega)) (HFX.out rfl) o k hat
              clear ka ha
              go_wp2_with (at_builtin; refine wpList_append_src rfl _ _ 55 55 rfl 36 (.agg #[.slice none 0 0, .slice none 0 0, .int .i64 0]) 3 56 Try.underlying55 Try.infoEd rfl (.slice P m pc) m (es.flatMap EdV.cells) rfl hown8 _ 1 (EdV.cells ⟨e, A2, a2, D2, d2⟩) rfl hsrc8 ?c3 ?c4 ?_)
              case c3 => unfold maxLen; omega
              case c4 => omega
              intro P9 pc9 w9 o9 k9 hat9
              have LN := Lib.hid (HAT.out P9 pc9 w9 o9 k9 hat9)
              obtain ⟨m2, hm2⟩ : ∃ m2, m2 = m + 1 := ⟨_, rfl⟩
              rw [← hm2] at LN ⊢
              have HM2 : Hid (m2 ≤ 1 + (k + 1)) := by unfold Hid; omega
              clear o9 k9 hat9 hown8 hsrc8 HAT hm2
              go_wp2
              go_roundw
              case rel => exact ⟨k + 1, P9, m2, pc9, _, by omega, by go_num, rfl, HM2, LN⟩
              case measure => simp [intOf]; omega
          · obtain rfl : k = M := by omega
            obtain ⟨v2, hv2⟩ : ∃ v2, v2 = wr := ⟨_, rfl⟩
            subst hv2
            have hm21 : m ≤ 21 := by have := hm.out; omega
            have hpc : m ≤ pc := by obtain ⟨_, _, e, hle⟩ := own_form LS.out.own; injection e with _ _ e; omega
            clear hlt hm
            go_wp2_with fail
            go_loopw [88] (fun i wr => ∃ q : Nat, q ≤ m ∧ i = .int .i64 (q : Int) ∧ Hid (Kept noBlock v2 wr)) (fun i _ => m - (intOf i).toNat)
            case atStart => exact ⟨0, by omega, rfl, Kept.refl _ _⟩
            case round =>
              obtain ⟨q, hqm, rfl, HK⟩ := hrel
              by_cases hlq : q < m
              · obtain ⟨x, hx⟩ : ∃ x, es[q]? = some x := ⟨_, List.getElem?_eq_getElem (by have := LS.out.len; omega)⟩
                obtain ⟨g, o, rfl, _, cc⟩ := ((Lies.of_rows (F := fun _ => True) LS.out.own (fun _ _ => trivial)).keep HK.out (fun _ _ h => h)).elem (enc := EdV.cells) ed_len (by omega) hx
                have hmem := List.mem_of_getElem? hx
                have hev := (LS.out.ev x hmem).kept HK.out
                obtain ⟨hfit, hbl⟩ := LS.out.fit x hmem
                obtain ⟨e, A2, a2, D2, d2⟩ := x
                have e0 := cc 0 _ rfl
                have e1 := cc 1 _ rfl
                have e2 := cc 2 _ rfl
                simp only [Nat.add_zero] at e0 hev hfit hbl
                obtain ⟨hg1, hg2⟩ := gotE_bytes hfit
                obtain ⟨hs1, hs2⟩ := short_counts hbl
                have hrd := rdEdit_bytes hfit
                obtain ⟨N, hN⟩ : ∃ N, N = e.bytes.length := ⟨_, rfl⟩
                rw [← hN] at hbl
                have ka := Kept.alloc noBlock wr (.cells #[.slice A2 e.add.length a2, .slice D2 e.drop.length d2, .int .i64 e.floor] 36)
                have ha := heap_alloc_new wr (.cells #[.slice A2 e.add.length a2, .slice D2 e.drop.length d2, .int .i64 e.floor] 36)
                have HN := Lib.hid hN
                have HEV := Lib.hid hev
                have HRD := Lib.hid hrd
                have HG1 := Lib.hid hg1
                have HG2 := Lib.hid hg2
                have HQ := Lib.hid hlq
                clear cc hx hmem hev hrd hg1 hg2 hN hfit
                go_upto_region 20 with (fail)
                obtain ⟨E, hE⟩ : ∃ E, E = wr.heap.size := ⟨_, rfl⟩
                rw [← hE] at ha ⊢
                generalize wr.alloc (.cells #[.slice A2 e.add.length a2, .slice D2 e.drop.length d2, .int .i64 e.floor] 36) = w3 at ka ha ⊢
                have K3 : Hid (Kept noBlock v2 w3) := HK.out.step ka
                have EV3 := Lib.hid (HEV.out.kept ka)
                have HE3 := Lib.hid ha
                obtain ⟨z0, z1, z2⟩ := ed_cells ha
                have EB := ebytes_any _ e A2 a2 D2 d2 N w3 EV3.out HN.out.symm (by omega)
                unfold evl at EB
                have EB := Lib.hid EB
                clear ka ha e0 e1 e2 hE HEV
                go_wp2_with fail
                refine EB.out.mono ?_
                rintro en w4 ⟨Pb, cb4, rfl, o4, k4⟩
                have LP := Lib.hid (Lies.of_rows (F := fun _ => True) o4 (fun _ _ => trivial))
                have RD := eread_any (fun _ => True) Pb N cb4 e.bytes w4 LP.out HN.out.symm (by omega) (by rw [HRD.out]; omega) (by rw [HRD.out]; omega) (by rw [HRD.out, ← HN.out]; omega)
                rw [HG1.out, HG2.out] at RD
                unfold evl at RD
                have RD := Lib.hid RD
                have K4 := Lib.hid (K3.out.step k4)
                have EV4 := Lib.hid (EV3.out.kept k4)
                have HE4 := Lib.hid (k4.blk HE3.out (fun h => h))
                clear o4 k4 EB z0 z1 z2 K3 EV3 HE3
                go_wp2_with fail
                refine RD.out.mono ?_
                rintro en w5 ⟨A5, a5, D5, d5, rfl, ev5, k5⟩
                have ka := Kept.alloc noBlock w5 (.cells #[.slice A5 e.add.length a5, .slice D5 e.drop.length d5, .int .i64 e.floor] 36)
                have ha := heap_alloc_new w5 (.cells #[.slice A5 e.add.length a5, .slice D5 e.drop.length d5, .int .i64 e.floor] 36)
                go_upto_region 22 with (fail)
                obtain ⟨X, hX⟩ : ∃ X, X = w5.heap.size := ⟨_, rfl⟩
                rw [← hX] at ha ⊢
                generalize w5.alloc (.cells #[.slice A5 e.add.length a5, .slice D5 e.drop.length d5, .int .i64 e.floor] 36) = w6 at ka ha ⊢
                have K6 := Lib.hid (K4.out.step (k5.step ka))
                have EV6 := Lib.hid (EV4.out.kept (k5.step ka))
                have EX6 := Lib.hid (ev5.kept ka)
                have HE6 := Lib.hid ((k5.step ka).blk HE4.out (fun h => h))
                have LP6 := Lib.hid (LP.out.keep (k5.step ka) (fun _ _ h => h))
                have CE : Hid (∀ u, Kept noBlock w6 u → (u.cell? ⟨E, 0, none⟩ = some (.slice A2 e.add.length a2) ∧ u.cell? ⟨E, 1, none⟩ = some (.slice D2 e.drop.length d2) ∧ u.cell? ⟨E, 2, none⟩ = some (.int .i64 e.floor)) ∧ (u.cell? ⟨X, 0, none⟩ = some (.slice A5 e.add.length a5) ∧ u.cell? ⟨X, 1, none⟩ = some (.slice D5 e.drop.length d5) ∧ u.cell? ⟨X, 2, none⟩ = some (.int .i64 e.floor)) ∧ (convert 28 9 (.slice Pb N cb4)).run Try.prog u = .ok (.string (str e.bytes)) u) := fun u k =>
                  ⟨ed_cells (k.blk HE6.out (fun h => h)), ed_cells (k.blk ha (fun h => h)), run_str10 (LP6.out.keep k (fun _ _ h => h)) HN.out.symm _⟩
                have LB1 := fun u (k : Kept noBlock w6 u) => lebytes_any (fun _ => True) e A2 a2 D2 d2 N u ((EV6.out.kept k).mono (fun _ _ => trivial)) HN.out.symm (by omega)
                have LB2 := fun u (k : Kept noBlock w6 u) => lebytes_any (fun _ => True) e A5 a5 D5 d5 N u ((EX6.out.kept k).mono (fun _ _ => trivial)) HN.out.symm (by omega)
                unfold evl at LB1 LB2
                obtain ⟨sb, hsb⟩ : ∃ sb, sb = str e.bytes := ⟨_, rfl⟩
                rw [← hsb] at CE LB1 LB2
                have LB1 := Lib.hid LB1
                have LB2 := Lib.hid LB2
                have KC : Hid (Kept noBlock w6 w6.drew) := Kept.drew _ _
                clear ka ha k5 ev5 RD hX hsb
                refine wp_region_noPanic ?_
                refine wp_region_held_drew (S := fun u => (u.cell? ⟨E, 0, none⟩ = some (.slice A2 e.add.length a2) ∧ u.cell? ⟨E, 1, none⟩ = some (.slice D2 e.drop.length d2) ∧ u.cell? ⟨E, 2, none⟩ = some (.int .i64 e.floor)) ∧ (u.cell? ⟨X, 0, none⟩ = some (.slice A5 e.add.length a5) ∧ u.cell? ⟨X, 1, none⟩ = some (.slice D5 e.drop.length d5) ∧ u.cell? ⟨X, 2, none⟩ = some (.int .i64 e.floor)) ∧ (convert 28 9 (.slice Pb N cb4)).run Try.prog u = .ok (.string sb) u) (by kernel_rfl) (CE.out _ KC.out) (fun hHeld => ?_)
                refine wpAnyH_take (i := 0) (oi := ⟨some 99, Op.move (Operand.tmp 13), 28, _, _, none⟩) (v := ?v0n3k1) rfl (by kernel_rfl) (by kernel_rfl) (by kernel_rfl) (fun _ _ _ h => h) (Or.inl ⟨by rfl, ?y0n3k1⟩) hHeld ?z0n3k1
                case y0n3k1 => intro w hSw; (try dsimp only at hSw); go_simp <;> rfl
                try simp only [Act.put, List.setIfInBounds_toArray, List.set_cons_zero, List.set_cons_succ]
                refine wpAnyH_take (i := 1) (oi := ⟨some 100, Op.convert 28 9 (Operand.tmp 99), 9, _, _, none⟩) (v := ?v1n3k2) rfl (by kernel_rfl) (by kernel_rfl) (by kernel_rfl) (fun _ _ _ h => h) (Or.inl ⟨by rfl, ?y1n3k2⟩) hHeld ?z1n3k2
                case y1n3k2 => intro w hSw; (try dsimp only at hSw); go_simp <;> rfl
                try simp only [Act.put, List.setIfInBounds_toArray, List.set_cons_zero, List.set_cons_succ]
                refine wpAnyH_take (i := 2) (oi := ⟨some 101, Op.load 36 (Operand.tmp 12), 36, _, _, none⟩) (v := ?v2n3k3) rfl (by kernel_rfl) (by kernel_rfl) (by kernel_rfl) (fun _ _ _ h => h) (Or.inl ⟨by rfl, ?y2n3k3⟩) hHeld ?z2n3k3
                case y2n3k3 => intro w hSw; (try dsimp only at hSw); go_simp <;> rfl
                try simp only [Act.put, List.setIfInBounds_toArray, List.set_cons_zero, List.set_cons_succ]
                refine wpAnyH_ready (rs := [3]) (by kernel_rfl) (by simp) ?_
                refine AllReadyH.cons (o := ⟨some 102, Op.call { callee := Callee.value (Operand.func 24), args := #[Operand.tmp 101], argTypes := #[36] }, 9, _, _, none⟩) rfl (fun K hK => ?_) AllReadyH.nil
                go_simp
                refine (LB1.out _ KC.out).mono ?_
                rintro en x3 ⟨rfl, k3⟩
                replace KC := Lib.hid (KC.out.step k3)
                clear k3
                dsimp only
                refine hK.out _ _ (CE.out _ KC.out) (fun hHeld => ?_)
                clear hK K
                try simp only [Act.put, List.setIfInBounds_toArray, List.set_cons_zero, List.set_cons_succ]
                refine wpAnyH_take (i := 4) (oi := ⟨some 103, Op.binOp BinOp.neq 9 (Operand.tmp 100) (Operand.tmp 102) 9, 4, _, _, none⟩) (v := ?v4n3k4) rfl (by kernel_rfl) (by kernel_rfl) (by kernel_rfl) (fun _ _ _ h => h) (Or.inl ⟨by rfl, ?y4n3k4⟩) hHeld ?z4n3k4
                case y4n3k4 => intro w hSw; (try dsimp only at hSw); go_simp <;> rfl
                try simp only [Act.put, List.setIfInBounds_toArray, List.set_cons_zero, List.set_cons_succ]
                refine wpAnyH_take (i := 5) (oi := ⟨some 104, Op.move (Operand.tmp 103), 4, _, _, none⟩) (v := ?v5n3k5) rfl (by kernel_rfl) (by kernel_rfl) (by kernel_rfl) (fun _ _ _ h => h) (Or.inl ⟨by rfl, ?y5n3k5⟩) hHeld ?z5n3k5
                case y5n3k5 => intro w hSw; (try dsimp only at hSw); go_simp <;> rfl
                try simp only [Act.put, List.setIfInBounds_toArray, List.set_cons_zero, List.set_cons_succ]
                refine wpAnyH_take (i := 6) (oi := ⟨some 105, Op.move (Operand.tmp 15), 4, _, _, some (5, false)⟩) (v := ?v6n3k6) rfl (by kernel_rfl) (by kernel_rfl) (by kernel_rfl) (fun _ _ _ h => h) (Or.inl ⟨by rfl, ?y6n3k6⟩) hHeld ?z6n3k6
                case y6n3k6 => intro w hSw; (try dsimp only at hSw); go_simp <;> rfl
                try simp only [Act.put, List.setIfInBounds_toArray, List.set_cons_zero, List.set_cons_succ]
                refine wpAnyH_take (i := 7) (oi := ⟨some 106, Op.unOp UnOp.not 4 (Operand.tmp 105), 4, _, _, some (5, false)⟩) (v := ?v7n3k7) rfl (by kernel_rfl) (by kernel_rfl) (by kernel_rfl) (fun _ _ _ h => h) (Or.inl ⟨by rfl, ?y7n3k7⟩) hHeld ?z7n3k7
                case y7n3k7 => intro w hSw; (try dsimp only at hSw); go_simp <;> rfl
                try simp only [Act.put, List.setIfInBounds_toArray, List.set_cons_zero, List.set_cons_succ]
                refine wpAnyH_take (i := 8) (oi := ⟨some 107, Op.pick (Operand.tmp 104) (Operand.const (Value.bool true)) (Operand.tmp 106), 4, _, _, none⟩) (v := ?v8n3k8) rfl (by kernel_rfl) (by kernel_rfl) (by kernel_rfl) (fun _ _ _ h => h) (Or.inl ⟨by rfl, ?y8n3k8⟩) hHeld ?z8n3k8
                case y8n3k8 => intro w hSw; (try dsimp only at hSw); go_simp <;> rfl
                try simp only [Act.put, List.setIfInBounds_toArray, List.set_cons_zero, List.set_cons_succ]
                refine wpAnyH_take (i := 9) (oi := ⟨some 108, Op.move (Operand.tmp 107), 4, _, _, none⟩) (v := ?v9n3k9) rfl (by kernel_rfl) (by kernel_rfl) (by kernel_rfl) (fun _ _ _ h => h) (Or.inl ⟨by rfl, ?y9n3k9⟩) hHeld ?z9n3k9
                case y9n3k9 => intro w hSw; (try dsimp only at hSw); go_simp <;> rfl
                try simp only [Act.put, List.setIfInBounds_toArray, List.set_cons_zero, List.set_cons_succ]
                refine wpAnyH_take (i := 10) (oi := ⟨some 109, Op.load 36 (Operand.tmp 14), 36, _, _, some (9, false)⟩) (v := ?v10n3k10) rfl (by kernel_rfl) (by kernel_rfl) (by kernel_rfl) (fun _ _ _ h => h) (Or.inl ⟨by rfl, ?y10n3k10⟩) hHeld ?z10n3k10
                case y10n3k10 => intro w hSw; (try dsimp only at hSw); go_simp <;> rfl
                try simp only [Act.put, List.setIfInBounds_toArray, List.set_cons_zero, List.set_cons_succ]
                refine wpAnyH_take (i := 12) (oi := ⟨some 111, Op.load 36 (Operand.tmp 12), 36, _, _, some (9, false)⟩) (v := ?v12n3k11) rfl (by kernel_rfl) (by kernel_rfl) (by kernel_rfl) (fun _ _ _ h => h) (Or.inl ⟨by rfl, ?y12n3k11⟩) hHeld ?z12n3k11
                case y12n3k11 => intro w hSw; (try dsimp only at hSw); go_simp <;> rfl
                try simp only [Act.put, List.setIfInBounds_toArray, List.set_cons_zero, List.set_cons_succ]
                refine wpAnyH_ready (rs := [11]) (by kernel_rfl) (by simp) ?_
                refine AllReadyH.cons (o := ⟨some 110, Op.call { callee := Callee.value (Operand.func 24), args := #[Operand.tmp 109], argTypes := #[36] }, 9, _, _, some (9, false)⟩) rfl (fun K hK => ?_) AllReadyH.nil
                go_simp
                refine (LB2.out _ KC.out).mono ?_
                rintro en x11 ⟨rfl, k3⟩
                replace KC := Lib.hid (KC.out.step k3)
                clear k3
                dsimp only
                refine hK.out _ _ (CE.out _ KC.out) (fun hHeld => ?_)
                clear hK K
                try simp only [Act.put, List.setIfInBounds_toArray, List.set_cons_zero, List.set_cons_succ]
                refine wpAnyH_ready (rs := [13]) (by kernel_rfl) (by simp) ?_
                refine AllReadyH.cons (o := ⟨some 112, Op.call { callee := Callee.value (Operand.func 24), args := #[Operand.tmp 111], argTypes := #[36] }, 9, _, _, some (9, false)⟩) rfl (fun K hK => ?_) AllReadyH.nil
                go_simp
                refine (LB1.out _ KC.out).mono ?_
                rintro en x13 ⟨rfl, k3⟩
                replace KC := Lib.hid (KC.out.step k3)
                clear k3
                dsimp only
                refine hK.out _ _ (CE.out _ KC.out) (fun hHeld => ?_)
                clear hK K
                try simp only [Act.put, List.setIfInBounds_toArray, List.set_cons_zero, List.set_cons_succ]
                refine wpAnyH_take (i := 14) (oi := ⟨some 113, Op.binOp BinOp.neq 9 (Operand.tmp 110) (Operand.tmp 112) 9, 4, _, _, some (9, false)⟩) (v := ?v14n3k12) rfl (by kernel_rfl) (by kernel_rfl) (by kernel_rfl) (fun _ _ _ h => h) (Or.inl ⟨by rfl, ?y14n3k12⟩) hHeld ?z14n3k12
                case y14n3k12 => intro w hSw; (try dsimp only at hSw); go_simp <;> rfl
                try simp only [Act.put, List.setIfInBounds_toArray, List.set_cons_zero, List.set_cons_succ]
                refine wpAnyH_take (i := 15) (oi := ⟨some 114, Op.pick (Operand.tmp 108) (Operand.const (Value.bool true)) (Operand.tmp 113), 4, _, _, none⟩) (v := ?v15n3k13) rfl (by kernel_rfl) (by kernel_rfl) (by kernel_rfl) (fun _ _ _ h => h) (Or.inl ⟨by rfl, ?y15n3k13⟩) hHeld ?z15n3k13
                case y15n3k13 => intro w hSw; (try dsimp only at hSw); go_simp <;> rfl
                try simp only [Act.put, List.setIfInBounds_toArray, List.set_cons_zero, List.set_cons_succ]
                refine wpAnyH_done (by kernel_rfl) ?_ _
                refine NoPanic.normal ?_
                clear hHeld
                go_wp2
                go_roundw
                case rel => exact ⟨q + 1, by have := HQ.out; omega, by go_num, K6.out.step KC.out⟩
                case measure => have := HQ.out; simp [intOf]; omega
              · obtain rfl : q = m := by omega
                have KZ := Lib.hid (LS.out.kept.step HK.out)
                clear hlq
                go_wp2
                go_ret
                exact ⟨rfl, KZ.out⟩
end Go.Proofs.Ytjijdkdpmbfdmaa
