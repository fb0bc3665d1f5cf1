/-
  The walk of DeltaThree. No statement is proved here.
-/
import Derived.Test.YtfcpofobdlgbbaaL8Asc
namespace Go.Proofs.Ytfcpofobdlgbbaa
open Go.RowKit Tot

set_option maxRecDepth 100000 in
set_option maxHeartbeats 2000000 in
theorem asc8_walk (hB : BetweenC) (hD : DoC) (hJ : JoinC) (hS : DSameC) (F : Nat → Prop) (a : Option Addr) (n cp : Nat) (ss : List SayV) (a' : Option Addr) (n' cp' : Nat) (more : List SayV) (one two : UInt8) (w : World) (h : Lies w F a (sayCells ss)) (hl : ss.length = n) (hnc : n ≤ cp) (h' : Lies w F a' (sayCells more)) (hl' : more.length = n') (hnc' : n' ≤ cp') :
    Calls Try.prog 9 #[.slice a n cp, .slice a' n' cp', .int .u8 (one.toNat : Int), .int .u8 (two.toNat : Int)] w fun e w' => e = .returned (.bool true) ∧ Kept noBlock w w' := by
  have TH := Lib.hid (fun u (k : Kept noBlock w u) => three_any F a n cp ss one two u (h.keep k (fun _ _ h => h)) hl hnc)
  have AW := Lib.hid (awake8_any hB hD w)
  have EN := Lib.hid (fun (i t : Int) u (k : Kept noBlock w u) => ents_any F a' n' cp' i t more (entsOf (more.take 80) i t) u (h'.keep k (fun _ _ h => h)) hl' hnc' rfl)
  have SF := Lib.hid (someV_facts ss)
  have LE := Lib.hid (entsS_length ss)
  clear h hl hnc h' hl' hnc'
  go_enter Try.func9, Try.ntmps9
  go_wp2_with fail
  refine AW.out.mono ?_
  rintro en w1 ⟨rfl, k1⟩
  have K1 := Lib.hid k1
  clear k1 AW
  go_wp2_with fail
  refine (TH.out w1 K1.out).mono ?_
  rintro en w2 ⟨s0, s1, s2, A0, c0, B0, d0, A1, c1, B1, d1, A2, c2, B2, d2, rfl, CH, SV, k2⟩
  have hx : (w2.alloc (.cells (threeV s0 s1 s2 A0 c0 B0 d0 A1 c1 B1 d1 A2 c2 B2 d2).toArray 28)).heap[w2.heap.size]? = _ := heap_alloc_new w2 (.cells (threeV s0 s1 s2 A0 c0 B0 d0 A1 c1 B1 d1 A2 c2 B2 d2).toArray 28)
  have ka := Kept.alloc noBlock w2 (.cells (threeV s0 s1 s2 A0 c0 B0 d0 A1 c1 B1 d1 A2 c2 B2 d2).toArray 28)
  obtain ⟨PX, hX⟩ : ∃ X, X = w2.heap.size := ⟨_, rfl⟩
  unfold threeV
  go_upto_region 4 with (fail)
  change Code.wp _ _ _ _ (w2.alloc (.cells (threeV s0 s1 s2 A0 c0 B0 d0 A1 c1 B1 d1 A2 c2 B2 d2).toArray 28))
  rw [← hX] at hx ⊢
  generalize w2.alloc (.cells (threeV s0 s1 s2 A0 c0 B0 d0 A1 c1 B1 d1 A2 c2 B2 d2).toArray 28) = u2 at hx ka ⊢
  obtain ⟨ch1, ch2, ch3, ch4⟩ := CH.out
  have hi2 : 0 ≤ s2.index ∧ s2.index ≤ 80 := by have := SF.out.1; have := LE.out; rw [ch4]; omega
  have ht2 : 0 ≤ s2.term ∧ s2.term ≤ 80 := by have := SF.out.2.1; have := SF.out.2.2.1; rw [ch4]; omega
  clear ch4
  have ch5 := chain_more ch2.rt hi2.2 ht2.2 more
  obtain ⟨es, hes⟩ : ∃ es, es = entsOf (more.take 80) (s2.index + 1) s2.term := ⟨_, rfl⟩
  obtain ⟨sl, hsl⟩ : ∃ sl, sl = foldV s2 es := ⟨_, rfl⟩
  rw [← hes, ← hsl] at ch5
  have hm : es.length ≤ 80 := by rw [hes, entsOf_length, List.length_take]; omega
  have EN2 := Lib.hid (fun u (k : Kept noBlock w u) => EN.out (s2.index + 1) s2.term u k (by omega) (by omega) (by omega) (by omega))
  rw [← hes] at EN2
  have fo := fun (G : Nat → Prop) u A c B d A' cc (hsv : Sv u G s2 A c B d) (h1 : Lies u G A' (entCells es)) (h3 : es.length ≤ cc) => fold_any G s2 A c B d A' es.length cc es u hsv ch2.rt h1 rfl h3 (by omega)
  rw [← hsl] at fo
  obtain ⟨m, hml⟩ : ∃ m, m = es.length := ⟨_, rfl⟩
  rw [← hml] at fo EN2 hm
  unfold stv at fo
  have FO := Lib.hid fo
  have V0 := Lib.hid ((SV.out.1.kept ka).mono (G := Aw) (fun _ _ => trivial))
  have V1 := Lib.hid ((SV.out.2.1.kept ka).mono (G := Aw) (fun _ _ => trivial))
  have V2 := Lib.hid ((SV.out.2.2.kept ka).mono (G := Aw) (fun _ _ => trivial))
  have HX := Lib.hid hx
  have K2 := Lib.hid (K1.out.step (k2.step ka))
  have CE : Hid (∀ v, Kept noBlock u2 v → v.cell? ⟨PX, 8, none⟩ = some (.int .i64 s2.index) ∧ v.cell? ⟨PX, 9, none⟩ = some (.int .i64 s2.term) ∧ v.cell? ⟨PX, 10, none⟩ = some (.slice A2 s2.pairs.length c2) ∧ v.cell? ⟨PX, 11, none⟩ = some (.slice B2 s2.sess.length d2)) := fun v k => by
    obtain ⟨_, _, _, _, _, _, _, _, x8, x9, x10, x11⟩ := th_cells (k.blk HX.out (fun h => h))
    exact ⟨x8, x9, x10, x11⟩
  have CH1 := Lib.hid ch1
  have CH2 := Lib.hid ch2
  have CH5 := Lib.hid ch5
  have HML := Lib.hid hml
  clear hx ka hX k2 SV CH ch1 ch2 ch3 ch5 TH K1 EN SF LE hes hsl fo hml
  obtain ⟨ix, hix⟩ : ∃ ix, ix = s2.index := ⟨_, rfl⟩
  rw [← hix] at hi2
  have HIX := Lib.hid hix
  have HWR : Hid (IntKind.i64.wrap (ix + 1) = ix + 1) := IntWalk.i64_in _ (by omega)
  rw [← hix] at EN2 CE FO
  clear hix
  go_cut [10] (fun p wc => ∃ X A' c' B' d', p = .pointer (some ⟨X, 0, none⟩) ∧ Hid (wc.heap[X]? = some (.cells #[.int .i64 sl.index, .int .i64 sl.term, .slice A' sl.pairs.length c', .slice B' sl.sess.length d'] 27 (0, 0))) ∧ Hid (Sv wc (fun _ => True) sl A' c' B' d') ∧ Hid (Kept noBlock u2 wc))
  case first =>
    have KC : Hid (Kept noBlock u2 u2.drew) := Kept.drew _ _
    skip
    refine wp_region_noPanic ?_
    refine wp_region_any_drew (by kernel_rfl) ?_
    refine wpAny_tail (S := fun v => v.cell? ⟨PX, 8, none⟩ = some (.int .i64 ix) ∧ v.cell? ⟨PX, 9, none⟩ = some (.int .i64 s2.term) ∧ v.cell? ⟨PX, 10, none⟩ = some (.slice A2 s2.pairs.length c2) ∧ v.cell? ⟨PX, 11, none⟩ = some (.slice B2 s2.sess.length d2)) 13 13 (CE.out _ KC.out) (fun hHeld => ?_)
    refine wpAnyT_take (i := 0) (oi := ⟨some 31, Op.indexAddr 28 (Operand.tmp 9) (Operand.const (Value.int IntKind.i64 2)), 0, _, _, none⟩) (v := ?v0n29k1) rfl (by kernel_rfl) (by kernel_rfl) (by kernel_rfl) (fun _ _ _ h => h) (Or.inl ⟨by rfl, ?y0n29k1⟩) hHeld ?z0n29k1
    case y0n29k1 => intro w hSw; (try dsimp only at hSw); go_simp <;> rfl
    try simp only [Act.put, List.setIfInBounds_toArray, List.set_cons_zero, List.set_cons_succ]
    refine wpAnyT_take (i := 1) (oi := ⟨some 32, Op.load 27 (Operand.tmp 31), 27, _, _, none⟩) (v := ?v1n29k2) rfl (by kernel_rfl) (by kernel_rfl) (by kernel_rfl) (fun _ _ _ h => h) (Or.inl ⟨by rfl, ?y1n29k2⟩) hHeld ?z1n29k2
    case y1n29k2 => intro w hSw; (try dsimp only at hSw); go_simp <;> rfl
    try simp only [Act.put, List.setIfInBounds_toArray, List.set_cons_zero, List.set_cons_succ]
    refine wpAnyT_take (i := 2) (oi := ⟨some 33, Op.move (Operand.tmp 1), 22, _, _, none⟩) (v := ?v2n29k3) rfl (by kernel_rfl) (by kernel_rfl) (by kernel_rfl) (fun _ _ _ h => h) (Or.inl ⟨by rfl, ?y2n29k3⟩) hHeld ?z2n29k3
    case y2n29k3 => intro w hSw; (try dsimp only at hSw); go_simp <;> rfl
    try simp only [Act.put, List.setIfInBounds_toArray, List.set_cons_zero, List.set_cons_succ]
    refine wpAnyT_take (i := 3) (oi := ⟨some 34, Op.indexAddr 28 (Operand.tmp 9) (Operand.const (Value.int IntKind.i64 2)), 0, _, _, none⟩) (v := ?v3n29k4) rfl (by kernel_rfl) (by kernel_rfl) (by kernel_rfl) (fun _ _ _ h => h) (Or.inl ⟨by rfl, ?y3n29k4⟩) hHeld ?z3n29k4
    case y3n29k4 => intro w hSw; (try dsimp only at hSw); go_simp <;> rfl
    try simp only [Act.put, List.setIfInBounds_toArray, List.set_cons_zero, List.set_cons_succ]
    refine wpAnyT_take (i := 4) (oi := ⟨some 35, Op.fieldAddr 27 (Operand.tmp 34) 0, 0, _, _, none⟩) (v := ?v4n29k5) rfl (by kernel_rfl) (by kernel_rfl) (by kernel_rfl) (fun _ _ _ h => h) (Or.inl ⟨by rfl, ?y4n29k5⟩) hHeld ?z4n29k5
    case y4n29k5 => intro w hSw; (try dsimp only at hSw); go_simp <;> rfl
    try simp only [Act.put, List.setIfInBounds_toArray, List.set_cons_zero, List.set_cons_succ]
    refine wpAnyT_take (i := 5) (oi := ⟨some 36, Op.load 3 (Operand.tmp 35), 3, _, _, none⟩) (v := ?v5n29k6) rfl (by kernel_rfl) (by kernel_rfl) (by kernel_rfl) (fun _ _ _ h => h) (Or.inl ⟨by rfl, ?y5n29k6⟩) hHeld ?z5n29k6
    case y5n29k6 => intro w hSw; (try dsimp only at hSw); go_simp <;> rfl
    try simp only [Act.put, List.setIfInBounds_toArray, List.set_cons_zero, List.set_cons_succ]
    refine wpAnyT_take (i := 6) (oi := ⟨some 37, Op.binOp BinOp.add 3 (Operand.tmp 36) (Operand.const (Value.int IntKind.i64 1)) 3, 3, _, _, none⟩) (v := ?v6n29k7) rfl (by kernel_rfl) (by kernel_rfl) (by kernel_rfl) (fun _ _ _ h => h) (Or.inl ⟨by rfl, ?y6n29k7⟩) hHeld ?z6n29k7
    case y6n29k7 => intro w hSw; (try dsimp only at hSw); go_simp <;> rfl
    try simp only [Act.put, List.setIfInBounds_toArray, List.set_cons_zero, List.set_cons_succ]
    refine wpAnyT_take (i := 7) (oi := ⟨some 38, Op.indexAddr 28 (Operand.tmp 9) (Operand.const (Value.int IntKind.i64 2)), 0, _, _, none⟩) (v := ?v7n29k8) rfl (by kernel_rfl) (by kernel_rfl) (by kernel_rfl) (fun _ _ _ h => h) (Or.inl ⟨by rfl, ?y7n29k8⟩) hHeld ?z7n29k8
    case y7n29k8 => intro w hSw; (try dsimp only at hSw); go_simp <;> rfl
    try simp only [Act.put, List.setIfInBounds_toArray, List.set_cons_zero, List.set_cons_succ]
    refine wpAnyT_take (i := 8) (oi := ⟨some 39, Op.fieldAddr 27 (Operand.tmp 38) 1, 0, _, _, none⟩) (v := ?v8n29k9) rfl (by kernel_rfl) (by kernel_rfl) (by kernel_rfl) (fun _ _ _ h => h) (Or.inl ⟨by rfl, ?y8n29k9⟩) hHeld ?z8n29k9
    case y8n29k9 => intro w hSw; (try dsimp only at hSw); go_simp <;> rfl
    try simp only [Act.put, List.setIfInBounds_toArray, List.set_cons_zero, List.set_cons_succ]
    refine wpAnyT_take (i := 9) (oi := ⟨some 40, Op.load 3 (Operand.tmp 39), 3, _, _, none⟩) (v := ?v9n29k10) rfl (by kernel_rfl) (by kernel_rfl) (by kernel_rfl) (fun _ _ _ h => h) (Or.inl ⟨by rfl, ?y9n29k10⟩) hHeld ?z9n29k10
    case y9n29k10 => intro w hSw; (try dsimp only at hSw); go_simp <;> rfl
    try simp only [Act.put, List.setIfInBounds_toArray, List.set_cons_zero, List.set_cons_succ]
    refine wpAnyT_ready (rs := [10, 12]) (by kernel_rfl) (by simp) ?_
    refine (AllReadyT.cons (o := ⟨some 41, Op.call { callee := Callee.value (Operand.func 20), args := #[Operand.tmp 33, Operand.tmp 37, Operand.tmp 40], argTypes := #[22, 3, 3] }, 52, _, _, none⟩) rfl (fun K hK => ?b10n29k12) (AllReadyT.cons (o := ⟨some 10, Op.alloc 27, 0, _, _, none⟩) rfl (fun K hK => ?b12n29k11) AllReadyT.nil))
    case b10n29k12 =>
      go_simp
      rw [HWR.out]
      refine (EN2.out _ (K2.out.step KC.out)).mono ?_
      rintro e u10 ⟨A10, c10, rfl, h10, k10⟩
      have hc10 : m ≤ c10 := by obtain ⟨_, _, e, hle⟩ := own_form h10; injection e with _ _ e; omega
      have L10 := Lib.hid (Lies.of_rows (F := Aw) h10 (fun _ _ => trivial))
      try have HXX2 := Lib.hid (k10.blk HXX.out (fun h => h))
      try clear HXX
      try have HXX := HXX2
      try clear HXX2
      replace KC := Lib.hid (KC.out.step k10)
      clear h10 k10
      dsimp only
      refine hK.out _ _ (CE.out _ KC.out) (fun hHeld => ?_)
      clear hK K
      try simp only [Act.put, List.setIfInBounds_toArray, List.set_cons_zero, List.set_cons_succ]
      refine wpAnyT_ready (rs := [11, 12]) (by kernel_rfl) (by simp) ?_
      refine (AllReadyT.cons (o := ⟨some 42, Op.call { callee := Callee.value (Operand.func 19), args := #[Operand.tmp 32, Operand.tmp 41], argTypes := #[27, 52] }, 27, _, _, none⟩) rfl (fun K hK => ?b11n29k14) (AllReadyT.cons (o := ⟨some 10, Op.alloc 27, 0, _, _, none⟩) rfl (fun K hK => ?b12n29k13) AllReadyT.nil))
      case b11n29k14 =>
        go_simp
        refine (FO.out _ _ _ _ _ _ _ _ (V2.out.kept KC.out) L10.out hc10).mono ?_
        rintro e u11 ⟨A11, c11, B11, d11, rfl, sv11, k11⟩
        first
          | have SV11 := Lib.hid (sv11.mono (G := fun i => i ≠ XX) (fun i hi e => by have h1 := hi.1; have h2 := lt_of_blk HXX.out; omega))
          | have SV11 := Lib.hid (sv11.mono (G := fun _ => True) (fun _ _ => trivial))
        try have HXX2 := Lib.hid (k11.blk HXX.out (fun h => h))
        try clear HXX
        try have HXX := HXX2
        try clear HXX2
        replace KC := Lib.hid (KC.out.step k11)
        clear sv11 k11 L10
        dsimp only
        refine hK.out _ _ (CE.out _ KC.out) (fun hHeld => ?_)
        clear hK K
        try simp only [Act.put, List.setIfInBounds_toArray, List.set_cons_zero, List.set_cons_succ]
        refine wpAnyT_ready (rs := [12]) (by kernel_rfl) (by simp) ?_
        refine AllReadyT.cons (o := ⟨some 10, Op.alloc 27, 0, _, _, none⟩) rfl (fun K hK => ?_) AllReadyT.nil
        refine step_allocT ?_
        intro XX u12 k12 hX12 hx12
        have HXX := Lib.hid hx12
        have LX : Hid (u2.heap.size ≤ XX) := Nat.le_trans KC.out.size hX12
        replace KC := Lib.hid (KC.out.step k12)
        try have L12 := Lib.hid (L10.out.keep k12 (fun _ _ h => h))
        try clear L10
        try have L10 := L12
        try clear L12
        try have SV12 := Lib.hid ((SV11.out.lt.kept k12).mono (G := fun i => i ≠ XX) (fun i hi e => by omega))
        try clear SV11
        try have SV11 := SV12
        try clear SV12
        clear k12 hX12 hx12
        refine hK.out _ _ (CE.out _ KC.out) (fun hHeld => ?_)
        clear hK K
        try simp only [Act.put, List.setIfInBounds_toArray, List.set_cons_zero, List.set_cons_succ]
        refine wpAnyT_done (by kernel_rfl) ?_
        simp only [List.drop_succ_cons, List.drop_zero]
        obtain ⟨r0, r1, r2, r3⟩ := st_cells HXX.out
        have hfz : ∀ u : World, u.heap[XX]? = some (.cells #[.int .i64 0, .int .i64 0, .slice none 0 0, .slice none 0 0] 27 (0, 0)) → ∀ j, u.frozen? ⟨XX, j, none⟩ = false := fun u hu j => frozen_of_row _ _ _ _ _ hu
        have f0 := hfz _ HXX.out 0
        have f1 := hfz _ HXX.out 1
        have f2 := hfz _ HXX.out 2
        have f3 := hfz _ HXX.out 3
        have R := Lib.hid (fold_end HXX.out SV11.out KC.out LX.out)
        clear hfz
        go_wp2
        refine NoPanic.normal ?_
        go_wp2
        go_meet
        case rel => exact R.out
      case b12n29k13 =>
        refine step_allocT ?_
        intro XX u12 k12 hX12 hx12
        have HXX := Lib.hid hx12
        have LX : Hid (u2.heap.size ≤ XX) := Nat.le_trans KC.out.size hX12
        replace KC := Lib.hid (KC.out.step k12)
        try have L12 := Lib.hid (L10.out.keep k12 (fun _ _ h => h))
        try clear L10
        try have L10 := L12
        try clear L12
        try have SV12 := Lib.hid ((SV11.out.lt.kept k12).mono (G := fun i => i ≠ XX) (fun i hi e => by omega))
        try clear SV11
        try have SV11 := SV12
        try clear SV12
        clear k12 hX12 hx12
        refine hK.out _ _ (CE.out _ KC.out) (fun hHeld => ?_)
        clear hK K
        try simp only [Act.put, List.setIfInBounds_toArray, List.set_cons_zero, List.set_cons_succ]
        refine wpAnyT_ready (rs := [11]) (by kernel_rfl) (by simp) ?_
        refine AllReadyT.cons (o := ⟨some 42, Op.call { callee := Callee.value (Operand.func 19), args := #[Operand.tmp 32, Operand.tmp 41], argTypes := #[27, 52] }, 27, _, _, none⟩) rfl (fun K hK => ?_) AllReadyT.nil
        go_simp
        refine (FO.out _ _ _ _ _ _ _ _ (V2.out.kept KC.out) L10.out hc10).mono ?_
        rintro e u11 ⟨A11, c11, B11, d11, rfl, sv11, k11⟩
        first
          | have SV11 := Lib.hid (sv11.mono (G := fun i => i ≠ XX) (fun i hi e => by have h1 := hi.1; have h2 := lt_of_blk HXX.out; omega))
          | have SV11 := Lib.hid (sv11.mono (G := fun _ => True) (fun _ _ => trivial))
        try have HXX2 := Lib.hid (k11.blk HXX.out (fun h => h))
        try clear HXX
        try have HXX := HXX2
        try clear HXX2
        replace KC := Lib.hid (KC.out.step k11)
        clear sv11 k11 L10
        dsimp only
        refine hK.out _ _ (CE.out _ KC.out) (fun hHeld => ?_)
        clear hK K
        try simp only [Act.put, List.setIfInBounds_toArray, List.set_cons_zero, List.set_cons_succ]
        refine wpAnyT_done (by kernel_rfl) ?_
        simp only [List.drop_succ_cons, List.drop_zero]
        obtain ⟨r0, r1, r2, r3⟩ := st_cells HXX.out
        have hfz : ∀ u : World, u.heap[XX]? = some (.cells #[.int .i64 0, .int .i64 0, .slice none 0 0, .slice none 0 0] 27 (0, 0)) → ∀ j, u.frozen? ⟨XX, j, none⟩ = false := fun u hu j => frozen_of_row _ _ _ _ _ hu
        have f0 := hfz _ HXX.out 0
        have f1 := hfz _ HXX.out 1
        have f2 := hfz _ HXX.out 2
        have f3 := hfz _ HXX.out 3
        have R := Lib.hid (fold_end HXX.out SV11.out KC.out LX.out)
        clear hfz
        go_wp2
        refine NoPanic.normal ?_
        go_wp2
        go_meet
        case rel => exact R.out
    case b12n29k11 =>
      refine step_allocT ?_
      intro XX u12 k12 hX12 hx12
      have HXX := Lib.hid hx12
      have LX : Hid (u2.heap.size ≤ XX) := Nat.le_trans KC.out.size hX12
      replace KC := Lib.hid (KC.out.step k12)
      try have L12 := Lib.hid (L10.out.keep k12 (fun _ _ h => h))
      try clear L10
      try have L10 := L12
      try clear L12
      try have SV12 := Lib.hid ((SV11.out.lt.kept k12).mono (G := fun i => i ≠ XX) (fun i hi e => by omega))
      try clear SV11
      try have SV11 := SV12
      try clear SV12
      clear k12 hX12 hx12
      refine hK.out _ _ (CE.out _ KC.out) (fun hHeld => ?_)
      clear hK K
      try simp only [Act.put, List.setIfInBounds_toArray, List.set_cons_zero, List.set_cons_succ]
      refine wpAnyT_ready (rs := [10]) (by kernel_rfl) (by simp) ?_
      refine AllReadyT.cons (o := ⟨some 41, Op.call { callee := Callee.value (Operand.func 20), args := #[Operand.tmp 33, Operand.tmp 37, Operand.tmp 40], argTypes := #[22, 3, 3] }, 52, _, _, none⟩) rfl (fun K hK => ?_) AllReadyT.nil
      go_simp
      rw [HWR.out]
      refine (EN2.out _ (K2.out.step KC.out)).mono ?_
      rintro e u10 ⟨A10, c10, rfl, h10, k10⟩
      have hc10 : m ≤ c10 := by obtain ⟨_, _, e, hle⟩ := own_form h10; injection e with _ _ e; omega
      have L10 := Lib.hid (Lies.of_rows (F := Aw) h10 (fun _ _ => trivial))
      try have HXX2 := Lib.hid (k10.blk HXX.out (fun h => h))
      try clear HXX
      try have HXX := HXX2
      try clear HXX2
      replace KC := Lib.hid (KC.out.step k10)
      clear h10 k10
      dsimp only
      refine hK.out _ _ (CE.out _ KC.out) (fun hHeld => ?_)
      clear hK K
      try simp only [Act.put, List.setIfInBounds_toArray, List.set_cons_zero, List.set_cons_succ]
      refine wpAnyT_ready (rs := [11]) (by kernel_rfl) (by simp) ?_
      refine AllReadyT.cons (o := ⟨some 42, Op.call { callee := Callee.value (Operand.func 19), args := #[Operand.tmp 32, Operand.tmp 41], argTypes := #[27, 52] }, 27, _, _, none⟩) rfl (fun K hK => ?_) AllReadyT.nil
      go_simp
      refine (FO.out _ _ _ _ _ _ _ _ (V2.out.kept KC.out) L10.out hc10).mono ?_
      rintro e u11 ⟨A11, c11, B11, d11, rfl, sv11, k11⟩
      first
        | have SV11 := Lib.hid (sv11.mono (G := fun i => i ≠ XX) (fun i hi e => by have h1 := hi.1; have h2 := lt_of_blk HXX.out; omega))
        | have SV11 := Lib.hid (sv11.mono (G := fun _ => True) (fun _ _ => trivial))
      try have HXX2 := Lib.hid (k11.blk HXX.out (fun h => h))
      try clear HXX
      try have HXX := HXX2
      try clear HXX2
      replace KC := Lib.hid (KC.out.step k11)
      clear sv11 k11 L10
      dsimp only
      refine hK.out _ _ (CE.out _ KC.out) (fun hHeld => ?_)
      clear hK K
      try simp only [Act.put, List.setIfInBounds_toArray, List.set_cons_zero, List.set_cons_succ]
      refine wpAnyT_done (by kernel_rfl) ?_
      simp only [List.drop_succ_cons, List.drop_zero]
      obtain ⟨r0, r1, r2, r3⟩ := st_cells HXX.out
      have hfz : ∀ u : World, u.heap[XX]? = some (.cells #[.int .i64 0, .int .i64 0, .slice none 0 0, .slice none 0 0] 27 (0, 0)) → ∀ j, u.frozen? ⟨XX, j, none⟩ = false := fun u hu j => frozen_of_row _ _ _ _ _ hu
      have f0 := hfz _ HXX.out 0
      have f1 := hfz _ HXX.out 1
      have f2 := hfz _ HXX.out 2
      have f3 := hfz _ HXX.out 3
      have R := Lib.hid (fold_end HXX.out SV11.out KC.out LX.out)
      clear hfz
      go_wp2
      refine NoPanic.normal ?_
      go_wp2
      go_meet
      case rel => exact R.out
  case rest =>
    obtain ⟨Pl, Al, cl, Bl, dl, rfl, HL4, SL4, KU⟩ := hcut
    have u4e : ∃ u4, u4 = wc := ⟨_, rfl⟩
    obtain ⟨u4, hu4⟩ := u4e
    rw [← hu4] at HL4 SL4 KU ⊢
    clear hu4
    have Hl0 := HL4
    have Vl0 : Hid (Sv u4 Aw sl Al cl Bl dl) := SL4.out.mono (fun _ _ => trivial)
    have HX0 := Lib.hid (KU.out.blk HX.out (fun h => h))
    have Vs00 := Lib.hid (V0.out.kept KU.out)
    have Vs10 := Lib.hid (V1.out.kept KU.out)
    have Vs20 := Lib.hid (V2.out.kept KU.out)
    have K0 := Lib.hid (K2.out.step KU.out)
    have hc1 := CH1.out
    have hc2 := CH2.out
    have hc5 := CH5.out
    obtain ⟨jn1, _, jr1⟩ := join_chain hc1 hc2
    obtain ⟨jn2, _, jr2⟩ := join_chain hc2 hc5
    obtain ⟨jn3, jr3⟩ := join_left hc1 hc2 hc5
    have jn4 := join_right hc1 hc2 hc5
    have be1 := between_at hB hc1
    have be2 := between_at hB hc2
    have be3 := between_at hB hc5
    have jo1 := join_at hJ hc1.delta.2.2 hc2.delta.2.2 jn1
    have jo2 := join_at hJ hc2.delta.2.2 hc5.delta.2.2 jn2
    have jo3 := join_at hJ jr1 hc5.delta.2.2 jn3
    have jo4 := join_at hJ hc1.delta.2.2 jr2 jn4
    have sm := fun u A c B d A' c' B' d' (h1 : Dv u Aw (eOf s0 s1 s2 sl) A c B d) (h2 : Dv u Aw (eOf s0 s1 s2 sl) A' c' B' d') => hS Aw Aw (eOf s0 s1 s2 sl) A c B d (eOf s0 s1 s2 sl) A' c' B' d' u h1 h2 (delta_bytes jr3) (delta_bytes jr3)
    rw [decide_eq_true rfl] at sm
    obtain ⟨da, hda⟩ : ∃ d, d = dOf s0 s1 := ⟨_, rfl⟩
    obtain ⟨db, hdb⟩ : ∃ d, d = dOf s1 s2 := ⟨_, rfl⟩
    obtain ⟨dc, hdc⟩ : ∃ d, d = dOf s2 sl := ⟨_, rfl⟩
    obtain ⟨dab, hdab⟩ : ∃ d, d = cOf s0 s1 s2 := ⟨_, rfl⟩
    obtain ⟨dbc, hdbc⟩ : ∃ d, d = cOf s1 s2 sl := ⟨_, rfl⟩
    obtain ⟨dz, hdz⟩ : ∃ d, d = eOf s0 s1 s2 sl := ⟨_, rfl⟩
    rw [← hda] at be1 jo1 jo4
    rw [← hdb] at be2 jo1 jo2
    rw [← hdc] at be3 jo2 jo3
    rw [← hdab] at jo1 jo3
    rw [← hdbc] at jo2 jo4
    rw [← hdz] at jo3 jo4 sm
    clear hda hdb hdc hdab hdbc hdz jn1 jn2 jn3 jn4 jr1 jr2 jr3 hc1 hc2 hc5
    unfold stv dtv at be1 be2 be3
    unfold dtv at jo1 jo2 jo3 jo4 sm
    have BE1 := Lib.hid be1
    have BE2 := Lib.hid be2
    have BE3 := Lib.hid be3
    have JO1 := Lib.hid jo1
    have JO2 := Lib.hid jo2
    have JO3 := Lib.hid jo3
    have JO4 := Lib.hid jo4
    have SM := Lib.hid sm
    clear be1 be2 be3 jo1 jo2 jo3 jo4 sm HL4 SL4 KU V0 V1 V2 HX K2 CE CH1 CH2 CH5 EN2 FO HML HIX hi2 ht2 hm hB hD hJ hS
    go_upto_region 5 with (fail)
    obtain ⟨qX0, qX1, qX2, qX3, qX4, qX5, qX6, qX7, qX8, qX9, qX10, qX11⟩ := th_cells HX0.out
    go_wp2_with fail
    refine (BE1.out u4 _ _ _ _ _ _ _ _ Vs00.out Vs10.out).mono ?_
    rintro en y1 ⟨xAa, xca, xBa, xda, rfl, sv, kc⟩
    have ka := Kept.alloc noBlock y1 (.cells #[.int .i64 da.from_, .int .i64 da.to_, .int .i64 da.term, .slice xAa da.pairs.length xca, .slice xBa da.sess.length xda] 31)
    have ha := heap_alloc_new y1 (.cells #[.int .i64 da.from_, .int .i64 da.to_, .int .i64 da.term, .slice xAa da.pairs.length xca, .slice xBa da.sess.length xda] 31)
    clear qX0 qX1 qX2 qX3 qX4 qX5 qX6 qX7 qX8 qX9 qX10 qX11
    go_upto_region 6 with (fail)
    obtain ⟨Pa, hP⟩ : ∃ P, P = y1.heap.size := ⟨_, rfl⟩
    rw [← hP] at ha ⊢
    generalize y1.alloc (.cells #[.int .i64 da.from_, .int .i64 da.to_, .int .i64 da.term, .slice xAa da.pairs.length xca, .slice xBa da.sess.length xda] 31) = z1 at ka ha ⊢
    have kk := kc.step ka
    have HX1 := Lib.hid (kk.blk HX0.out (fun h => h))
    have Hl1 := Lib.hid (kk.blk Hl0.out (fun h => h))
    have Vs01 := Lib.hid (Vs00.out.kept kk)
    have Vs11 := Lib.hid (Vs10.out.kept kk)
    have Vs21 := Lib.hid (Vs20.out.kept kk)
    have Vl1 := Lib.hid (Vl0.out.kept kk)
    have Ha0 := Lib.hid ha
    have Va0 := Lib.hid (sv.kept ka)
    have K1 := Lib.hid (K0.out.step kk)
    clear ka ha hP sv kc kk HX0 Hl0 Vs00 Vs10 Vs20 Vl0 K0
    obtain ⟨qX0, qX1, qX2, qX3, qX4, qX5, qX6, qX7, qX8, qX9, qX10, qX11⟩ := th_cells HX1.out
    go_wp2_with fail
    refine (BE2.out z1 _ _ _ _ _ _ _ _ Vs11.out Vs21.out).mono ?_
    rintro en y2 ⟨xAb, xcb, xBb, xdb, rfl, sv, kc⟩
    have ka := Kept.alloc noBlock y2 (.cells #[.int .i64 db.from_, .int .i64 db.to_, .int .i64 db.term, .slice xAb db.pairs.length xcb, .slice xBb db.sess.length xdb] 31)
    have ha := heap_alloc_new y2 (.cells #[.int .i64 db.from_, .int .i64 db.to_, .int .i64 db.term, .slice xAb db.pairs.length xcb, .slice xBb db.sess.length xdb] 31)
    clear qX0 qX1 qX2 qX3 qX4 qX5 qX6 qX7 qX8 qX9 qX10 qX11
    go_upto_region 7 with (fail)
    obtain ⟨Pb, hP⟩ : ∃ P, P = y2.heap.size := ⟨_, rfl⟩
    rw [← hP] at ha ⊢
    generalize y2.alloc (.cells #[.int .i64 db.from_, .int .i64 db.to_, .int .i64 db.term, .slice xAb db.pairs.length xcb, .slice xBb db.sess.length xdb] 31) = z2 at ka ha ⊢
    have kk := kc.step ka
    have HX2 := Lib.hid (kk.blk HX1.out (fun h => h))
    have Hl2 := Lib.hid (kk.blk Hl1.out (fun h => h))
    have Ha1 := Lib.hid (kk.blk Ha0.out (fun h => h))
    have Vs02 := Lib.hid (Vs01.out.kept kk)
    have Vs12 := Lib.hid (Vs11.out.kept kk)
    have Vs22 := Lib.hid (Vs21.out.kept kk)
    have Vl2 := Lib.hid (Vl1.out.kept kk)
    have Va1 := Lib.hid (Va0.out.kept kk)
    have Hb0 := Lib.hid ha
    have Vb0 := Lib.hid (sv.kept ka)
    have K2 := Lib.hid (K1.out.step kk)
    clear ka ha hP sv kc kk HX1 Hl1 Ha0 Vs01 Vs11 Vs21 Vl1 Va0 K1
    obtain ⟨qX0, qX1, qX2, qX3, qX4, qX5, qX6, qX7, qX8, qX9, qX10, qX11⟩ := th_cells HX2.out
    obtain ⟨ql0, ql1, ql2, ql3⟩ := st_cells Hl2.out
    go_wp2_with fail
    refine (BE3.out z2 _ _ _ _ _ _ _ _ Vs22.out Vl2.out).mono ?_
    rintro en y3 ⟨xAc, xcc, xBc, xdc, rfl, sv, kc⟩
    have ka := Kept.alloc noBlock y3 (.cells #[.int .i64 dc.from_, .int .i64 dc.to_, .int .i64 dc.term, .slice xAc dc.pairs.length xcc, .slice xBc dc.sess.length xdc] 31)
    have ha := heap_alloc_new y3 (.cells #[.int .i64 dc.from_, .int .i64 dc.to_, .int .i64 dc.term, .slice xAc dc.pairs.length xcc, .slice xBc dc.sess.length xdc] 31)
    clear qX0 qX1 qX2 qX3 qX4 qX5 qX6 qX7 qX8 qX9 qX10 qX11 ql0 ql1 ql2 ql3
    go_upto_region 8 with (fail)
    obtain ⟨Pc, hP⟩ : ∃ P, P = y3.heap.size := ⟨_, rfl⟩
    rw [← hP] at ha ⊢
    generalize y3.alloc (.cells #[.int .i64 dc.from_, .int .i64 dc.to_, .int .i64 dc.term, .slice xAc dc.pairs.length xcc, .slice xBc dc.sess.length xdc] 31) = z3 at ka ha ⊢
    have kk := kc.step ka
    have HX3 := Lib.hid (kk.blk HX2.out (fun h => h))
    have Hl3 := Lib.hid (kk.blk Hl2.out (fun h => h))
    have Ha2 := Lib.hid (kk.blk Ha1.out (fun h => h))
    have Hb1 := Lib.hid (kk.blk Hb0.out (fun h => h))
    have Vs03 := Lib.hid (Vs02.out.kept kk)
    have Vs13 := Lib.hid (Vs12.out.kept kk)
    have Vs23 := Lib.hid (Vs22.out.kept kk)
    have Vl3 := Lib.hid (Vl2.out.kept kk)
    have Va2 := Lib.hid (Va1.out.kept kk)
    have Vb1 := Lib.hid (Vb0.out.kept kk)
    have Hc0 := Lib.hid ha
    have Vc0 := Lib.hid (sv.kept ka)
    have K3 := Lib.hid (K2.out.step kk)
    clear ka ha hP sv kc kk HX2 Hl2 Ha1 Hb0 Vs02 Vs12 Vs22 Vl2 Va1 Vb0 K2
    clear Vs03
    clear Vs13
    clear Vs23
    clear Hl3 Vl3
    clear HX3
    obtain ⟨qa0, qa1, qa2, qa3, qa4⟩ := dl_cells Ha2.out
    obtain ⟨qb0, qb1, qb2, qb3, qb4⟩ := dl_cells Hb1.out
    go_wp2_with fail
    refine (JO1.out z3 _ _ _ _ _ _ _ _ Va2.out Vb1.out).mono ?_
    rintro en y4 ⟨xAe, xce, xBe, xde, rfl, sv, kc⟩
    have ka := Kept.alloc noBlock y4 (.cells #[.int .i64 dab.from_, .int .i64 dab.to_, .int .i64 dab.term, .slice xAe dab.pairs.length xce, .slice xBe dab.sess.length xde] 31)
    have ha := heap_alloc_new y4 (.cells #[.int .i64 dab.from_, .int .i64 dab.to_, .int .i64 dab.term, .slice xAe dab.pairs.length xce, .slice xBe dab.sess.length xde] 31)
    clear qa0 qa1 qa2 qa3 qa4 qb0 qb1 qb2 qb3 qb4
    go_upto_region 9 with (fail)
    obtain ⟨Pe, hP⟩ : ∃ P, P = y4.heap.size := ⟨_, rfl⟩
    rw [← hP] at ha ⊢
    generalize y4.alloc (.cells #[.int .i64 dab.from_, .int .i64 dab.to_, .int .i64 dab.term, .slice xAe dab.pairs.length xce, .slice xBe dab.sess.length xde] 31) = z4 at ka ha ⊢
    have kk := kc.step ka
    have Ha3 := Lib.hid (kk.blk Ha2.out (fun h => h))
    have Hb2 := Lib.hid (kk.blk Hb1.out (fun h => h))
    have Hc1 := Lib.hid (kk.blk Hc0.out (fun h => h))
    have Va3 := Lib.hid (Va2.out.kept kk)
    have Vb2 := Lib.hid (Vb1.out.kept kk)
    have Vc1 := Lib.hid (Vc0.out.kept kk)
    have He0 := Lib.hid ha
    have Ve0 := Lib.hid (sv.kept ka)
    have K4 := Lib.hid (K3.out.step kk)
    clear ka ha hP sv kc kk Ha2 Hb1 Hc0 Va2 Vb1 Vc0 K3
    obtain ⟨qb0, qb1, qb2, qb3, qb4⟩ := dl_cells Hb2.out
    obtain ⟨qc0, qc1, qc2, qc3, qc4⟩ := dl_cells Hc1.out
    go_wp2_with fail
    refine (JO2.out z4 _ _ _ _ _ _ _ _ Vb2.out Vc1.out).mono ?_
    rintro en y5 ⟨xAf, xcf, xBf, xdf, rfl, sv, kc⟩
    have ka := Kept.alloc noBlock y5 (.cells #[.int .i64 dbc.from_, .int .i64 dbc.to_, .int .i64 dbc.term, .slice xAf dbc.pairs.length xcf, .slice xBf dbc.sess.length xdf] 31)
    have ha := heap_alloc_new y5 (.cells #[.int .i64 dbc.from_, .int .i64 dbc.to_, .int .i64 dbc.term, .slice xAf dbc.pairs.length xcf, .slice xBf dbc.sess.length xdf] 31)
    clear qb0 qb1 qb2 qb3 qb4 qc0 qc1 qc2 qc3 qc4
    go_upto_region 10 with (fail)
    obtain ⟨Pf, hP⟩ : ∃ P, P = y5.heap.size := ⟨_, rfl⟩
    rw [← hP] at ha ⊢
    generalize y5.alloc (.cells #[.int .i64 dbc.from_, .int .i64 dbc.to_, .int .i64 dbc.term, .slice xAf dbc.pairs.length xcf, .slice xBf dbc.sess.length xdf] 31) = z5 at ka ha ⊢
    have kk := kc.step ka
    have Ha4 := Lib.hid (kk.blk Ha3.out (fun h => h))
    have Hb3 := Lib.hid (kk.blk Hb2.out (fun h => h))
    have Hc2 := Lib.hid (kk.blk Hc1.out (fun h => h))
    have He1 := Lib.hid (kk.blk He0.out (fun h => h))
    have Va4 := Lib.hid (Va3.out.kept kk)
    have Vb3 := Lib.hid (Vb2.out.kept kk)
    have Vc2 := Lib.hid (Vc1.out.kept kk)
    have Ve1 := Lib.hid (Ve0.out.kept kk)
    have Hf0 := Lib.hid ha
    have Vf0 := Lib.hid (sv.kept ka)
    have K5 := Lib.hid (K4.out.step kk)
    clear ka ha hP sv kc kk Ha3 Hb2 Hc1 He0 Va3 Vb2 Vc1 Ve0 K4
    obtain ⟨qe0, qe1, qe2, qe3, qe4⟩ := dl_cells He1.out
    obtain ⟨qc0, qc1, qc2, qc3, qc4⟩ := dl_cells Hc2.out
    go_wp2_with fail
    refine (JO3.out z5 _ _ _ _ _ _ _ _ Ve1.out Vc2.out).mono ?_
    rintro en y6 ⟨xAg, xcg, xBg, xdg, rfl, sv, kc⟩
    have ka := Kept.alloc noBlock y6 (.cells #[.int .i64 dz.from_, .int .i64 dz.to_, .int .i64 dz.term, .slice xAg dz.pairs.length xcg, .slice xBg dz.sess.length xdg] 31)
    have ha := heap_alloc_new y6 (.cells #[.int .i64 dz.from_, .int .i64 dz.to_, .int .i64 dz.term, .slice xAg dz.pairs.length xcg, .slice xBg dz.sess.length xdg] 31)
    clear qe0 qe1 qe2 qe3 qe4 qc0 qc1 qc2 qc3 qc4
    go_upto_region 11 with (fail)
    obtain ⟨Pg, hP⟩ : ∃ P, P = y6.heap.size := ⟨_, rfl⟩
    rw [← hP] at ha ⊢
    generalize y6.alloc (.cells #[.int .i64 dz.from_, .int .i64 dz.to_, .int .i64 dz.term, .slice xAg dz.pairs.length xcg, .slice xBg dz.sess.length xdg] 31) = z6 at ka ha ⊢
    have kk := kc.step ka
    have Ha5 := Lib.hid (kk.blk Ha4.out (fun h => h))
    have Hb4 := Lib.hid (kk.blk Hb3.out (fun h => h))
    have Hc3 := Lib.hid (kk.blk Hc2.out (fun h => h))
    have He2 := Lib.hid (kk.blk He1.out (fun h => h))
    have Hf1 := Lib.hid (kk.blk Hf0.out (fun h => h))
    have Va5 := Lib.hid (Va4.out.kept kk)
    have Vb4 := Lib.hid (Vb3.out.kept kk)
    have Vc3 := Lib.hid (Vc2.out.kept kk)
    have Ve2 := Lib.hid (Ve1.out.kept kk)
    have Vf1 := Lib.hid (Vf0.out.kept kk)
    have Hg0 := Lib.hid ha
    have Vg0 := Lib.hid (sv.kept ka)
    have K6 := Lib.hid (K5.out.step kk)
    clear ka ha hP sv kc kk Ha4 Hb3 Hc2 He1 Hf0 Va4 Vb3 Vc2 Ve1 Vf0 K5
    obtain ⟨qa0, qa1, qa2, qa3, qa4⟩ := dl_cells Ha5.out
    obtain ⟨qf0, qf1, qf2, qf3, qf4⟩ := dl_cells Hf1.out
    go_wp2_with fail
    refine (JO4.out z6 _ _ _ _ _ _ _ _ Va5.out Vf1.out).mono ?_
    rintro en y7 ⟨xAh, xch, xBh, xdh, rfl, sv, kc⟩
    have ka := Kept.alloc noBlock y7 (.cells #[.int .i64 dz.from_, .int .i64 dz.to_, .int .i64 dz.term, .slice xAh dz.pairs.length xch, .slice xBh dz.sess.length xdh] 31)
    have ha := heap_alloc_new y7 (.cells #[.int .i64 dz.from_, .int .i64 dz.to_, .int .i64 dz.term, .slice xAh dz.pairs.length xch, .slice xBh dz.sess.length xdh] 31)
    clear qa0 qa1 qa2 qa3 qa4 qf0 qf1 qf2 qf3 qf4
    go_upto_region 12 with (fail)
    obtain ⟨Ph, hP⟩ : ∃ P, P = y7.heap.size := ⟨_, rfl⟩
    rw [← hP] at ha ⊢
    generalize y7.alloc (.cells #[.int .i64 dz.from_, .int .i64 dz.to_, .int .i64 dz.term, .slice xAh dz.pairs.length xch, .slice xBh dz.sess.length xdh] 31) = z7 at ka ha ⊢
    have kk := kc.step ka
    have Ha6 := Lib.hid (kk.blk Ha5.out (fun h => h))
    have Hb5 := Lib.hid (kk.blk Hb4.out (fun h => h))
    have Hc4 := Lib.hid (kk.blk Hc3.out (fun h => h))
    have He3 := Lib.hid (kk.blk He2.out (fun h => h))
    have Hf2 := Lib.hid (kk.blk Hf1.out (fun h => h))
    have Hg1 := Lib.hid (kk.blk Hg0.out (fun h => h))
    have Va6 := Lib.hid (Va5.out.kept kk)
    have Vb5 := Lib.hid (Vb4.out.kept kk)
    have Vc4 := Lib.hid (Vc3.out.kept kk)
    have Ve3 := Lib.hid (Ve2.out.kept kk)
    have Vf2 := Lib.hid (Vf1.out.kept kk)
    have Vg1 := Lib.hid (Vg0.out.kept kk)
    have Hh0 := Lib.hid ha
    have Vh0 := Lib.hid (sv.kept ka)
    have K7 := Lib.hid (K6.out.step kk)
    clear ka ha hP sv kc kk Ha5 Hb4 Hc3 He2 Hf1 Hg0 Va5 Vb4 Vc3 Ve2 Vf1 Vg0 K6
    clear Ha6 Va6
    clear Hb5 Vb5
    clear Hc4 Vc4
    clear He3 Ve3
    clear Hf2 Vf2
    obtain ⟨qg0, qg1, qg2, qg3, qg4⟩ := dl_cells Hg1.out
    obtain ⟨qh0, qh1, qh2, qh3, qh4⟩ := dl_cells Hh0.out
    go_wp2_with fail
    refine (SM.out z7 _ _ _ _ _ _ _ _ Vg1.out Vh0.out).mono ?_
    rintro en y8 ⟨rfl, kc⟩
    clear qg0 qg1 qg2 qg3 qg4 qh0 qh1 qh2 qh3 qh4
    have Hg2 := Lib.hid (kc.blk Hg1.out (fun h => h))
    have Hh1 := Lib.hid (kc.blk Hh0.out (fun h => h))
    have Vg2 := Lib.hid (Vg1.out.kept kc)
    have Vh1 := Lib.hid (Vh0.out.kept kc)
    have K8 := Lib.hid (K7.out.step kc)
    clear kc Hg1 Hh0 Vg1 Vh0 K7
    go_wp2
    go_ret
    exact ⟨rfl, K8.out⟩
end Go.Proofs.Ytfcpofobdlgbbaa
