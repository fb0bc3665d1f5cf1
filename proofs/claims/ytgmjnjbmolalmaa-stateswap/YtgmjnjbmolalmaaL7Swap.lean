/-
  The walk of StateSwap. No statement is proved here.
-/
import Derived.Test.YtgmjnjbmolalmaaL7Plc
import Derived.Test.YtgmjnjbmolalmaaL7SwapP
namespace Go.Proofs.Ytgmjnjbmolalmaa
open Go.RowKit Tot

theorem u8_mod (x : Int) : IntKind.u8.wrap x = x % 256 := by simp [IntKind.wrap, IntKind.signed, IntKind.bits]
set_option maxRecDepth 100000 in
set_option maxHeartbeats 1000000 in
theorem swap_walk (F : Nat → Prop) (a : Option Addr) (n cp : Nat) (ss : List SayV) (key v w' : UInt8) (w : World) (h : Lies w F a (sayCells ss)) (hl : ss.length = n) (hnc : n ≤ cp) :
    Calls Try.prog 10 #[.slice a n cp, .int .u8 (key.toNat : Int), .int .u8 (v.toNat : Int), .int .u8 (w'.toNat : Int)] w fun e w' => e = .returned (.bool true) ∧ Kept noBlock w w' := by
  have SOME := Lib.hid (fun u (k : Kept noBlock w u) => some_any F a n cp ss u (h.keep k (fun _ _ h => h)) hl hnc)
  obtain ⟨s, hs⟩ : ∃ s, s = someV ss := ⟨_, rfl⟩
  have hr : s.Right := by rw [hs]; exact someV_right ss
  obtain ⟨t, uu, o1, o2, hsw⟩ := swap_all ss key.toNat v.toNat w'.toNat s hs
  have hle := entsS_length ss
  obtain ⟨f1, f2, f3, _⟩ := someV_facts ss
  rw [← hs] at SOME f1 f2 f3
  have si : 0 ≤ s.index ∧ s.index ≤ 80 := by omega
  have ti : 0 ≤ t.index ∧ t.index ≤ 81 := by have := hsw.ti; omega
  have AP1 := Lib.hid (fun u F A c B d (hsv : Sv u F s A c B d) => apply_any F s A c B d ⟨s.index + 1, s.term, ⟨1, 1, 500, keyText key.toNat, xText v.toNat, noText⟩⟩ u hsv hr)
  rw [hsw.st1] at AP1
  have AP2 := Lib.hid (fun u F A c B d (hsv : Sv u F t A c B d) => apply_any F t A c B d ⟨t.index + 1, t.term, ⟨3, 1, 501, keyText key.toNat, newText, xText w'.toNat⟩⟩ u hsv hsw.tr)
  rw [hsw.st2] at AP2
  have GET := Lib.hid (fun p F A c B d (hsv : Sv p F uu A c B d) => get_any F uu A c B d (keyText key.toNat) p hsv hsw.ur)
  rw [hsw.get] at GET
  have HO := Lib.hid hsw.out
  obtain ⟨k8, hk8⟩ : ∃ k, k = key.toNat % 8 := ⟨_, rfl⟩
  obtain ⟨v10, hv10⟩ : ∃ k, k = v.toNat % 10 := ⟨_, rfl⟩
  obtain ⟨x10, hx10⟩ : ∃ k, k = w'.toNat % 10 := ⟨_, rfl⟩
  have t1 : ((key.toNat : Int)).tmod 8 = (k8 : Int) := by rw [hk8]; exact tmod_nat _ 8
  have t2 : ((v.toNat : Int)).tmod 10 = (v10 : Int) := by rw [hv10]; exact tmod_nat _ 10
  have t3 : ((w'.toNat : Int)).tmod 10 = (x10 : Int) := by rw [hx10]; exact tmod_nat _ 10
  have z1 := fun w => slice_text w ⟨#[97, 98, 99, 100, 101, 102, 103, 104]⟩ k8 (by show k8 + 1 ≤ 8; omega) (by omega)
  have z2 := fun w => slice_text w ⟨#[48, 49, 50, 51, 52, 53, 54, 55, 56, 57]⟩ v10 (by show v10 + 1 ≤ 10; omega) (by omega)
  have z3 := fun w => slice_text w ⟨#[48, 49, 50, 51, 52, 53, 54, 55, 56, 57]⟩ x10 (by show x10 + 1 ≤ 10; omega) (by omega)
  obtain ⟨K, hK⟩ : ∃ K, K = keyText key.toNat := ⟨_, rfl⟩
  obtain ⟨X, hX⟩ : ∃ X, X = xText v.toNat := ⟨_, rfl⟩
  obtain ⟨Y, hY⟩ : ∃ Y, Y = xText w'.toNat := ⟨_, rfl⟩
  rw [← hK] at AP1 AP2 GET
  rw [← hX] at AP1 HO GET
  rw [← hY] at AP2 HO GET
  have hXY : X = Y ↔ v10 = x10 := by rw [hX, hY, hv10, hx10]; exact xText_eq _ _
  unfold keyText at hK
  unfold xText at hX hY
  rw [← hk8] at hK
  rw [← hv10] at hX
  rw [← hx10] at hY
  obtain ⟨KK, hKK⟩ : ∃ KK, KK = (⟨#[97, 98, 99, 100, 101, 102, 103, 104]⟩ : ByteArray).extract k8 (k8 + 1) := ⟨_, rfl⟩
  obtain ⟨VV, hVV⟩ : ∃ K, K = (⟨#[48, 49, 50, 51, 52, 53, 54, 55, 56, 57]⟩ : ByteArray).extract v10 (v10 + 1) := ⟨_, rfl⟩
  obtain ⟨WW, hWW⟩ : ∃ K, K = (⟨#[48, 49, 50, 51, 52, 53, 54, 55, 56, 57]⟩ : ByteArray).extract x10 (x10 + 1) := ⟨_, rfl⟩
  rw [← hKK] at z1 hK
  rw [← hVV] at z2 hX
  rw [← hWW] at z3 hY
  have z1p := z1
  have z2p := z2
  simp only [u8_mod] at z1p z2p
  have sK : KK.size ≤ 8 := by rw [hKK, ByteArray.size_extract]; show min (k8 + 1) 8 - k8 ≤ 8; omega
  have sV : VV.size ≤ 10 := by rw [hVV, ByteArray.size_extract]; show min (v10 + 1) 10 - v10 ≤ 10; omega
  have sW : WW.size ≤ 10 := by rw [hWW, ByteArray.size_extract]; show min (x10 + 1) 10 - x10 ≤ 10; omega
  have nK : (9223372036854775807 < 1 + KK.size) = False := eq_false (by omega)
  have nV : (9223372036854775807 < 1 + VV.size) = False := eq_false (by omega)
  have nW : (9223372036854775807 < 1 + WW.size) = False := eq_false (by omega)
  rw [hK] at AP1 AP2 GET
  rw [hX] at AP1 HO GET
  rw [hY] at AP2 HO GET
  rw [hX, hY] at hXY
  clear hKK hVV hWW
  have hw1 : IntKind.i64.wrap (s.index + 1) = s.index + 1 := IntWalk.i64_in _ (by omega)
  have hw2 : IntKind.i64.wrap (t.index + 1) = t.index + 1 := IntWalk.i64_in _ (by omega)
  clear hsw hs hr hle f1 f2 f3 h hl hnc hk8 hv10 hx10 hK hX hY sK sV sW
  unfold stv EntryV.val RepV.val noText at *
  go_enter Try.func10, Try.ntmps10
  go_wp2_with fail
  refine (awake_any w).mono ?_
  rintro e w1 ⟨rfl, k1⟩
  go_wp2_with fail
  refine (SOME.out w1 k1).mono ?_
  rintro e w2 ⟨A2, c2, B2, d2, rfl, sv2, k2⟩
  have ka := Kept.alloc noBlock w2 (.cells #[.int .i64 s.index, .int .i64 s.term, .slice A2 s.pairs.length c2, .slice B2 s.sess.length d2] 33)
  have ha := heap_alloc_new w2 (.cells #[.int .i64 s.index, .int .i64 s.term, .slice A2 s.pairs.length c2, .slice B2 s.sess.length d2] 33)
  go_upto_region 4 with (fail)
  generalize w2.alloc (.cells #[.int .i64 s.index, .int .i64 s.term, .slice A2 s.pairs.length c2, .slice B2 s.sess.length d2] 33) = w3 at ka ha ⊢
  have K3 := Lib.hid (k1.step (k2.step ka))
  have SV3 := Lib.hid (sv2.kept ka)
  have HA3 := Lib.hid ha
  clear ka ha k1 k2 sv2 SOME
  go_upto_region 5 with (fail)
  have CE : Hid (∀ u, Kept noBlock w3 u → u.cell? ⟨w2.heap.size, 0, none⟩ = some (.int .i64 s.index) ∧ u.cell? ⟨w2.heap.size, 1, none⟩ = some (.int .i64 s.term) ∧ u.cell? ⟨w2.heap.size, 2, none⟩ = some (.slice A2 s.pairs.length c2) ∧ u.cell? ⟨w2.heap.size, 3, none⟩ = some (.slice B2 s.sess.length d2)) := fun u k => st_cells (k.blk HA3.out (fun h => h))
  go_cut [11, 12] (fun p q wc => ∃ X' Y' A' c' B' d', p = .pointer (some ⟨X', 0, none⟩) ∧ q = .pointer (some ⟨Y', 0, none⟩) ∧ Hid (wc.heap[X']? = some (.cells #[.int .i64 t.index, .int .i64 t.term, .slice A' t.pairs.length c', .slice B' t.sess.length d'] 33 (0, 0))) ∧ Hid (wc.heap[Y']? = some (.cells #[.int .i64 o1.err, .string o1.value] 44 (0, 0))) ∧ Hid (Sv wc (fun _ => True) t A' c' B' d') ∧ Hid (Kept noBlock w3 wc))
  case first =>
    have HF : Hid (Plc w3 w3.drew none none none) := Plc.start (Kept.drew _ _)
    refine wp_region_noPanic ?_
    refine wp_region_held_drew (S := fun u => u.cell? ⟨w2.heap.size, 0, none⟩ = some (.int .i64 s.index) ∧ u.cell? ⟨w2.heap.size, 1, none⟩ = some (.int .i64 s.term) ∧ u.cell? ⟨w2.heap.size, 2, none⟩ = some (.slice A2 s.pairs.length c2) ∧ u.cell? ⟨w2.heap.size, 3, none⟩ = some (.slice B2 s.sess.length d2)) (by kernel_rfl) (CE.out _ (Kept.drew _ _)) (fun hHeld => ?_)
    refine wpAnyH_take (i := 0) (oi := ⟨some 28, Op.load 33 (Operand.tmp 9), 33, _, _, none⟩) (v := ?v0n1k1) rfl (by kernel_rfl) (by kernel_rfl) (by kernel_rfl) (fun _ _ _ h => h) (Or.inl ⟨by rfl, ?y0n1k1⟩) hHeld ?z0n1k1
    case y0n1k1 => intro w hSw; (try dsimp only at hSw); go_simp <;> rfl
    try simp only [Act.put, List.setIfInBounds_toArray, List.set_cons_zero, List.set_cons_succ]
    refine wpAnyH_take (i := 1) (oi := ⟨some 29, Op.fieldAddr 33 (Operand.tmp 9) 0, 0, _, _, none⟩) (v := ?v1n1k2) rfl (by kernel_rfl) (by kernel_rfl) (by kernel_rfl) (fun _ _ _ h => h) (Or.inl ⟨by rfl, ?y1n1k2⟩) hHeld ?z1n1k2
    case y1n1k2 => intro w hSw; (try dsimp only at hSw); go_simp <;> rfl
    try simp only [Act.put, List.setIfInBounds_toArray, List.set_cons_zero, List.set_cons_succ]
    refine wpAnyH_take (i := 2) (oi := ⟨some 30, Op.load 3 (Operand.tmp 29), 3, _, _, none⟩) (v := ?v2n1k3) rfl (by kernel_rfl) (by kernel_rfl) (by kernel_rfl) (fun _ _ _ h => h) (Or.inl ⟨by rfl, ?y2n1k3⟩) hHeld ?z2n1k3
    case y2n1k3 => intro w hSw; (try dsimp only at hSw); go_simp <;> rfl
    try simp only [Act.put, List.setIfInBounds_toArray, List.set_cons_zero, List.set_cons_succ]
    refine wpAnyH_take (i := 3) (oi := ⟨some 31, Op.binOp BinOp.add 3 (Operand.tmp 30) (Operand.const (Value.int IntKind.i64 1)) 3, 3, _, _, none⟩) (v := ?v3n1k4) rfl (by kernel_rfl) (by kernel_rfl) (by kernel_rfl) (fun _ _ _ h => h) (Or.inl ⟨by rfl, ?y3n1k4⟩) hHeld ?z3n1k4
    case y3n1k4 => intro w hSw; (try dsimp only at hSw); go_simp <;> rfl
    try simp only [Act.put, List.setIfInBounds_toArray, List.set_cons_zero, List.set_cons_succ]
    refine wpAnyH_take (i := 4) (oi := ⟨some 32, Op.fieldAddr 33 (Operand.tmp 9) 1, 0, _, _, none⟩) (v := ?v4n1k5) rfl (by kernel_rfl) (by kernel_rfl) (by kernel_rfl) (fun _ _ _ h => h) (Or.inl ⟨by rfl, ?y4n1k5⟩) hHeld ?z4n1k5
    case y4n1k5 => intro w hSw; (try dsimp only at hSw); go_simp <;> rfl
    try simp only [Act.put, List.setIfInBounds_toArray, List.set_cons_zero, List.set_cons_succ]
    refine wpAnyH_take (i := 5) (oi := ⟨some 33, Op.load 3 (Operand.tmp 32), 3, _, _, none⟩) (v := ?v5n1k6) rfl (by kernel_rfl) (by kernel_rfl) (by kernel_rfl) (fun _ _ _ h => h) (Or.inl ⟨by rfl, ?y5n1k6⟩) hHeld ?z5n1k6
    case y5n1k6 => intro w hSw; (try dsimp only at hSw); go_simp <;> rfl
    try simp only [Act.put, List.setIfInBounds_toArray, List.set_cons_zero, List.set_cons_succ]
    refine wpAnyH_take (i := 6) (oi := ⟨some 34, Op.move (Operand.tmp 10), 9, _, _, none⟩) (v := ?v6n1k7) rfl (by kernel_rfl) (by kernel_rfl) (by kernel_rfl) (fun _ _ _ h => h) (Or.inl ⟨by rfl, ?y6n1k7⟩) hHeld ?z6n1k7
    case y6n1k7 => intro w hSw; (try dsimp only at hSw); go_simp <;> rfl
    try simp only [Act.put, List.setIfInBounds_toArray, List.set_cons_zero, List.set_cons_succ]
    refine wpAnyH_take (i := 7) (oi := ⟨some 35, Op.move (Operand.tmp 2), 5, _, _, none⟩) (v := ?v7n1k8) rfl (by kernel_rfl) (by kernel_rfl) (by kernel_rfl) (fun _ _ _ h => h) (Or.inl ⟨by rfl, ?y7n1k8⟩) hHeld ?z7n1k8
    case y7n1k8 => intro w hSw; (try dsimp only at hSw); go_simp <;> rfl
    try simp only [Act.put, List.setIfInBounds_toArray, List.set_cons_zero, List.set_cons_succ]
    refine wpAnyH_take (i := 8) (oi := ⟨some 36, Op.binOp BinOp.rem 5 (Operand.tmp 35) (Operand.const (Value.int IntKind.u8 10)) 5, 5, _, _, none⟩) (v := ?v8n1k9) rfl (by kernel_rfl) (by kernel_rfl) (by kernel_rfl) (fun _ _ _ h => h) (Or.inl ⟨by rfl, ?y8n1k9⟩) hHeld ?z8n1k9
    case y8n1k9 => intro w hSw; (try dsimp only at hSw); go_simp <;> rfl
    try simp only [Act.put, List.setIfInBounds_toArray, List.set_cons_zero, List.set_cons_succ]
    refine wpAnyH_take (i := 9) (oi := ⟨some 37, Op.move (Operand.tmp 2), 5, _, _, none⟩) (v := ?v9n1k10) rfl (by kernel_rfl) (by kernel_rfl) (by kernel_rfl) (fun _ _ _ h => h) (Or.inl ⟨by rfl, ?y9n1k10⟩) hHeld ?z9n1k10
    case y9n1k10 => intro w hSw; (try dsimp only at hSw); go_simp <;> rfl
    try simp only [Act.put, List.setIfInBounds_toArray, List.set_cons_zero, List.set_cons_succ]
    refine wpAnyH_take (i := 10) (oi := ⟨some 38, Op.binOp BinOp.rem 5 (Operand.tmp 37) (Operand.const (Value.int IntKind.u8 10)) 5, 5, _, _, none⟩) (v := ?v10n1k11) rfl (by kernel_rfl) (by kernel_rfl) (by kernel_rfl) (fun _ _ _ h => h) (Or.inl ⟨by rfl, ?y10n1k11⟩) hHeld ?z10n1k11
    case y10n1k11 => intro w hSw; (try dsimp only at hSw); go_simp <;> rfl
    try simp only [Act.put, List.setIfInBounds_toArray, List.set_cons_zero, List.set_cons_succ]
    refine wpAnyH_take (i := 11) (oi := ⟨some 39, Op.binOp BinOp.add 5 (Operand.tmp 38) (Operand.const (Value.int IntKind.u8 1)) 5, 5, _, _, none⟩) (v := ?v11n1k12) rfl (by kernel_rfl) (by kernel_rfl) (by kernel_rfl) (fun _ _ _ h => h) (Or.inl ⟨by rfl, ?y11n1k12⟩) hHeld ?z11n1k12
    case y11n1k12 => intro w hSw; (try dsimp only at hSw); go_simp <;> rfl
    try simp only [Act.put, List.setIfInBounds_toArray, List.set_cons_zero, List.set_cons_succ]
    refine wpAnyH_take (i := 12) (oi := ⟨some 40, Op.slice 9 (Operand.const (Value.string { data := #[48, 49, 50, 51, 52, 53, 54, 55, 56, 57] })) (some (Operand.tmp 36)) (some (Operand.tmp 39)) none, 9, _, _, none⟩) (v := ?v12n1k13) rfl (by kernel_rfl) (by kernel_rfl) (by kernel_rfl) (fun _ _ _ h => h) (Or.inl ⟨by rfl, ?y12n1k13⟩) hHeld ?z12n1k13
    case y12n1k13 => intro w hSw; (try dsimp only at hSw); go_simp <;> rfl
    try simp only [Act.put, List.setIfInBounds_toArray, List.set_cons_zero, List.set_cons_succ]
    refine wpAnyH_take (i := 13) (oi := ⟨some 41, Op.binOp BinOp.add 9 (Operand.const (Value.string { data := #[120] })) (Operand.tmp 40) 9, 9, _, _, none⟩) (v := ?v13n1k14) rfl (by kernel_rfl) (by kernel_rfl) (by kernel_rfl) (fun _ _ _ h => h) (Or.inl ⟨by rfl, ?y13n1k14⟩) hHeld ?z13n1k14
    case y13n1k14 => intro w hSw; (try dsimp only at hSw); go_simp <;> rfl
    try simp only [Act.put, List.setIfInBounds_toArray, List.set_cons_zero, List.set_cons_succ]
    refine wpAnyH_take (i := 14) (oi := ⟨some 42, Op.build 39 #[(0, Operand.const (Value.int IntKind.i64 1)), (1, Operand.const (Value.int IntKind.i64 1)), (2, Operand.const (Value.int IntKind.i64 500)), (3, Operand.tmp 34), (4, Operand.tmp 41)], 39, _, _, none⟩) (v := ?v14n1k15) rfl (by kernel_rfl) (by kernel_rfl) (by kernel_rfl) (fun _ _ _ h => h) (Or.inl ⟨by rfl, ?y14n1k15⟩) hHeld ?z14n1k15
    case y14n1k15 => intro w hSw; (try dsimp only at hSw); go_simp <;> rfl
    try simp only [Act.put, List.setIfInBounds_toArray, List.set_cons_zero, List.set_cons_succ]
    refine wpAnyH_take (i := 15) (oi := ⟨some 43, Op.build 41 #[(0, Operand.tmp 31), (1, Operand.tmp 33), (2, Operand.tmp 42)], 41, _, _, none⟩) (v := ?v15n1k16) rfl (by kernel_rfl) (by kernel_rfl) (by kernel_rfl) (fun _ _ _ h => h) (Or.inl ⟨by rfl, ?y15n1k16⟩) hHeld ?z15n1k16
    case y15n1k16 => intro w hSw; (try dsimp only at hSw); go_simp <;> rfl
    try simp only [Act.put, List.setIfInBounds_toArray, List.set_cons_zero, List.set_cons_succ]
    refine wpAnyH_ready (rs := [16, 20, 21]) (by kernel_rfl) (by simp) ?_
    refine (AllReadyH.cons (o := ⟨some 44, Op.call { callee := Callee.value (Operand.func 13), args := #[Operand.tmp 28, Operand.tmp 43], argTypes := #[33, 41] }, 45, _, _, none⟩) rfl (fun K hK => ?b16n1k19) (AllReadyH.cons (o := ⟨some 11, Op.alloc 33, 0, _, _, none⟩) rfl (fun K hK => ?b20n1k18) (AllReadyH.cons (o := ⟨some 12, Op.alloc 44, 0, _, _, none⟩) rfl (fun K hK => ?b21n1k17) AllReadyH.nil)))
    case b16n1k19 =>
      go_simp
      refine (AP1.out _ _ _ _ _ _ (SV3.out.kept HF.out.kept)).mono ?_
      rintro e u16 ⟨A9, c9, B9, d9, rfl, sv9, k9⟩
      have HF2 := Lib.hid (HF.out.putV k9 sv9)
      clear HF
      have HF := HF2
      clear HF2 k9 sv9
      dsimp only
      refine hK.out _ _ (CE.out _ HF.out.kept) (fun hHeld => ?_)
      clear hK K
      try simp only [Act.put, List.setIfInBounds_toArray, List.set_cons_zero, List.set_cons_succ]
      refine wpAnyH_take (i := 17) (oi := ⟨some 27, Op.move (Operand.tmp 44), 45, _, _, none⟩) (v := ?v17n1k20) rfl (by kernel_rfl) (by kernel_rfl) (by kernel_rfl) (fun _ _ _ h => h) (Or.inl ⟨by rfl, ?y17n1k20⟩) hHeld ?z17n1k20
      case y17n1k20 => intro w hSw; (try dsimp only at hSw); go_simp <;> rfl
      try simp only [Act.put, List.setIfInBounds_toArray, List.set_cons_zero, List.set_cons_succ]
      refine wpAnyH_take (i := 18) (oi := ⟨some 45, Op.extract (Operand.tmp 27) 0, 33, _, _, none⟩) (v := ?v18n1k21) rfl (by kernel_rfl) (by kernel_rfl) (by kernel_rfl) (fun _ _ _ h => h) (Or.inl ⟨by rfl, ?y18n1k21⟩) hHeld ?z18n1k21
      case y18n1k21 => intro w hSw; (try dsimp only at hSw); go_simp <;> rfl
      try simp only [Act.put, List.setIfInBounds_toArray, List.set_cons_zero, List.set_cons_succ]
      refine wpAnyH_take (i := 19) (oi := ⟨some 46, Op.extract (Operand.tmp 27) 1, 44, _, _, none⟩) (v := ?v19n1k22) rfl (by kernel_rfl) (by kernel_rfl) (by kernel_rfl) (fun _ _ _ h => h) (Or.inl ⟨by rfl, ?y19n1k22⟩) hHeld ?z19n1k22
      case y19n1k22 => intro w hSw; (try dsimp only at hSw); go_simp <;> rfl
      try simp only [Act.put, List.setIfInBounds_toArray, List.set_cons_zero, List.set_cons_succ]
      refine wpAnyH_ready (rs := [20, 21]) (by kernel_rfl) (by simp) ?_
      refine (AllReadyH.cons (o := ⟨some 11, Op.alloc 33, 0, _, _, none⟩) rfl (fun K hK => ?b20n1k24) (AllReadyH.cons (o := ⟨some 12, Op.alloc 44, 0, _, _, none⟩) rfl (fun K hK => ?b21n1k23) AllReadyH.nil))
      case b20n1k24 =>
        refine step_allocT ?_
        intro XX u20 k20 hx20 hb20
        have HF2 := Lib.hid (HF.out.putX k20 hx20 hb20)
        clear HF
        have HF := HF2
        clear HF2 k20 hx20 hb20
        refine hK.out _ _ (CE.out _ HF.out.kept) (fun hHeld => ?_)
        clear hK K
        try simp only [Act.put, List.setIfInBounds_toArray, List.set_cons_zero, List.set_cons_succ]
        refine wpAnyH_ready (rs := [21]) (by kernel_rfl) (by simp) ?_
        refine AllReadyH.cons (o := ⟨some 12, Op.alloc 44, 0, _, _, none⟩) rfl (fun K hK => ?_) AllReadyH.nil
        refine step_allocR ?_
        intro YY u21 k21 hx21 hb21
        have HF2 := Lib.hid (HF.out.putY k21 hx21 hb21)
        clear HF
        have HF := HF2
        clear HF2 k21 hx21 hb21
        refine hK.out _ _ (CE.out _ HF.out.kept) (fun hHeld => ?_)
        clear hK K
        try simp only [Act.put, List.setIfInBounds_toArray, List.set_cons_zero, List.set_cons_succ]
        refine wpAnyH_ready (rs := [22]) (by kernel_rfl) (by simp) ?_
        refine AllReadyH.cons (o := ⟨none, Op.store 33 (Operand.tmp 11) (Operand.tmp 45), 0, _, _, none⟩) rfl (fun K hK => ?_) AllReadyH.nil
        refine step_storeT t A9 c9 B9 d9 rfl rfl (HF.out.hasX _ rfl).2 ?_
        refine hK.out _ _ (CE.out _ HF.out.keptT) (fun hHeld => ?_)
        clear hK K
        try simp only [Act.put, List.setIfInBounds_toArray, List.set_cons_zero, List.set_cons_succ]
        refine wpAnyH_ready (rs := [23]) (by kernel_rfl) (by simp) ?_
        refine AllReadyH.cons (o := ⟨none, Op.store 44 (Operand.tmp 12) (Operand.tmp 46), 0, _, _, none⟩) rfl (fun K hK => ?_) AllReadyH.nil
        refine step_storeR o1 rfl rfl HF.out.repT ?_
        refine hK.out _ _ (CE.out _ HF.out.keptR) (fun hHeld => ?_)
        clear hK K
        try simp only [Act.put, List.setIfInBounds_toArray, List.set_cons_zero, List.set_cons_succ]
        refine wpAnyH_done (by kernel_rfl) ?_ _
        refine NoPanic.normal ?_
        have R := Lib.hid (HF.out.done o1)
        go_wp2
        go_meet
        case rel => exact R.out
      case b21n1k23 =>
        refine step_allocR ?_
        intro YY u21 k21 hx21 hb21
        have HF2 := Lib.hid (HF.out.putY k21 hx21 hb21)
        clear HF
        have HF := HF2
        clear HF2 k21 hx21 hb21
        refine hK.out _ _ (CE.out _ HF.out.kept) (fun hHeld => ?_)
        clear hK K
        try simp only [Act.put, List.setIfInBounds_toArray, List.set_cons_zero, List.set_cons_succ]
        refine wpAnyH_ready (rs := [20]) (by kernel_rfl) (by simp) ?_
        refine AllReadyH.cons (o := ⟨some 11, Op.alloc 33, 0, _, _, none⟩) rfl (fun K hK => ?_) AllReadyH.nil
        refine step_allocT ?_
        intro XX u20 k20 hx20 hb20
        have HF2 := Lib.hid (HF.out.putX k20 hx20 hb20)
        clear HF
        have HF := HF2
        clear HF2 k20 hx20 hb20
        refine hK.out _ _ (CE.out _ HF.out.kept) (fun hHeld => ?_)
        clear hK K
        try simp only [Act.put, List.setIfInBounds_toArray, List.set_cons_zero, List.set_cons_succ]
        refine wpAnyH_ready (rs := [22]) (by kernel_rfl) (by simp) ?_
        refine AllReadyH.cons (o := ⟨none, Op.store 33 (Operand.tmp 11) (Operand.tmp 45), 0, _, _, none⟩) rfl (fun K hK => ?_) AllReadyH.nil
        refine step_storeT t A9 c9 B9 d9 rfl rfl (HF.out.hasX _ rfl).2 ?_
        refine hK.out _ _ (CE.out _ HF.out.keptT) (fun hHeld => ?_)
        clear hK K
        try simp only [Act.put, List.setIfInBounds_toArray, List.set_cons_zero, List.set_cons_succ]
        refine wpAnyH_ready (rs := [23]) (by kernel_rfl) (by simp) ?_
        refine AllReadyH.cons (o := ⟨none, Op.store 44 (Operand.tmp 12) (Operand.tmp 46), 0, _, _, none⟩) rfl (fun K hK => ?_) AllReadyH.nil
        refine step_storeR o1 rfl rfl HF.out.repT ?_
        refine hK.out _ _ (CE.out _ HF.out.keptR) (fun hHeld => ?_)
        clear hK K
        try simp only [Act.put, List.setIfInBounds_toArray, List.set_cons_zero, List.set_cons_succ]
        refine wpAnyH_done (by kernel_rfl) ?_ _
        refine NoPanic.normal ?_
        have R := Lib.hid (HF.out.done o1)
        go_wp2
        go_meet
        case rel => exact R.out
    case b20n1k18 =>
      refine step_allocT ?_
      intro XX u20 k20 hx20 hb20
      have HF2 := Lib.hid (HF.out.putX k20 hx20 hb20)
      clear HF
      have HF := HF2
      clear HF2 k20 hx20 hb20
      refine hK.out _ _ (CE.out _ HF.out.kept) (fun hHeld => ?_)
      clear hK K
      try simp only [Act.put, List.setIfInBounds_toArray, List.set_cons_zero, List.set_cons_succ]
      refine wpAnyH_ready (rs := [16, 21]) (by kernel_rfl) (by simp) ?_
      refine (AllReadyH.cons (o := ⟨some 44, Op.call { callee := Callee.value (Operand.func 13), args := #[Operand.tmp 28, Operand.tmp 43], argTypes := #[33, 41] }, 45, _, _, none⟩) rfl (fun K hK => ?b16n1k26) (AllReadyH.cons (o := ⟨some 12, Op.alloc 44, 0, _, _, none⟩) rfl (fun K hK => ?b21n1k25) AllReadyH.nil))
      case b16n1k26 =>
        go_simp
        refine (AP1.out _ _ _ _ _ _ (SV3.out.kept HF.out.kept)).mono ?_
        rintro e u16 ⟨A9, c9, B9, d9, rfl, sv9, k9⟩
        have HF2 := Lib.hid (HF.out.putV k9 sv9)
        clear HF
        have HF := HF2
        clear HF2 k9 sv9
        dsimp only
        refine hK.out _ _ (CE.out _ HF.out.kept) (fun hHeld => ?_)
        clear hK K
        try simp only [Act.put, List.setIfInBounds_toArray, List.set_cons_zero, List.set_cons_succ]
        refine wpAnyH_take (i := 17) (oi := ⟨some 27, Op.move (Operand.tmp 44), 45, _, _, none⟩) (v := ?v17n1k27) rfl (by kernel_rfl) (by kernel_rfl) (by kernel_rfl) (fun _ _ _ h => h) (Or.inl ⟨by rfl, ?y17n1k27⟩) hHeld ?z17n1k27
        case y17n1k27 => intro w hSw; (try dsimp only at hSw); go_simp <;> rfl
        try simp only [Act.put, List.setIfInBounds_toArray, List.set_cons_zero, List.set_cons_succ]
        refine wpAnyH_take (i := 18) (oi := ⟨some 45, Op.extract (Operand.tmp 27) 0, 33, _, _, none⟩) (v := ?v18n1k28) rfl (by kernel_rfl) (by kernel_rfl) (by kernel_rfl) (fun _ _ _ h => h) (Or.inl ⟨by rfl, ?y18n1k28⟩) hHeld ?z18n1k28
        case y18n1k28 => intro w hSw; (try dsimp only at hSw); go_simp <;> rfl
        try simp only [Act.put, List.setIfInBounds_toArray, List.set_cons_zero, List.set_cons_succ]
        refine wpAnyH_take (i := 19) (oi := ⟨some 46, Op.extract (Operand.tmp 27) 1, 44, _, _, none⟩) (v := ?v19n1k29) rfl (by kernel_rfl) (by kernel_rfl) (by kernel_rfl) (fun _ _ _ h => h) (Or.inl ⟨by rfl, ?y19n1k29⟩) hHeld ?z19n1k29
        case y19n1k29 => intro w hSw; (try dsimp only at hSw); go_simp <;> rfl
        try simp only [Act.put, List.setIfInBounds_toArray, List.set_cons_zero, List.set_cons_succ]
        refine wpAnyH_ready (rs := [21]) (by kernel_rfl) (by simp) ?_
        refine AllReadyH.cons (o := ⟨some 12, Op.alloc 44, 0, _, _, none⟩) rfl (fun K hK => ?_) AllReadyH.nil
        refine step_allocR ?_
        intro YY u21 k21 hx21 hb21
        have HF2 := Lib.hid (HF.out.putY k21 hx21 hb21)
        clear HF
        have HF := HF2
        clear HF2 k21 hx21 hb21
        refine hK.out _ _ (CE.out _ HF.out.kept) (fun hHeld => ?_)
        clear hK K
        try simp only [Act.put, List.setIfInBounds_toArray, List.set_cons_zero, List.set_cons_succ]
        refine wpAnyH_ready (rs := [22]) (by kernel_rfl) (by simp) ?_
        refine AllReadyH.cons (o := ⟨none, Op.store 33 (Operand.tmp 11) (Operand.tmp 45), 0, _, _, none⟩) rfl (fun K hK => ?_) AllReadyH.nil
        refine step_storeT t A9 c9 B9 d9 rfl rfl (HF.out.hasX _ rfl).2 ?_
        refine hK.out _ _ (CE.out _ HF.out.keptT) (fun hHeld => ?_)
        clear hK K
        try simp only [Act.put, List.setIfInBounds_toArray, List.set_cons_zero, List.set_cons_succ]
        refine wpAnyH_ready (rs := [23]) (by kernel_rfl) (by simp) ?_
        refine AllReadyH.cons (o := ⟨none, Op.store 44 (Operand.tmp 12) (Operand.tmp 46), 0, _, _, none⟩) rfl (fun K hK => ?_) AllReadyH.nil
        refine step_storeR o1 rfl rfl HF.out.repT ?_
        refine hK.out _ _ (CE.out _ HF.out.keptR) (fun hHeld => ?_)
        clear hK K
        try simp only [Act.put, List.setIfInBounds_toArray, List.set_cons_zero, List.set_cons_succ]
        refine wpAnyH_done (by kernel_rfl) ?_ _
        refine NoPanic.normal ?_
        have R := Lib.hid (HF.out.done o1)
        go_wp2
        go_meet
        case rel => exact R.out
      case b21n1k25 =>
        refine step_allocR ?_
        intro YY u21 k21 hx21 hb21
        have HF2 := Lib.hid (HF.out.putY k21 hx21 hb21)
        clear HF
        have HF := HF2
        clear HF2 k21 hx21 hb21
        refine hK.out _ _ (CE.out _ HF.out.kept) (fun hHeld => ?_)
        clear hK K
        try simp only [Act.put, List.setIfInBounds_toArray, List.set_cons_zero, List.set_cons_succ]
        refine wpAnyH_ready (rs := [16]) (by kernel_rfl) (by simp) ?_
        refine AllReadyH.cons (o := ⟨some 44, Op.call { callee := Callee.value (Operand.func 13), args := #[Operand.tmp 28, Operand.tmp 43], argTypes := #[33, 41] }, 45, _, _, none⟩) rfl (fun K hK => ?_) AllReadyH.nil
        go_simp
        refine (AP1.out _ _ _ _ _ _ (SV3.out.kept HF.out.kept)).mono ?_
        rintro e u16 ⟨A9, c9, B9, d9, rfl, sv9, k9⟩
        have HF2 := Lib.hid (HF.out.putV k9 sv9)
        clear HF
        have HF := HF2
        clear HF2 k9 sv9
        dsimp only
        refine hK.out _ _ (CE.out _ HF.out.kept) (fun hHeld => ?_)
        clear hK K
        try simp only [Act.put, List.setIfInBounds_toArray, List.set_cons_zero, List.set_cons_succ]
        refine wpAnyH_take (i := 17) (oi := ⟨some 27, Op.move (Operand.tmp 44), 45, _, _, none⟩) (v := ?v17n1k30) rfl (by kernel_rfl) (by kernel_rfl) (by kernel_rfl) (fun _ _ _ h => h) (Or.inl ⟨by rfl, ?y17n1k30⟩) hHeld ?z17n1k30
        case y17n1k30 => intro w hSw; (try dsimp only at hSw); go_simp <;> rfl
        try simp only [Act.put, List.setIfInBounds_toArray, List.set_cons_zero, List.set_cons_succ]
        refine wpAnyH_take (i := 18) (oi := ⟨some 45, Op.extract (Operand.tmp 27) 0, 33, _, _, none⟩) (v := ?v18n1k31) rfl (by kernel_rfl) (by kernel_rfl) (by kernel_rfl) (fun _ _ _ h => h) (Or.inl ⟨by rfl, ?y18n1k31⟩) hHeld ?z18n1k31
        case y18n1k31 => intro w hSw; (try dsimp only at hSw); go_simp <;> rfl
        try simp only [Act.put, List.setIfInBounds_toArray, List.set_cons_zero, List.set_cons_succ]
        refine wpAnyH_take (i := 19) (oi := ⟨some 46, Op.extract (Operand.tmp 27) 1, 44, _, _, none⟩) (v := ?v19n1k32) rfl (by kernel_rfl) (by kernel_rfl) (by kernel_rfl) (fun _ _ _ h => h) (Or.inl ⟨by rfl, ?y19n1k32⟩) hHeld ?z19n1k32
        case y19n1k32 => intro w hSw; (try dsimp only at hSw); go_simp <;> rfl
        try simp only [Act.put, List.setIfInBounds_toArray, List.set_cons_zero, List.set_cons_succ]
        refine wpAnyH_ready (rs := [22]) (by kernel_rfl) (by simp) ?_
        refine AllReadyH.cons (o := ⟨none, Op.store 33 (Operand.tmp 11) (Operand.tmp 45), 0, _, _, none⟩) rfl (fun K hK => ?_) AllReadyH.nil
        refine step_storeT t A9 c9 B9 d9 rfl rfl (HF.out.hasX _ rfl).2 ?_
        refine hK.out _ _ (CE.out _ HF.out.keptT) (fun hHeld => ?_)
        clear hK K
        try simp only [Act.put, List.setIfInBounds_toArray, List.set_cons_zero, List.set_cons_succ]
        refine wpAnyH_ready (rs := [23]) (by kernel_rfl) (by simp) ?_
        refine AllReadyH.cons (o := ⟨none, Op.store 44 (Operand.tmp 12) (Operand.tmp 46), 0, _, _, none⟩) rfl (fun K hK => ?_) AllReadyH.nil
        refine step_storeR o1 rfl rfl HF.out.repT ?_
        refine hK.out _ _ (CE.out _ HF.out.keptR) (fun hHeld => ?_)
        clear hK K
        try simp only [Act.put, List.setIfInBounds_toArray, List.set_cons_zero, List.set_cons_succ]
        refine wpAnyH_done (by kernel_rfl) ?_ _
        refine NoPanic.normal ?_
        have R := Lib.hid (HF.out.done o1)
        go_wp2
        go_meet
        case rel => exact R.out
    case b21n1k17 =>
      refine step_allocR ?_
      intro YY u21 k21 hx21 hb21
      have HF2 := Lib.hid (HF.out.putY k21 hx21 hb21)
      clear HF
      have HF := HF2
      clear HF2 k21 hx21 hb21
      refine hK.out _ _ (CE.out _ HF.out.kept) (fun hHeld => ?_)
      clear hK K
      try simp only [Act.put, List.setIfInBounds_toArray, List.set_cons_zero, List.set_cons_succ]
      refine wpAnyH_ready (rs := [16, 20]) (by kernel_rfl) (by simp) ?_
      refine (AllReadyH.cons (o := ⟨some 44, Op.call { callee := Callee.value (Operand.func 13), args := #[Operand.tmp 28, Operand.tmp 43], argTypes := #[33, 41] }, 45, _, _, none⟩) rfl (fun K hK => ?b16n1k34) (AllReadyH.cons (o := ⟨some 11, Op.alloc 33, 0, _, _, none⟩) rfl (fun K hK => ?b20n1k33) AllReadyH.nil))
      case b16n1k34 =>
        go_simp
        refine (AP1.out _ _ _ _ _ _ (SV3.out.kept HF.out.kept)).mono ?_
        rintro e u16 ⟨A9, c9, B9, d9, rfl, sv9, k9⟩
        have HF2 := Lib.hid (HF.out.putV k9 sv9)
        clear HF
        have HF := HF2
        clear HF2 k9 sv9
        dsimp only
        refine hK.out _ _ (CE.out _ HF.out.kept) (fun hHeld => ?_)
        clear hK K
        try simp only [Act.put, List.setIfInBounds_toArray, List.set_cons_zero, List.set_cons_succ]
        refine wpAnyH_take (i := 17) (oi := ⟨some 27, Op.move (Operand.tmp 44), 45, _, _, none⟩) (v := ?v17n1k35) rfl (by kernel_rfl) (by kernel_rfl) (by kernel_rfl) (fun _ _ _ h => h) (Or.inl ⟨by rfl, ?y17n1k35⟩) hHeld ?z17n1k35
        case y17n1k35 => intro w hSw; (try dsimp only at hSw); go_simp <;> rfl
        try simp only [Act.put, List.setIfInBounds_toArray, List.set_cons_zero, List.set_cons_succ]
        refine wpAnyH_take (i := 18) (oi := ⟨some 45, Op.extract (Operand.tmp 27) 0, 33, _, _, none⟩) (v := ?v18n1k36) rfl (by kernel_rfl) (by kernel_rfl) (by kernel_rfl) (fun _ _ _ h => h) (Or.inl ⟨by rfl, ?y18n1k36⟩) hHeld ?z18n1k36
        case y18n1k36 => intro w hSw; (try dsimp only at hSw); go_simp <;> rfl
        try simp only [Act.put, List.setIfInBounds_toArray, List.set_cons_zero, List.set_cons_succ]
        refine wpAnyH_take (i := 19) (oi := ⟨some 46, Op.extract (Operand.tmp 27) 1, 44, _, _, none⟩) (v := ?v19n1k37) rfl (by kernel_rfl) (by kernel_rfl) (by kernel_rfl) (fun _ _ _ h => h) (Or.inl ⟨by rfl, ?y19n1k37⟩) hHeld ?z19n1k37
        case y19n1k37 => intro w hSw; (try dsimp only at hSw); go_simp <;> rfl
        try simp only [Act.put, List.setIfInBounds_toArray, List.set_cons_zero, List.set_cons_succ]
        refine wpAnyH_ready (rs := [20]) (by kernel_rfl) (by simp) ?_
        refine AllReadyH.cons (o := ⟨some 11, Op.alloc 33, 0, _, _, none⟩) rfl (fun K hK => ?_) AllReadyH.nil
        refine step_allocT ?_
        intro XX u20 k20 hx20 hb20
        have HF2 := Lib.hid (HF.out.putX k20 hx20 hb20)
        clear HF
        have HF := HF2
        clear HF2 k20 hx20 hb20
        refine hK.out _ _ (CE.out _ HF.out.kept) (fun hHeld => ?_)
        clear hK K
        try simp only [Act.put, List.setIfInBounds_toArray, List.set_cons_zero, List.set_cons_succ]
        refine wpAnyH_ready (rs := [22]) (by kernel_rfl) (by simp) ?_
        refine AllReadyH.cons (o := ⟨none, Op.store 33 (Operand.tmp 11) (Operand.tmp 45), 0, _, _, none⟩) rfl (fun K hK => ?_) AllReadyH.nil
        refine step_storeT t A9 c9 B9 d9 rfl rfl (HF.out.hasX _ rfl).2 ?_
        refine hK.out _ _ (CE.out _ HF.out.keptT) (fun hHeld => ?_)
        clear hK K
        try simp only [Act.put, List.setIfInBounds_toArray, List.set_cons_zero, List.set_cons_succ]
        refine wpAnyH_ready (rs := [23]) (by kernel_rfl) (by simp) ?_
        refine AllReadyH.cons (o := ⟨none, Op.store 44 (Operand.tmp 12) (Operand.tmp 46), 0, _, _, none⟩) rfl (fun K hK => ?_) AllReadyH.nil
        refine step_storeR o1 rfl rfl HF.out.repT ?_
        refine hK.out _ _ (CE.out _ HF.out.keptR) (fun hHeld => ?_)
        clear hK K
        try simp only [Act.put, List.setIfInBounds_toArray, List.set_cons_zero, List.set_cons_succ]
        refine wpAnyH_done (by kernel_rfl) ?_ _
        refine NoPanic.normal ?_
        have R := Lib.hid (HF.out.done o1)
        go_wp2
        go_meet
        case rel => exact R.out
      case b20n1k33 =>
        refine step_allocT ?_
        intro XX u20 k20 hx20 hb20
        have HF2 := Lib.hid (HF.out.putX k20 hx20 hb20)
        clear HF
        have HF := HF2
        clear HF2 k20 hx20 hb20
        refine hK.out _ _ (CE.out _ HF.out.kept) (fun hHeld => ?_)
        clear hK K
        try simp only [Act.put, List.setIfInBounds_toArray, List.set_cons_zero, List.set_cons_succ]
        refine wpAnyH_ready (rs := [16]) (by kernel_rfl) (by simp) ?_
        refine AllReadyH.cons (o := ⟨some 44, Op.call { callee := Callee.value (Operand.func 13), args := #[Operand.tmp 28, Operand.tmp 43], argTypes := #[33, 41] }, 45, _, _, none⟩) rfl (fun K hK => ?_) AllReadyH.nil
        go_simp
        refine (AP1.out _ _ _ _ _ _ (SV3.out.kept HF.out.kept)).mono ?_
        rintro e u16 ⟨A9, c9, B9, d9, rfl, sv9, k9⟩
        have HF2 := Lib.hid (HF.out.putV k9 sv9)
        clear HF
        have HF := HF2
        clear HF2 k9 sv9
        dsimp only
        refine hK.out _ _ (CE.out _ HF.out.kept) (fun hHeld => ?_)
        clear hK K
        try simp only [Act.put, List.setIfInBounds_toArray, List.set_cons_zero, List.set_cons_succ]
        refine wpAnyH_take (i := 17) (oi := ⟨some 27, Op.move (Operand.tmp 44), 45, _, _, none⟩) (v := ?v17n1k38) rfl (by kernel_rfl) (by kernel_rfl) (by kernel_rfl) (fun _ _ _ h => h) (Or.inl ⟨by rfl, ?y17n1k38⟩) hHeld ?z17n1k38
        case y17n1k38 => intro w hSw; (try dsimp only at hSw); go_simp <;> rfl
        try simp only [Act.put, List.setIfInBounds_toArray, List.set_cons_zero, List.set_cons_succ]
        refine wpAnyH_take (i := 18) (oi := ⟨some 45, Op.extract (Operand.tmp 27) 0, 33, _, _, none⟩) (v := ?v18n1k39) rfl (by kernel_rfl) (by kernel_rfl) (by kernel_rfl) (fun _ _ _ h => h) (Or.inl ⟨by rfl, ?y18n1k39⟩) hHeld ?z18n1k39
        case y18n1k39 => intro w hSw; (try dsimp only at hSw); go_simp <;> rfl
        try simp only [Act.put, List.setIfInBounds_toArray, List.set_cons_zero, List.set_cons_succ]
        refine wpAnyH_take (i := 19) (oi := ⟨some 46, Op.extract (Operand.tmp 27) 1, 44, _, _, none⟩) (v := ?v19n1k40) rfl (by kernel_rfl) (by kernel_rfl) (by kernel_rfl) (fun _ _ _ h => h) (Or.inl ⟨by rfl, ?y19n1k40⟩) hHeld ?z19n1k40
        case y19n1k40 => intro w hSw; (try dsimp only at hSw); go_simp <;> rfl
        try simp only [Act.put, List.setIfInBounds_toArray, List.set_cons_zero, List.set_cons_succ]
        refine wpAnyH_ready (rs := [22]) (by kernel_rfl) (by simp) ?_
        refine AllReadyH.cons (o := ⟨none, Op.store 33 (Operand.tmp 11) (Operand.tmp 45), 0, _, _, none⟩) rfl (fun K hK => ?_) AllReadyH.nil
        refine step_storeT t A9 c9 B9 d9 rfl rfl (HF.out.hasX _ rfl).2 ?_
        refine hK.out _ _ (CE.out _ HF.out.keptT) (fun hHeld => ?_)
        clear hK K
        try simp only [Act.put, List.setIfInBounds_toArray, List.set_cons_zero, List.set_cons_succ]
        refine wpAnyH_ready (rs := [23]) (by kernel_rfl) (by simp) ?_
        refine AllReadyH.cons (o := ⟨none, Op.store 44 (Operand.tmp 12) (Operand.tmp 46), 0, _, _, none⟩) rfl (fun K hK => ?_) AllReadyH.nil
        refine step_storeR o1 rfl rfl HF.out.repT ?_
        refine hK.out _ _ (CE.out _ HF.out.keptR) (fun hHeld => ?_)
        clear hK K
        try simp only [Act.put, List.setIfInBounds_toArray, List.set_cons_zero, List.set_cons_succ]
        refine wpAnyH_done (by kernel_rfl) ?_ _
        refine NoPanic.normal ?_
        have R := Lib.hid (HF.out.done o1)
        go_wp2
        go_meet
        case rel => exact R.out
  case rest =>
    obtain ⟨X4, Y4, A4, c4, B4, d4, rfl, rfl, HX4, HY4, SV4, KC4⟩ := hcut
    have K4 := Lib.hid (K3.out.step KC4.out)
    clear K3 SV3 HA3 AP1 CE KC4 HY4
    obtain ⟨w4, hw4⟩ : ∃ w4, w4 = wc := ⟨_, rfl⟩
    rw [← hw4] at HX4 SV4 K4 ⊢
    clear hw4
    go_upto_region 6 with (fail)
    have CE : Hid (∀ u, Kept noBlock w4 u → u.cell? ⟨X4, 0, none⟩ = some (.int .i64 t.index) ∧ u.cell? ⟨X4, 1, none⟩ = some (.int .i64 t.term) ∧ u.cell? ⟨X4, 2, none⟩ = some (.slice A4 t.pairs.length c4) ∧ u.cell? ⟨X4, 3, none⟩ = some (.slice B4 t.sess.length d4)) := fun u k => st_cells (k.blk HX4.out (fun h => h))
    go_cut [13, 14] (fun p q wc => ∃ X' Y' A' c' B' d', p = .pointer (some ⟨X', 0, none⟩) ∧ q = .pointer (some ⟨Y', 0, none⟩) ∧ Hid (wc.heap[X']? = some (.cells #[.int .i64 uu.index, .int .i64 uu.term, .slice A' uu.pairs.length c', .slice B' uu.sess.length d'] 33 (0, 0))) ∧ Hid (wc.heap[Y']? = some (.cells #[.int .i64 o2.err, .string o2.value] 44 (0, 0))) ∧ Hid (Sv wc (fun _ => True) uu A' c' B' d') ∧ Hid (Kept noBlock w4 wc))
    case first =>
      have HF : Hid (Plc w4 w4.drew none none none) := Plc.start (Kept.drew _ _)
      refine wp_region_noPanic ?_
      refine wp_region_held_drew (S := fun u => u.cell? ⟨X4, 0, none⟩ = some (.int .i64 t.index) ∧ u.cell? ⟨X4, 1, none⟩ = some (.int .i64 t.term) ∧ u.cell? ⟨X4, 2, none⟩ = some (.slice A4 t.pairs.length c4) ∧ u.cell? ⟨X4, 3, none⟩ = some (.slice B4 t.sess.length d4)) (by kernel_rfl) (CE.out _ (Kept.drew _ _)) (fun hHeld => ?_)
      refine wpAnyH_take (i := 0) (oi := ⟨some 48, Op.load 33 (Operand.tmp 11), 33, _, _, none⟩) (v := ?v0n2k1) rfl (by kernel_rfl) (by kernel_rfl) (by kernel_rfl) (fun _ _ _ h => h) (Or.inl ⟨by rfl, ?y0n2k1⟩) hHeld ?z0n2k1
      case y0n2k1 => intro w hSw; (try dsimp only at hSw); go_simp <;> rfl
      try simp only [Act.put, List.setIfInBounds_toArray, List.set_cons_zero, List.set_cons_succ]
      refine wpAnyH_take (i := 1) (oi := ⟨some 49, Op.fieldAddr 33 (Operand.tmp 11) 0, 0, _, _, none⟩) (v := ?v1n2k2) rfl (by kernel_rfl) (by kernel_rfl) (by kernel_rfl) (fun _ _ _ h => h) (Or.inl ⟨by rfl, ?y1n2k2⟩) hHeld ?z1n2k2
      case y1n2k2 => intro w hSw; (try dsimp only at hSw); go_simp <;> rfl
      try simp only [Act.put, List.setIfInBounds_toArray, List.set_cons_zero, List.set_cons_succ]
      refine wpAnyH_take (i := 2) (oi := ⟨some 50, Op.load 3 (Operand.tmp 49), 3, _, _, none⟩) (v := ?v2n2k3) rfl (by kernel_rfl) (by kernel_rfl) (by kernel_rfl) (fun _ _ _ h => h) (Or.inl ⟨by rfl, ?y2n2k3⟩) hHeld ?z2n2k3
      case y2n2k3 => intro w hSw; (try dsimp only at hSw); go_simp <;> rfl
      try simp only [Act.put, List.setIfInBounds_toArray, List.set_cons_zero, List.set_cons_succ]
      refine wpAnyH_take (i := 3) (oi := ⟨some 51, Op.binOp BinOp.add 3 (Operand.tmp 50) (Operand.const (Value.int IntKind.i64 1)) 3, 3, _, _, none⟩) (v := ?v3n2k4) rfl (by kernel_rfl) (by kernel_rfl) (by kernel_rfl) (fun _ _ _ h => h) (Or.inl ⟨by rfl, ?y3n2k4⟩) hHeld ?z3n2k4
      case y3n2k4 => intro w hSw; (try dsimp only at hSw); go_simp <;> rfl
      try simp only [Act.put, List.setIfInBounds_toArray, List.set_cons_zero, List.set_cons_succ]
      refine wpAnyH_take (i := 4) (oi := ⟨some 52, Op.fieldAddr 33 (Operand.tmp 11) 1, 0, _, _, none⟩) (v := ?v4n2k5) rfl (by kernel_rfl) (by kernel_rfl) (by kernel_rfl) (fun _ _ _ h => h) (Or.inl ⟨by rfl, ?y4n2k5⟩) hHeld ?z4n2k5
      case y4n2k5 => intro w hSw; (try dsimp only at hSw); go_simp <;> rfl
      try simp only [Act.put, List.setIfInBounds_toArray, List.set_cons_zero, List.set_cons_succ]
      refine wpAnyH_take (i := 5) (oi := ⟨some 53, Op.load 3 (Operand.tmp 52), 3, _, _, none⟩) (v := ?v5n2k6) rfl (by kernel_rfl) (by kernel_rfl) (by kernel_rfl) (fun _ _ _ h => h) (Or.inl ⟨by rfl, ?y5n2k6⟩) hHeld ?z5n2k6
      case y5n2k6 => intro w hSw; (try dsimp only at hSw); go_simp <;> rfl
      try simp only [Act.put, List.setIfInBounds_toArray, List.set_cons_zero, List.set_cons_succ]
      refine wpAnyH_take (i := 6) (oi := ⟨some 54, Op.move (Operand.tmp 10), 9, _, _, none⟩) (v := ?v6n2k7) rfl (by kernel_rfl) (by kernel_rfl) (by kernel_rfl) (fun _ _ _ h => h) (Or.inl ⟨by rfl, ?y6n2k7⟩) hHeld ?z6n2k7
      case y6n2k7 => intro w hSw; (try dsimp only at hSw); go_simp <;> rfl
      try simp only [Act.put, List.setIfInBounds_toArray, List.set_cons_zero, List.set_cons_succ]
      refine wpAnyH_take (i := 7) (oi := ⟨some 55, Op.move (Operand.tmp 3), 5, _, _, none⟩) (v := ?v7n2k8) rfl (by kernel_rfl) (by kernel_rfl) (by kernel_rfl) (fun _ _ _ h => h) (Or.inl ⟨by rfl, ?y7n2k8⟩) hHeld ?z7n2k8
      case y7n2k8 => intro w hSw; (try dsimp only at hSw); go_simp <;> rfl
      try simp only [Act.put, List.setIfInBounds_toArray, List.set_cons_zero, List.set_cons_succ]
      refine wpAnyH_take (i := 8) (oi := ⟨some 56, Op.binOp BinOp.rem 5 (Operand.tmp 55) (Operand.const (Value.int IntKind.u8 10)) 5, 5, _, _, none⟩) (v := ?v8n2k9) rfl (by kernel_rfl) (by kernel_rfl) (by kernel_rfl) (fun _ _ _ h => h) (Or.inl ⟨by rfl, ?y8n2k9⟩) hHeld ?z8n2k9
      case y8n2k9 => intro w hSw; (try dsimp only at hSw); go_simp <;> rfl
      try simp only [Act.put, List.setIfInBounds_toArray, List.set_cons_zero, List.set_cons_succ]
      refine wpAnyH_take (i := 9) (oi := ⟨some 57, Op.move (Operand.tmp 3), 5, _, _, none⟩) (v := ?v9n2k10) rfl (by kernel_rfl) (by kernel_rfl) (by kernel_rfl) (fun _ _ _ h => h) (Or.inl ⟨by rfl, ?y9n2k10⟩) hHeld ?z9n2k10
      case y9n2k10 => intro w hSw; (try dsimp only at hSw); go_simp <;> rfl
      try simp only [Act.put, List.setIfInBounds_toArray, List.set_cons_zero, List.set_cons_succ]
      refine wpAnyH_take (i := 10) (oi := ⟨some 58, Op.binOp BinOp.rem 5 (Operand.tmp 57) (Operand.const (Value.int IntKind.u8 10)) 5, 5, _, _, none⟩) (v := ?v10n2k11) rfl (by kernel_rfl) (by kernel_rfl) (by kernel_rfl) (fun _ _ _ h => h) (Or.inl ⟨by rfl, ?y10n2k11⟩) hHeld ?z10n2k11
      case y10n2k11 => intro w hSw; (try dsimp only at hSw); go_simp <;> rfl
      try simp only [Act.put, List.setIfInBounds_toArray, List.set_cons_zero, List.set_cons_succ]
      refine wpAnyH_take (i := 11) (oi := ⟨some 59, Op.binOp BinOp.add 5 (Operand.tmp 58) (Operand.const (Value.int IntKind.u8 1)) 5, 5, _, _, none⟩) (v := ?v11n2k12) rfl (by kernel_rfl) (by kernel_rfl) (by kernel_rfl) (fun _ _ _ h => h) (Or.inl ⟨by rfl, ?y11n2k12⟩) hHeld ?z11n2k12
      case y11n2k12 => intro w hSw; (try dsimp only at hSw); go_simp <;> rfl
      try simp only [Act.put, List.setIfInBounds_toArray, List.set_cons_zero, List.set_cons_succ]
      refine wpAnyH_take (i := 12) (oi := ⟨some 60, Op.slice 9 (Operand.const (Value.string { data := #[48, 49, 50, 51, 52, 53, 54, 55, 56, 57] })) (some (Operand.tmp 56)) (some (Operand.tmp 59)) none, 9, _, _, none⟩) (v := ?v12n2k13) rfl (by kernel_rfl) (by kernel_rfl) (by kernel_rfl) (fun _ _ _ h => h) (Or.inl ⟨by rfl, ?y12n2k13⟩) hHeld ?z12n2k13
      case y12n2k13 => intro w hSw; (try dsimp only at hSw); go_simp <;> rfl
      try simp only [Act.put, List.setIfInBounds_toArray, List.set_cons_zero, List.set_cons_succ]
      refine wpAnyH_take (i := 13) (oi := ⟨some 61, Op.binOp BinOp.add 9 (Operand.const (Value.string { data := #[120] })) (Operand.tmp 60) 9, 9, _, _, none⟩) (v := ?v13n2k14) rfl (by kernel_rfl) (by kernel_rfl) (by kernel_rfl) (fun _ _ _ h => h) (Or.inl ⟨by rfl, ?y13n2k14⟩) hHeld ?z13n2k14
      case y13n2k14 => intro w hSw; (try dsimp only at hSw); go_simp <;> rfl
      try simp only [Act.put, List.setIfInBounds_toArray, List.set_cons_zero, List.set_cons_succ]
      refine wpAnyH_take (i := 14) (oi := ⟨some 62, Op.build 39 #[(0, Operand.const (Value.int IntKind.i64 3)), (1, Operand.const (Value.int IntKind.i64 1)), (2, Operand.const (Value.int IntKind.i64 501)), (3, Operand.tmp 54), (4, Operand.const (Value.string { data := #[110, 101, 119] })), (5, Operand.tmp 61)], 39, _, _, none⟩) (v := ?v14n2k15) rfl (by kernel_rfl) (by kernel_rfl) (by kernel_rfl) (fun _ _ _ h => h) (Or.inl ⟨by rfl, ?y14n2k15⟩) hHeld ?z14n2k15
      case y14n2k15 => intro w hSw; (try dsimp only at hSw); go_simp <;> rfl
      try simp only [Act.put, List.setIfInBounds_toArray, List.set_cons_zero, List.set_cons_succ]
      refine wpAnyH_take (i := 15) (oi := ⟨some 63, Op.build 41 #[(0, Operand.tmp 51), (1, Operand.tmp 53), (2, Operand.tmp 62)], 41, _, _, none⟩) (v := ?v15n2k16) rfl (by kernel_rfl) (by kernel_rfl) (by kernel_rfl) (fun _ _ _ h => h) (Or.inl ⟨by rfl, ?y15n2k16⟩) hHeld ?z15n2k16
      case y15n2k16 => intro w hSw; (try dsimp only at hSw); go_simp <;> rfl
      try simp only [Act.put, List.setIfInBounds_toArray, List.set_cons_zero, List.set_cons_succ]
      refine wpAnyH_ready (rs := [16, 20, 21]) (by kernel_rfl) (by simp) ?_
      refine (AllReadyH.cons (o := ⟨some 64, Op.call { callee := Callee.value (Operand.func 13), args := #[Operand.tmp 48, Operand.tmp 63], argTypes := #[33, 41] }, 45, _, _, none⟩) rfl (fun K hK => ?b16n2k19) (AllReadyH.cons (o := ⟨some 13, Op.alloc 33, 0, _, _, none⟩) rfl (fun K hK => ?b20n2k18) (AllReadyH.cons (o := ⟨some 14, Op.alloc 44, 0, _, _, none⟩) rfl (fun K hK => ?b21n2k17) AllReadyH.nil)))
      case b16n2k19 =>
        go_simp
        refine (AP2.out _ _ _ _ _ _ (SV4.out.kept HF.out.kept)).mono ?_
        rintro e u16 ⟨A9, c9, B9, d9, rfl, sv9, k9⟩
        have HF2 := Lib.hid (HF.out.putV k9 sv9)
        clear HF
        have HF := HF2
        clear HF2 k9 sv9
        dsimp only
        refine hK.out _ _ (CE.out _ HF.out.kept) (fun hHeld => ?_)
        clear hK K
        try simp only [Act.put, List.setIfInBounds_toArray, List.set_cons_zero, List.set_cons_succ]
        refine wpAnyH_take (i := 17) (oi := ⟨some 47, Op.move (Operand.tmp 64), 45, _, _, none⟩) (v := ?v17n2k20) rfl (by kernel_rfl) (by kernel_rfl) (by kernel_rfl) (fun _ _ _ h => h) (Or.inl ⟨by rfl, ?y17n2k20⟩) hHeld ?z17n2k20
        case y17n2k20 => intro w hSw; (try dsimp only at hSw); go_simp <;> rfl
        try simp only [Act.put, List.setIfInBounds_toArray, List.set_cons_zero, List.set_cons_succ]
        refine wpAnyH_take (i := 18) (oi := ⟨some 65, Op.extract (Operand.tmp 47) 0, 33, _, _, none⟩) (v := ?v18n2k21) rfl (by kernel_rfl) (by kernel_rfl) (by kernel_rfl) (fun _ _ _ h => h) (Or.inl ⟨by rfl, ?y18n2k21⟩) hHeld ?z18n2k21
        case y18n2k21 => intro w hSw; (try dsimp only at hSw); go_simp <;> rfl
        try simp only [Act.put, List.setIfInBounds_toArray, List.set_cons_zero, List.set_cons_succ]
        refine wpAnyH_take (i := 19) (oi := ⟨some 66, Op.extract (Operand.tmp 47) 1, 44, _, _, none⟩) (v := ?v19n2k22) rfl (by kernel_rfl) (by kernel_rfl) (by kernel_rfl) (fun _ _ _ h => h) (Or.inl ⟨by rfl, ?y19n2k22⟩) hHeld ?z19n2k22
        case y19n2k22 => intro w hSw; (try dsimp only at hSw); go_simp <;> rfl
        try simp only [Act.put, List.setIfInBounds_toArray, List.set_cons_zero, List.set_cons_succ]
        refine wpAnyH_ready (rs := [20, 21]) (by kernel_rfl) (by simp) ?_
        refine (AllReadyH.cons (o := ⟨some 13, Op.alloc 33, 0, _, _, none⟩) rfl (fun K hK => ?b20n2k24) (AllReadyH.cons (o := ⟨some 14, Op.alloc 44, 0, _, _, none⟩) rfl (fun K hK => ?b21n2k23) AllReadyH.nil))
        case b20n2k24 =>
          refine step_allocT ?_
          intro XX u20 k20 hx20 hb20
          have HF2 := Lib.hid (HF.out.putX k20 hx20 hb20)
          clear HF
          have HF := HF2
          clear HF2 k20 hx20 hb20
          refine hK.out _ _ (CE.out _ HF.out.kept) (fun hHeld => ?_)
          clear hK K
          try simp only [Act.put, List.setIfInBounds_toArray, List.set_cons_zero, List.set_cons_succ]
          refine wpAnyH_ready (rs := [21]) (by kernel_rfl) (by simp) ?_
          refine AllReadyH.cons (o := ⟨some 14, Op.alloc 44, 0, _, _, none⟩) rfl (fun K hK => ?_) AllReadyH.nil
          refine step_allocR ?_
          intro YY u21 k21 hx21 hb21
          have HF2 := Lib.hid (HF.out.putY k21 hx21 hb21)
          clear HF
          have HF := HF2
          clear HF2 k21 hx21 hb21
          refine hK.out _ _ (CE.out _ HF.out.kept) (fun hHeld => ?_)
          clear hK K
          try simp only [Act.put, List.setIfInBounds_toArray, List.set_cons_zero, List.set_cons_succ]
          refine wpAnyH_ready (rs := [22]) (by kernel_rfl) (by simp) ?_
          refine AllReadyH.cons (o := ⟨none, Op.store 33 (Operand.tmp 13) (Operand.tmp 65), 0, _, _, none⟩) rfl (fun K hK => ?_) AllReadyH.nil
          refine step_storeT uu A9 c9 B9 d9 rfl rfl (HF.out.hasX _ rfl).2 ?_
          refine hK.out _ _ (CE.out _ HF.out.keptT) (fun hHeld => ?_)
          clear hK K
          try simp only [Act.put, List.setIfInBounds_toArray, List.set_cons_zero, List.set_cons_succ]
          refine wpAnyH_ready (rs := [23]) (by kernel_rfl) (by simp) ?_
          refine AllReadyH.cons (o := ⟨none, Op.store 44 (Operand.tmp 14) (Operand.tmp 66), 0, _, _, none⟩) rfl (fun K hK => ?_) AllReadyH.nil
          refine step_storeR o2 rfl rfl HF.out.repT ?_
          refine hK.out _ _ (CE.out _ HF.out.keptR) (fun hHeld => ?_)
          clear hK K
          try simp only [Act.put, List.setIfInBounds_toArray, List.set_cons_zero, List.set_cons_succ]
          refine wpAnyH_done (by kernel_rfl) ?_ _
          refine NoPanic.normal ?_
          have R := Lib.hid (HF.out.done o2)
          go_wp2
          go_meet
          case rel => exact R.out
        case b21n2k23 =>
          refine step_allocR ?_
          intro YY u21 k21 hx21 hb21
          have HF2 := Lib.hid (HF.out.putY k21 hx21 hb21)
          clear HF
          have HF := HF2
          clear HF2 k21 hx21 hb21
          refine hK.out _ _ (CE.out _ HF.out.kept) (fun hHeld => ?_)
          clear hK K
          try simp only [Act.put, List.setIfInBounds_toArray, List.set_cons_zero, List.set_cons_succ]
          refine wpAnyH_ready (rs := [20]) (by kernel_rfl) (by simp) ?_
          refine AllReadyH.cons (o := ⟨some 13, Op.alloc 33, 0, _, _, none⟩) rfl (fun K hK => ?_) AllReadyH.nil
          refine step_allocT ?_
          intro XX u20 k20 hx20 hb20
          have HF2 := Lib.hid (HF.out.putX k20 hx20 hb20)
          clear HF
          have HF := HF2
          clear HF2 k20 hx20 hb20
          refine hK.out _ _ (CE.out _ HF.out.kept) (fun hHeld => ?_)
          clear hK K
          try simp only [Act.put, List.setIfInBounds_toArray, List.set_cons_zero, List.set_cons_succ]
          refine wpAnyH_ready (rs := [22]) (by kernel_rfl) (by simp) ?_
          refine AllReadyH.cons (o := ⟨none, Op.store 33 (Operand.tmp 13) (Operand.tmp 65), 0, _, _, none⟩) rfl (fun K hK => ?_) AllReadyH.nil
          refine step_storeT uu A9 c9 B9 d9 rfl rfl (HF.out.hasX _ rfl).2 ?_
          refine hK.out _ _ (CE.out _ HF.out.keptT) (fun hHeld => ?_)
          clear hK K
          try simp only [Act.put, List.setIfInBounds_toArray, List.set_cons_zero, List.set_cons_succ]
          refine wpAnyH_ready (rs := [23]) (by kernel_rfl) (by simp) ?_
          refine AllReadyH.cons (o := ⟨none, Op.store 44 (Operand.tmp 14) (Operand.tmp 66), 0, _, _, none⟩) rfl (fun K hK => ?_) AllReadyH.nil
          refine step_storeR o2 rfl rfl HF.out.repT ?_
          refine hK.out _ _ (CE.out _ HF.out.keptR) (fun hHeld => ?_)
          clear hK K
          try simp only [Act.put, List.setIfInBounds_toArray, List.set_cons_zero, List.set_cons_succ]
          refine wpAnyH_done (by kernel_rfl) ?_ _
          refine NoPanic.normal ?_
          have R := Lib.hid (HF.out.done o2)
          go_wp2
          go_meet
          case rel => exact R.out
      case b20n2k18 =>
        refine step_allocT ?_
        intro XX u20 k20 hx20 hb20
        have HF2 := Lib.hid (HF.out.putX k20 hx20 hb20)
        clear HF
        have HF := HF2
        clear HF2 k20 hx20 hb20
        refine hK.out _ _ (CE.out _ HF.out.kept) (fun hHeld => ?_)
        clear hK K
        try simp only [Act.put, List.setIfInBounds_toArray, List.set_cons_zero, List.set_cons_succ]
        refine wpAnyH_ready (rs := [16, 21]) (by kernel_rfl) (by simp) ?_
        refine (AllReadyH.cons (o := ⟨some 64, Op.call { callee := Callee.value (Operand.func 13), args := #[Operand.tmp 48, Operand.tmp 63], argTypes := #[33, 41] }, 45, _, _, none⟩) rfl (fun K hK => ?b16n2k26) (AllReadyH.cons (o := ⟨some 14, Op.alloc 44, 0, _, _, none⟩) rfl (fun K hK => ?b21n2k25) AllReadyH.nil))
        case b16n2k26 =>
          go_simp
          refine (AP2.out _ _ _ _ _ _ (SV4.out.kept HF.out.kept)).mono ?_
          rintro e u16 ⟨A9, c9, B9, d9, rfl, sv9, k9⟩
          have HF2 := Lib.hid (HF.out.putV k9 sv9)
          clear HF
          have HF := HF2
          clear HF2 k9 sv9
          dsimp only
          refine hK.out _ _ (CE.out _ HF.out.kept) (fun hHeld => ?_)
          clear hK K
          try simp only [Act.put, List.setIfInBounds_toArray, List.set_cons_zero, List.set_cons_succ]
          refine wpAnyH_take (i := 17) (oi := ⟨some 47, Op.move (Operand.tmp 64), 45, _, _, none⟩) (v := ?v17n2k27) rfl (by kernel_rfl) (by kernel_rfl) (by kernel_rfl) (fun _ _ _ h => h) (Or.inl ⟨by rfl, ?y17n2k27⟩) hHeld ?z17n2k27
          case y17n2k27 => intro w hSw; (try dsimp only at hSw); go_simp <;> rfl
          try simp only [Act.put, List.setIfInBounds_toArray, List.set_cons_zero, List.set_cons_succ]
          refine wpAnyH_take (i := 18) (oi := ⟨some 65, Op.extract (Operand.tmp 47) 0, 33, _, _, none⟩) (v := ?v18n2k28) rfl (by kernel_rfl) (by kernel_rfl) (by kernel_rfl) (fun _ _ _ h => h) (Or.inl ⟨by rfl, ?y18n2k28⟩) hHeld ?z18n2k28
          case y18n2k28 => intro w hSw; (try dsimp only at hSw); go_simp <;> rfl
          try simp only [Act.put, List.setIfInBounds_toArray, List.set_cons_zero, List.set_cons_succ]
          refine wpAnyH_take (i := 19) (oi := ⟨some 66, Op.extract (Operand.tmp 47) 1, 44, _, _, none⟩) (v := ?v19n2k29) rfl (by kernel_rfl) (by kernel_rfl) (by kernel_rfl) (fun _ _ _ h => h) (Or.inl ⟨by rfl, ?y19n2k29⟩) hHeld ?z19n2k29
          case y19n2k29 => intro w hSw; (try dsimp only at hSw); go_simp <;> rfl
          try simp only [Act.put, List.setIfInBounds_toArray, List.set_cons_zero, List.set_cons_succ]
          refine wpAnyH_ready (rs := [21]) (by kernel_rfl) (by simp) ?_
          refine AllReadyH.cons (o := ⟨some 14, Op.alloc 44, 0, _, _, none⟩) rfl (fun K hK => ?_) AllReadyH.nil
          refine step_allocR ?_
          intro YY u21 k21 hx21 hb21
          have HF2 := Lib.hid (HF.out.putY k21 hx21 hb21)
          clear HF
          have HF := HF2
          clear HF2 k21 hx21 hb21
          refine hK.out _ _ (CE.out _ HF.out.kept) (fun hHeld => ?_)
          clear hK K
          try simp only [Act.put, List.setIfInBounds_toArray, List.set_cons_zero, List.set_cons_succ]
          refine wpAnyH_ready (rs := [22]) (by kernel_rfl) (by simp) ?_
          refine AllReadyH.cons (o := ⟨none, Op.store 33 (Operand.tmp 13) (Operand.tmp 65), 0, _, _, none⟩) rfl (fun K hK => ?_) AllReadyH.nil
          refine step_storeT uu A9 c9 B9 d9 rfl rfl (HF.out.hasX _ rfl).2 ?_
          refine hK.out _ _ (CE.out _ HF.out.keptT) (fun hHeld => ?_)
          clear hK K
          try simp only [Act.put, List.setIfInBounds_toArray, List.set_cons_zero, List.set_cons_succ]
          refine wpAnyH_ready (rs := [23]) (by kernel_rfl) (by simp) ?_
          refine AllReadyH.cons (o := ⟨none, Op.store 44 (Operand.tmp 14) (Operand.tmp 66), 0, _, _, none⟩) rfl (fun K hK => ?_) AllReadyH.nil
          refine step_storeR o2 rfl rfl HF.out.repT ?_
          refine hK.out _ _ (CE.out _ HF.out.keptR) (fun hHeld => ?_)
          clear hK K
          try simp only [Act.put, List.setIfInBounds_toArray, List.set_cons_zero, List.set_cons_succ]
          refine wpAnyH_done (by kernel_rfl) ?_ _
          refine NoPanic.normal ?_
          have R := Lib.hid (HF.out.done o2)
          go_wp2
          go_meet
          case rel => exact R.out
        case b21n2k25 =>
          refine step_allocR ?_
          intro YY u21 k21 hx21 hb21
          have HF2 := Lib.hid (HF.out.putY k21 hx21 hb21)
          clear HF
          have HF := HF2
          clear HF2 k21 hx21 hb21
          refine hK.out _ _ (CE.out _ HF.out.kept) (fun hHeld => ?_)
          clear hK K
          try simp only [Act.put, List.setIfInBounds_toArray, List.set_cons_zero, List.set_cons_succ]
          refine wpAnyH_ready (rs := [16]) (by kernel_rfl) (by simp) ?_
          refine AllReadyH.cons (o := ⟨some 64, Op.call { callee := Callee.value (Operand.func 13), args := #[Operand.tmp 48, Operand.tmp 63], argTypes := #[33, 41] }, 45, _, _, none⟩) rfl (fun K hK => ?_) AllReadyH.nil
          go_simp
          refine (AP2.out _ _ _ _ _ _ (SV4.out.kept HF.out.kept)).mono ?_
          rintro e u16 ⟨A9, c9, B9, d9, rfl, sv9, k9⟩
          have HF2 := Lib.hid (HF.out.putV k9 sv9)
          clear HF
          have HF := HF2
          clear HF2 k9 sv9
          dsimp only
          refine hK.out _ _ (CE.out _ HF.out.kept) (fun hHeld => ?_)
          clear hK K
          try simp only [Act.put, List.setIfInBounds_toArray, List.set_cons_zero, List.set_cons_succ]
          refine wpAnyH_take (i := 17) (oi := ⟨some 47, Op.move (Operand.tmp 64), 45, _, _, none⟩) (v := ?v17n2k30) rfl (by kernel_rfl) (by kernel_rfl) (by kernel_rfl) (fun _ _ _ h => h) (Or.inl ⟨by rfl, ?y17n2k30⟩) hHeld ?z17n2k30
          case y17n2k30 => intro w hSw; (try dsimp only at hSw); go_simp <;> rfl
          try simp only [Act.put, List.setIfInBounds_toArray, List.set_cons_zero, List.set_cons_succ]
          refine wpAnyH_take (i := 18) (oi := ⟨some 65, Op.extract (Operand.tmp 47) 0, 33, _, _, none⟩) (v := ?v18n2k31) rfl (by kernel_rfl) (by kernel_rfl) (by kernel_rfl) (fun _ _ _ h => h) (Or.inl ⟨by rfl, ?y18n2k31⟩) hHeld ?z18n2k31
          case y18n2k31 => intro w hSw; (try dsimp only at hSw); go_simp <;> rfl
          try simp only [Act.put, List.setIfInBounds_toArray, List.set_cons_zero, List.set_cons_succ]
          refine wpAnyH_take (i := 19) (oi := ⟨some 66, Op.extract (Operand.tmp 47) 1, 44, _, _, none⟩) (v := ?v19n2k32) rfl (by kernel_rfl) (by kernel_rfl) (by kernel_rfl) (fun _ _ _ h => h) (Or.inl ⟨by rfl, ?y19n2k32⟩) hHeld ?z19n2k32
          case y19n2k32 => intro w hSw; (try dsimp only at hSw); go_simp <;> rfl
          try simp only [Act.put, List.setIfInBounds_toArray, List.set_cons_zero, List.set_cons_succ]
          refine wpAnyH_ready (rs := [22]) (by kernel_rfl) (by simp) ?_
          refine AllReadyH.cons (o := ⟨none, Op.store 33 (Operand.tmp 13) (Operand.tmp 65), 0, _, _, none⟩) rfl (fun K hK => ?_) AllReadyH.nil
          refine step_storeT uu A9 c9 B9 d9 rfl rfl (HF.out.hasX _ rfl).2 ?_
          refine hK.out _ _ (CE.out _ HF.out.keptT) (fun hHeld => ?_)
          clear hK K
          try simp only [Act.put, List.setIfInBounds_toArray, List.set_cons_zero, List.set_cons_succ]
          refine wpAnyH_ready (rs := [23]) (by kernel_rfl) (by simp) ?_
          refine AllReadyH.cons (o := ⟨none, Op.store 44 (Operand.tmp 14) (Operand.tmp 66), 0, _, _, none⟩) rfl (fun K hK => ?_) AllReadyH.nil
          refine step_storeR o2 rfl rfl HF.out.repT ?_
          refine hK.out _ _ (CE.out _ HF.out.keptR) (fun hHeld => ?_)
          clear hK K
          try simp only [Act.put, List.setIfInBounds_toArray, List.set_cons_zero, List.set_cons_succ]
          refine wpAnyH_done (by kernel_rfl) ?_ _
          refine NoPanic.normal ?_
          have R := Lib.hid (HF.out.done o2)
          go_wp2
          go_meet
          case rel => exact R.out
      case b21n2k17 =>
        refine step_allocR ?_
        intro YY u21 k21 hx21 hb21
        have HF2 := Lib.hid (HF.out.putY k21 hx21 hb21)
        clear HF
        have HF := HF2
        clear HF2 k21 hx21 hb21
        refine hK.out _ _ (CE.out _ HF.out.kept) (fun hHeld => ?_)
        clear hK K
        try simp only [Act.put, List.setIfInBounds_toArray, List.set_cons_zero, List.set_cons_succ]
        refine wpAnyH_ready (rs := [16, 20]) (by kernel_rfl) (by simp) ?_
        refine (AllReadyH.cons (o := ⟨some 64, Op.call { callee := Callee.value (Operand.func 13), args := #[Operand.tmp 48, Operand.tmp 63], argTypes := #[33, 41] }, 45, _, _, none⟩) rfl (fun K hK => ?b16n2k34) (AllReadyH.cons (o := ⟨some 13, Op.alloc 33, 0, _, _, none⟩) rfl (fun K hK => ?b20n2k33) AllReadyH.nil))
        case b16n2k34 =>
          go_simp
          refine (AP2.out _ _ _ _ _ _ (SV4.out.kept HF.out.kept)).mono ?_
          rintro e u16 ⟨A9, c9, B9, d9, rfl, sv9, k9⟩
          have HF2 := Lib.hid (HF.out.putV k9 sv9)
          clear HF
          have HF := HF2
          clear HF2 k9 sv9
          dsimp only
          refine hK.out _ _ (CE.out _ HF.out.kept) (fun hHeld => ?_)
          clear hK K
          try simp only [Act.put, List.setIfInBounds_toArray, List.set_cons_zero, List.set_cons_succ]
          refine wpAnyH_take (i := 17) (oi := ⟨some 47, Op.move (Operand.tmp 64), 45, _, _, none⟩) (v := ?v17n2k35) rfl (by kernel_rfl) (by kernel_rfl) (by kernel_rfl) (fun _ _ _ h => h) (Or.inl ⟨by rfl, ?y17n2k35⟩) hHeld ?z17n2k35
          case y17n2k35 => intro w hSw; (try dsimp only at hSw); go_simp <;> rfl
          try simp only [Act.put, List.setIfInBounds_toArray, List.set_cons_zero, List.set_cons_succ]
          refine wpAnyH_take (i := 18) (oi := ⟨some 65, Op.extract (Operand.tmp 47) 0, 33, _, _, none⟩) (v := ?v18n2k36) rfl (by kernel_rfl) (by kernel_rfl) (by kernel_rfl) (fun _ _ _ h => h) (Or.inl ⟨by rfl, ?y18n2k36⟩) hHeld ?z18n2k36
          case y18n2k36 => intro w hSw; (try dsimp only at hSw); go_simp <;> rfl
          try simp only [Act.put, List.setIfInBounds_toArray, List.set_cons_zero, List.set_cons_succ]
          refine wpAnyH_take (i := 19) (oi := ⟨some 66, Op.extract (Operand.tmp 47) 1, 44, _, _, none⟩) (v := ?v19n2k37) rfl (by kernel_rfl) (by kernel_rfl) (by kernel_rfl) (fun _ _ _ h => h) (Or.inl ⟨by rfl, ?y19n2k37⟩) hHeld ?z19n2k37
          case y19n2k37 => intro w hSw; (try dsimp only at hSw); go_simp <;> rfl
          try simp only [Act.put, List.setIfInBounds_toArray, List.set_cons_zero, List.set_cons_succ]
          refine wpAnyH_ready (rs := [20]) (by kernel_rfl) (by simp) ?_
          refine AllReadyH.cons (o := ⟨some 13, Op.alloc 33, 0, _, _, none⟩) rfl (fun K hK => ?_) AllReadyH.nil
          refine step_allocT ?_
          intro XX u20 k20 hx20 hb20
          have HF2 := Lib.hid (HF.out.putX k20 hx20 hb20)
          clear HF
          have HF := HF2
          clear HF2 k20 hx20 hb20
          refine hK.out _ _ (CE.out _ HF.out.kept) (fun hHeld => ?_)
          clear hK K
          try simp only [Act.put, List.setIfInBounds_toArray, List.set_cons_zero, List.set_cons_succ]
          refine wpAnyH_ready (rs := [22]) (by kernel_rfl) (by simp) ?_
          refine AllReadyH.cons (o := ⟨none, Op.store 33 (Operand.tmp 13) (Operand.tmp 65), 0, _, _, none⟩) rfl (fun K hK => ?_) AllReadyH.nil
          refine step_storeT uu A9 c9 B9 d9 rfl rfl (HF.out.hasX _ rfl).2 ?_
          refine hK.out _ _ (CE.out _ HF.out.keptT) (fun hHeld => ?_)
          clear hK K
          try simp only [Act.put, List.setIfInBounds_toArray, List.set_cons_zero, List.set_cons_succ]
          refine wpAnyH_ready (rs := [23]) (by kernel_rfl) (by simp) ?_
          refine AllReadyH.cons (o := ⟨none, Op.store 44 (Operand.tmp 14) (Operand.tmp 66), 0, _, _, none⟩) rfl (fun K hK => ?_) AllReadyH.nil
          refine step_storeR o2 rfl rfl HF.out.repT ?_
          refine hK.out _ _ (CE.out _ HF.out.keptR) (fun hHeld => ?_)
          clear hK K
          try simp only [Act.put, List.setIfInBounds_toArray, List.set_cons_zero, List.set_cons_succ]
          refine wpAnyH_done (by kernel_rfl) ?_ _
          refine NoPanic.normal ?_
          have R := Lib.hid (HF.out.done o2)
          go_wp2
          go_meet
          case rel => exact R.out
        case b20n2k33 =>
          refine step_allocT ?_
          intro XX u20 k20 hx20 hb20
          have HF2 := Lib.hid (HF.out.putX k20 hx20 hb20)
          clear HF
          have HF := HF2
          clear HF2 k20 hx20 hb20
          refine hK.out _ _ (CE.out _ HF.out.kept) (fun hHeld => ?_)
          clear hK K
          try simp only [Act.put, List.setIfInBounds_toArray, List.set_cons_zero, List.set_cons_succ]
          refine wpAnyH_ready (rs := [16]) (by kernel_rfl) (by simp) ?_
          refine AllReadyH.cons (o := ⟨some 64, Op.call { callee := Callee.value (Operand.func 13), args := #[Operand.tmp 48, Operand.tmp 63], argTypes := #[33, 41] }, 45, _, _, none⟩) rfl (fun K hK => ?_) AllReadyH.nil
          go_simp
          refine (AP2.out _ _ _ _ _ _ (SV4.out.kept HF.out.kept)).mono ?_
          rintro e u16 ⟨A9, c9, B9, d9, rfl, sv9, k9⟩
          have HF2 := Lib.hid (HF.out.putV k9 sv9)
          clear HF
          have HF := HF2
          clear HF2 k9 sv9
          dsimp only
          refine hK.out _ _ (CE.out _ HF.out.kept) (fun hHeld => ?_)
          clear hK K
          try simp only [Act.put, List.setIfInBounds_toArray, List.set_cons_zero, List.set_cons_succ]
          refine wpAnyH_take (i := 17) (oi := ⟨some 47, Op.move (Operand.tmp 64), 45, _, _, none⟩) (v := ?v17n2k38) rfl (by kernel_rfl) (by kernel_rfl) (by kernel_rfl) (fun _ _ _ h => h) (Or.inl ⟨by rfl, ?y17n2k38⟩) hHeld ?z17n2k38
          case y17n2k38 => intro w hSw; (try dsimp only at hSw); go_simp <;> rfl
          try simp only [Act.put, List.setIfInBounds_toArray, List.set_cons_zero, List.set_cons_succ]
          refine wpAnyH_take (i := 18) (oi := ⟨some 65, Op.extract (Operand.tmp 47) 0, 33, _, _, none⟩) (v := ?v18n2k39) rfl (by kernel_rfl) (by kernel_rfl) (by kernel_rfl) (fun _ _ _ h => h) (Or.inl ⟨by rfl, ?y18n2k39⟩) hHeld ?z18n2k39
          case y18n2k39 => intro w hSw; (try dsimp only at hSw); go_simp <;> rfl
          try simp only [Act.put, List.setIfInBounds_toArray, List.set_cons_zero, List.set_cons_succ]
          refine wpAnyH_take (i := 19) (oi := ⟨some 66, Op.extract (Operand.tmp 47) 1, 44, _, _, none⟩) (v := ?v19n2k40) rfl (by kernel_rfl) (by kernel_rfl) (by kernel_rfl) (fun _ _ _ h => h) (Or.inl ⟨by rfl, ?y19n2k40⟩) hHeld ?z19n2k40
          case y19n2k40 => intro w hSw; (try dsimp only at hSw); go_simp <;> rfl
          try simp only [Act.put, List.setIfInBounds_toArray, List.set_cons_zero, List.set_cons_succ]
          refine wpAnyH_ready (rs := [22]) (by kernel_rfl) (by simp) ?_
          refine AllReadyH.cons (o := ⟨none, Op.store 33 (Operand.tmp 13) (Operand.tmp 65), 0, _, _, none⟩) rfl (fun K hK => ?_) AllReadyH.nil
          refine step_storeT uu A9 c9 B9 d9 rfl rfl (HF.out.hasX _ rfl).2 ?_
          refine hK.out _ _ (CE.out _ HF.out.keptT) (fun hHeld => ?_)
          clear hK K
          try simp only [Act.put, List.setIfInBounds_toArray, List.set_cons_zero, List.set_cons_succ]
          refine wpAnyH_ready (rs := [23]) (by kernel_rfl) (by simp) ?_
          refine AllReadyH.cons (o := ⟨none, Op.store 44 (Operand.tmp 14) (Operand.tmp 66), 0, _, _, none⟩) rfl (fun K hK => ?_) AllReadyH.nil
          refine step_storeR o2 rfl rfl HF.out.repT ?_
          refine hK.out _ _ (CE.out _ HF.out.keptR) (fun hHeld => ?_)
          clear hK K
          try simp only [Act.put, List.setIfInBounds_toArray, List.set_cons_zero, List.set_cons_succ]
          refine wpAnyH_done (by kernel_rfl) ?_ _
          refine NoPanic.normal ?_
          have R := Lib.hid (HF.out.done o2)
          go_wp2
          go_meet
          case rel => exact R.out
    case rest =>
      obtain ⟨X5, Y5, A5, c5, B5, d5, rfl, rfl, HX5, HY5, SV5, KC5⟩ := hcut
      have K5 := Lib.hid (K4.out.step KC5.out)
      clear K4 SV4 HX4 AP2 CE KC5 z1 z2 z3 z1p nK nW hw1 hw2 t1
      obtain ⟨w5, hw5⟩ : ∃ w5, w5 = wc := ⟨_, rfl⟩
      rw [← hw5] at HX5 HY5 SV5 K5 ⊢
      clear hw5
      obtain ⟨a0, a1, a2, a3⟩ := st_cells HX5.out
      obtain ⟨XT, hXT⟩ : ∃ XT, XT = (⟨#[120]⟩ : ByteArray) ++ VV := ⟨_, rfl⟩
      rw [← hXT] at HO GET hXY
      have HXT := Lib.hid hXT
      clear hXT
      by_cases hq : v10 = x10
      · have hXe := hXY.2 hq
        have q1 : ((v10 : Int) == (x10 : Int)) = true := by rw [hq]; simp
        have ho := HO.out
        rw [if_pos hXe] at ho GET
        have y0 : w5.cell? ⟨Y5, 0, none⟩ = some (.int .i64 0) := by have := (re_cells HY5.out).1; rw [ho] at this; exact this
        have y1 : w5.cell? ⟨Y5, 1, none⟩ = some (.string XT) := by have := (re_cells HY5.out).2; rw [ho] at this; exact this
        have EQ : ∀ u, (binOp .eql 44 (.agg #[.int .i64 0, .string XT]) (.agg #[.int .i64 0, .string XT])).run Try.prog u = .ok (.bool true) u := fun u => by
          have h := rep_eql u ⟨0, XT⟩ ⟨0, XT⟩
          rw [RepV.same_self] at h
          exact h
        have FV := fun u => fld_value u (.int .i64 0) ⟨#[110, 101, 119]⟩
        have GT := Lib.hid (GET.out w5 _ A5 c5 B5 d5 SV5.out)
        have GT2 : Hid (Calls Try.prog 17 #[.agg #[.int .i64 uu.index, .int .i64 uu.term, .slice A5 uu.pairs.length c5, .slice B5 uu.sess.length d5], .string ((⟨#[107]⟩ : ByteArray) ++ KK)] w5 fun en w' => en = .returned (.agg #[.int .i64 0, .string ⟨#[110, 101, 119]⟩]) ∧ Kept noBlock w5 w') := GT.out
        have x2 : (⟨#[120]⟩ : ByteArray) ++ VV = XT := HXT.out.symm
        clear hq hXe hXY ho HO GET GT HY5
        go_wp2_with fail
        refine GT2.out.mono ?_
        rintro e w6 ⟨rfl, k6⟩
        have K6 := Lib.hid (K5.out.step k6)
        clear k6 GT2 a0 a1 a2 a3 y0 y1
        go_wp2
        go_ret
        exact ⟨rfl, K6.out⟩
      · have hXe : ¬ XT = (⟨#[120]⟩ : ByteArray) ++ WW := fun h => hq (hXY.1 h)
        have q1 : ((v10 : Int) == (x10 : Int)) = false := beq_false_of_ne (fun h => hq (by omega))
        have ho := HO.out
        rw [if_neg hXe] at ho GET
        have y0 : w5.cell? ⟨Y5, 0, none⟩ = some (.int .i64 11) := by have := (re_cells HY5.out).1; rw [ho] at this; exact this
        have y1 : w5.cell? ⟨Y5, 1, none⟩ = some (.string XT) := by have := (re_cells HY5.out).2; rw [ho] at this; exact this
        have EQ : ∀ u, (binOp .eql 44 (.agg #[.int .i64 11, .string XT]) (.agg #[.int .i64 11, .string XT])).run Try.prog u = .ok (.bool true) u := fun u => by
          have h := rep_eql u ⟨11, XT⟩ ⟨11, XT⟩
          rw [RepV.same_self] at h
          exact h
        have FV := fun u => fld_value u (.int .i64 0) XT
        have GT := Lib.hid (GET.out w5 _ A5 c5 B5 d5 SV5.out)
        have GT2 : Hid (Calls Try.prog 17 #[.agg #[.int .i64 uu.index, .int .i64 uu.term, .slice A5 uu.pairs.length c5, .slice B5 uu.sess.length d5], .string ((⟨#[107]⟩ : ByteArray) ++ KK)] w5 fun en w' => en = .returned (.agg #[.int .i64 0, .string XT]) ∧ Kept noBlock w5 w') := GT.out
        have x2 : (⟨#[120]⟩ : ByteArray) ++ VV = XT := HXT.out.symm
        clear hq hXe hXY ho HO GET GT HY5
        go_wp2_with fail
        refine GT2.out.mono ?_
        rintro e w6 ⟨rfl, k6⟩
        have K6 := Lib.hid (K5.out.step k6)
        clear k6 GT2 a0 a1 a2 a3 y0 y1
        go_wp2
        go_ret
        exact ⟨rfl, K6.out⟩
end Go.Proofs.Ytgmjnjbmolalmaa
