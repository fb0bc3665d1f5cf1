/-
  StateRead: what it does with whatever bytes. No statement is proved here.
-/
import Derived.Test.YtgmjnjbmolalmaaStRound
import Derived.Test.YtgmjnjbmolalmaaL7Lays
import Derived.Test.YtgmjnjbmolalmaaL7Right
import Derived.Test.YtgmjnjbmolalmaaRowV
import Derived.Laws.BitsAllLaws
namespace Go.Proofs.Ytgmjnjbmolalmaa
open Go.RowKit Tot

set_option maxRecDepth 100000 in
set_option maxHeartbeats 4000000 in
theorem read7_walk (F : Nat → Prop) (a : Option Addr) (n cp : Nat) (ss : List SayV) (at_ : Nat) (by_ : UInt8) (a2 : Option Addr) (n2 cp2 : Nat) (L : List UInt8) (w : World) (h : Lies w F a (sayCells ss)) (hl : ss.length = n) (hnc : n ≤ cp) (hat : at_ < 65536)
    (h2 : Lies w F a2 (L.map bv)) (hl2 : L.length = n2) (hx2 : n2 ≤ 2000000) :
    Calls Try.prog 8 #[.slice a n cp, .int .u16 (at_ : Int), .int .u8 (by_.toNat : Int), .slice a2 n2 cp2] w fun e w' => e = .returned (.bool true) ∧ Kept noBlock w w' := by
  have SO := Lib.hid (fun u (k : Kept noBlock w u) => some_any F a n cp ss u (h.keep k (fun _ _ h => h)) hl hnc)
  have xr := someV_right ss
  obtain ⟨s, hs⟩ : ∃ s, s = someV ss := ⟨_, rfl⟩
  rw [← hs] at SO xr
  have hN2 := right_bytes xr
  have hN1 := s.bytes_length
  rw [rowsB_length] at hN1
  obtain ⟨N, hN⟩ : ∃ N, s.bytes.length = N := ⟨_, rfl⟩
  rw [hN] at hN1 hN2
  replace hN1 : 32 ≤ N := by omega
  have SB := Lib.hid (fun G A c B d u (hu : Sv u G s A c B d) => sbytes_any G s A c B d N u hu hN (by omega))
  obtain ⟨xb, hxb⟩ : ∃ xb, xb = s.bytes := ⟨_, rfl⟩
  rw [← hxb] at SB hN
  have HN := Lib.hid hN
  clear hN hs xr hxb h hl hnc
  obtain ⟨k, hk⟩ : ∃ k, k = at_ % N := ⟨_, rfl⟩
  have hkN : k < N := by rw [hk]; exact Nat.mod_lt _ (by omega)
  have t1 : ((at_ : Int)).tmod (N : Int) = (k : Int) := by rw [hk]; exact tmod_nat _ N
  clear hk
  have H2 := Lib.hid h2
  have HL2 := Lib.hid hl2
  clear h2 hl2
  unfold stv at SO SB
  go_enter Try.func8, Try.ntmps8
  go_wp2_with fail
  refine (awake_any w).mono ?_
  rintro e w1 ⟨rfl, k1⟩
  have K1 := Lib.hid k1
  clear k1
  go_wp2_with fail
  refine (SO.out _ K1.out).mono ?_
  rintro e w2 ⟨A2, c2, B2, d2, rfl, sv2, k2⟩
  have K2 := Lib.hid (K1.out.step k2)
  have SV2 := Lib.hid sv2
  clear k2 sv2 K1 SO
  go_wp2_with fail
  refine (SB.out _ A2 c2 B2 d2 w2 SV2.out).mono ?_
  rintro e w3 ⟨A, c1, rfl, o3, k3⟩
  have hc1 : N ≤ c1 := by obtain ⟨_, _, e, hle⟩ := own_form o3; injection e with _ _ e; omega
  have S3 : Hid (Sep w2 w3 5 (putAt (putAt (fun _ => none) 1 (.slice A N c1) (xb.map bv)) 2 (.slice none 0 0) [])) :=
    ((Sep.start (Kept.refl _ _)).add 1 k3 (by rw [List.length_map, HN.out]; exact o3) (fun b hb => (o3.lt b hb).1)).nil 2
  clear o3 k3 SB SV2
  go_wp2_with (at_builtin; refine Sep.list_append S3.out 2 1 rfl (.const (.slice none 0 0)) (.tmp 20) 37 rfl (.int .u8 0) Try.underlying37 Try.infoU8 rfl none A 0 N 0 c1 [] (xb.map bv) rfl rfl rfl rfl ?hone ?hlen ?_)
  case hone => exact bv_one _
  case hlen => omega
  intro A4 c4 w4 S4
  have o4 := S4.own 2 _ _ rfl
  rw [List.length_map, HN.out] at o4
  obtain ⟨g, cap, hv, hcp, _⟩ := o4.form (by omega)
  obtain ⟨rfl, rfl⟩ : A4 = some ⟨g, 0, none⟩ ∧ c4 = cap := by injection hv with a b c; exact ⟨a, c⟩
  obtain ⟨xk, hxk⟩ : ∃ xk, xb[k]? = some xk := ⟨_, List.getElem?_eq_getElem (by rw [HN.out]; exact hkN)⟩
  have hcx : w4.cell? ⟨g, k, none⟩ = some (.int .u8 (xk.toNat : Int)) := by rw [o4.cellAt k (by omega)]; rw [List.getElem?_map, hxk]; rfl
  have hf : w4.frozen? ⟨g, k, none⟩ = false := o4.frozenAt _
  obtain ⟨z, hz⟩ : ∃ z : UInt8, z = xk ^^^ by_ := ⟨_, rfl⟩
  have hxor : bits BinOp.xor IntKind.u8 (xk.toNat : Int) (by_.toNat : Int) = (z.toNat : Int) := by rw [hz, UInt8.toNat_xor]; exact u8_xor_nat _ _ xk.toNat_lt by_.toNat_lt
  have hset : (xb.map bv).set k (.int .u8 (z.toNat : Int)) = (xb.set k z).map bv := by rw [List.map_set]; rfl
  have hst := o4.stored k (.int .u8 (z.toNat : Int))
  rw [hset] at hst
  have S5 := Lib.hid (S4.grow (i := 2) rfl (Kept.setCell (S := fun b => (Value.slice (some ⟨g, 0, none⟩) N c4).ownBlock = some b) w4 (p := ⟨g, k, none⟩) (by rfl) (.int .u8 (z.toNat : Int))) (v' := .slice (some ⟨g, 0, none⟩) N c4) (ys := (xb.set k z).map bv)
    (by rw [List.length_map, List.length_set, HN.out]; exact own_base hst.1 (fun _ _ => Nat.zero_le _)) (fun b hb => .inl hb))
  have hkN' : (k : Int) < (N : Int) := by omega
  clear hst hset hz hxk o4 hv hcp S4 S3
  go_upto_region 6 with (fail)
  generalize w4.setCell ⟨g, k, none⟩ (.int .u8 (z.toNat : Int)) = w5 at S5 ⊢
  clear hcx hf hxor
  have K5 := Lib.hid (K2.out.step S5.out.kept)
  have HH : Hid (Lies w2 F a2 (L.map bv)) := H2.out.keep K2.out (fun _ _ h => h)
  clear H2
  go_cut [47, 48, 49] (fun p q r wc => ∃ (G : Nat) (ys : List RowV), p = .slice (some ⟨G, 0, none⟩) 4 4 ∧ q = .int .i64 4 ∧ r = .int .i64 0 ∧ Hid (ys.length = 4) ∧ Hid (∀ i y, ys[i]? = some y → wc.cell? ⟨G, i, none⟩ = some y.val ∧ y.Lie wc) ∧ Hid (Kept noBlock w wc))
  case first =>
    have hR : Sep w2 w5.drew 5 _ := (S5.out.nil 0).drew
    have nN : (N = 0) = False := eq_false (by omega)
    have t2 : (IntKind.i64.wrap (at_ : Int)).tmod (N : Int) = (k : Int) := by rw [IntWalk.i64_in _ (by omega)]; exact t1
    have i1 : (k : Int) ≤ (c1 : Int) := by omega
    have i2 : (0 : Int) ≤ (k : Int) := by omega
    refine wp_region_noPanic ?_
    refine wp_region_held_drew (S := fun _ => True) (by kernel_rfl) trivial (fun hHeld => ?_)
    refine wpAnyH_take (i := 0) (oi := ⟨some 33, Op.move (Operand.tmp 3), 37, _, _, none⟩) (v := ?v0n21k1) rfl (by kernel_rfl) (by kernel_rfl) (by kernel_rfl) (fun _ _ _ h => h) (Or.inl ⟨by rfl, ?y0n21k1⟩) hHeld ?z0n21k1
    case y0n21k1 => intro w hSw; (try dsimp only at hSw); go_simp <;> rfl
    try simp only [Act.put, List.setIfInBounds_toArray, List.set_cons_zero, List.set_cons_succ]
    refine wpAnyH_take (i := 1) (oi := ⟨some 34, Op.move (Operand.tmp 10), 37, _, _, none⟩) (v := ?v1n21k2) rfl (by kernel_rfl) (by kernel_rfl) (by kernel_rfl) (fun _ _ _ h => h) (Or.inl ⟨by rfl, ?y1n21k2⟩) hHeld ?z1n21k2
    case y1n21k2 => intro w hSw; (try dsimp only at hSw); go_simp <;> rfl
    try simp only [Act.put, List.setIfInBounds_toArray, List.set_cons_zero, List.set_cons_succ]
    refine wpAnyH_take (i := 2) (oi := ⟨some 35, Op.move (Operand.tmp 9), 37, _, _, none⟩) (v := ?v2n21k3) rfl (by kernel_rfl) (by kernel_rfl) (by kernel_rfl) (fun _ _ _ h => h) (Or.inl ⟨by rfl, ?y2n21k3⟩) hHeld ?z2n21k3
    case y2n21k3 => intro w hSw; (try dsimp only at hSw); go_simp <;> rfl
    try simp only [Act.put, List.setIfInBounds_toArray, List.set_cons_zero, List.set_cons_succ]
    refine wpAnyH_take (i := 3) (oi := ⟨some 36, Op.move (Operand.tmp 1), 70, _, _, none⟩) (v := ?v3n21k4) rfl (by kernel_rfl) (by kernel_rfl) (by kernel_rfl) (fun _ _ _ h => h) (Or.inl ⟨by rfl, ?y3n21k4⟩) hHeld ?z3n21k4
    case y3n21k4 => intro w hSw; (try dsimp only at hSw); go_simp <;> rfl
    try simp only [Act.put, List.setIfInBounds_toArray, List.set_cons_zero, List.set_cons_succ]
    refine wpAnyH_take (i := 4) (oi := ⟨some 37, Op.convert 70 3 (Operand.tmp 36), 3, _, _, none⟩) (v := ?v4n21k5) rfl (by kernel_rfl) (by kernel_rfl) (by kernel_rfl) (fun _ _ _ h => h) (Or.inl ⟨by rfl, ?y4n21k5⟩) hHeld ?z4n21k5
    case y4n21k5 => intro w hSw; (try dsimp only at hSw); go_simp <;> rfl
    try simp only [Act.put, List.setIfInBounds_toArray, List.set_cons_zero, List.set_cons_succ]
    refine wpAnyH_take (i := 5) (oi := ⟨some 38, Op.move (Operand.tmp 9), 37, _, _, none⟩) (v := ?v5n21k6) rfl (by kernel_rfl) (by kernel_rfl) (by kernel_rfl) (fun _ _ _ h => h) (Or.inl ⟨by rfl, ?y5n21k6⟩) hHeld ?z5n21k6
    case y5n21k6 => intro w hSw; (try dsimp only at hSw); go_simp <;> rfl
    try simp only [Act.put, List.setIfInBounds_toArray, List.set_cons_zero, List.set_cons_succ]
    refine wpAnyH_take (i := 6) (oi := ⟨some 39, Op.call { callee := Callee.builtin Builtin.len, args := #[Operand.tmp 38], argTypes := #[37] }, 3, _, _, none⟩) (v := ?v6n21k7) rfl (by kernel_rfl) (by kernel_rfl) (by kernel_rfl) (fun _ _ _ h => h) (Or.inl ⟨by rfl, ?y6n21k7⟩) hHeld ?z6n21k7
    case y6n21k7 => intro w hSw; (try dsimp only at hSw); go_simp <;> rfl
    try simp only [Act.put, List.setIfInBounds_toArray, List.set_cons_zero, List.set_cons_succ]
    refine wpAnyH_take (i := 7) (oi := ⟨some 40, Op.binOp BinOp.rem 3 (Operand.tmp 37) (Operand.tmp 39) 3, 3, _, _, none⟩) (v := ?v7n21k8) rfl (by kernel_rfl) (by kernel_rfl) (by kernel_rfl) (fun _ _ _ h => h) (Or.inl ⟨by rfl, ?y7n21k8⟩) hHeld ?z7n21k8
    case y7n21k8 => intro w hSw; (try dsimp only at hSw); go_simp <;> rfl
    try simp only [Act.put, List.setIfInBounds_toArray, List.set_cons_zero, List.set_cons_succ]
    refine wpAnyH_take (i := 8) (oi := ⟨some 41, Op.slice 37 (Operand.tmp 35) none (some (Operand.tmp 40)) none, 37, _, _, none⟩) (v := ?v8n21k9) rfl (by kernel_rfl) (by kernel_rfl) (by kernel_rfl) (fun _ _ _ h => h) (Or.inl ⟨by rfl, ?y8n21k9⟩) hHeld ?z8n21k9
    case y8n21k9 => intro w hSw; (try dsimp only at hSw); go_simp <;> rfl
    try simp only [Act.put, List.setIfInBounds_toArray, List.set_cons_zero, List.set_cons_succ]
    refine wpAnyH_take (i := 9) (oi := ⟨some 42, Op.move (Operand.tmp 9), 37, _, _, none⟩) (v := ?v9n21k10) rfl (by kernel_rfl) (by kernel_rfl) (by kernel_rfl) (fun _ _ _ h => h) (Or.inl ⟨by rfl, ?y9n21k10⟩) hHeld ?z9n21k10
    case y9n21k10 => intro w hSw; (try dsimp only at hSw); go_simp <;> rfl
    try simp only [Act.put, List.setIfInBounds_toArray, List.set_cons_zero, List.set_cons_succ]
    refine wpAnyH_take (i := 11) (oi := ⟨some 44, Op.move (Operand.tmp 2), 5, _, _, none⟩) (v := ?v11n21k11) rfl (by kernel_rfl) (by kernel_rfl) (by kernel_rfl) (fun _ _ _ h => h) (Or.inl ⟨by rfl, ?y11n21k11⟩) hHeld ?z11n21k11
    case y11n21k11 => intro w hSw; (try dsimp only at hSw); go_simp <;> rfl
    try simp only [Act.put, List.setIfInBounds_toArray, List.set_cons_zero, List.set_cons_succ]
    refine wpAnyH_take (i := 16) (oi := ⟨some 49, Op.move (Operand.const (Value.int IntKind.i64 0)), 3, _, _, none⟩) (v := ?v16n21k12) rfl (by kernel_rfl) (by kernel_rfl) (by kernel_rfl) (fun _ _ _ h => h) (Or.inl ⟨by rfl, ?y16n21k12⟩) hHeld ?z16n21k12
    case y16n21k12 => intro w hSw; (try dsimp only at hSw); go_simp <;> rfl
    try simp only [Act.put, List.setIfInBounds_toArray, List.set_cons_zero, List.set_cons_succ]
    refine wpAnyH_ready (rs := [10, 12]) (by kernel_rfl) (by simp) ?_
    refine (AllReadyH.cons (o := ⟨some 43, Op.call { callee := Callee.builtin Builtin.append, args := #[Operand.const (Value.slice none 0 0), Operand.tmp 42], argTypes := #[37, 37] }, 37, _, _, none⟩) rfl (fun K hK => ?b10n21k14) (AllReadyH.cons (o := ⟨some 45, Op.buildSlice 37 1 #[(0, Operand.tmp 44)], 37, _, _, none⟩) rfl (fun K hK => ?b12n21k13) AllReadyH.nil))
    case b10n21k14 =>
      refine hR.step_append 0 1 rfl (.const (.slice none 0 0)) (.tmp 42) 37 rfl (.int .u8 0) Try.underlying37 Try.infoU8 rfl none A 0 N 0 c1 _ (xb.map bv) rfl rfl rfl rfl (bv_one _) (by omega) ?_
      intro A10 c10 w10 hR2
      simp only [Nat.zero_add, List.nil_append] at hR2 ⊢
      replace hR := hR2
      clear hR2
      refine hK.out _ _ trivial (fun hHeld => ?_)
      clear hK K
      try simp only [Act.put, List.setIfInBounds_toArray, List.set_cons_zero, List.set_cons_succ]
      refine wpAnyH_ready (rs := [12]) (by kernel_rfl) (by simp) ?_
      refine AllReadyH.cons (o := ⟨some 45, Op.buildSlice 37 1 #[(0, Operand.tmp 44)], 37, _, _, none⟩) rfl (fun K hK => ?_) AllReadyH.nil
      refine hR.step_build 12 rfl 37 (.tmp 44) rfl (.int .u8 0) Try.underlying37 Try.infoU8 (bv by_) rfl rfl ?_
      intro B12 w12 hR2
      replace hR := hR2
      clear hR2
      refine hK.out _ _ trivial (fun hHeld => ?_)
      clear hK K
      try simp only [Act.put, List.setIfInBounds_toArray, List.set_cons_zero, List.set_cons_succ]
      refine wpAnyH_ready (rs := [13]) (by kernel_rfl) (by simp) ?_
      refine AllReadyH.cons (o := ⟨some 46, Op.call { callee := Callee.builtin Builtin.append, args := #[Operand.tmp 43, Operand.tmp 45], argTypes := #[37, 37] }, 37, _, _, none⟩) rfl (fun K hK => ?_) AllReadyH.nil
      refine hR.step_append 0 12 rfl (.tmp 43) (.tmp 45) 37 rfl (.int .u8 0) Try.underlying37 Try.infoU8 rfl _ _ N 1 _ _ (xb.map bv) [bv by_] rfl rfl rfl rfl (by intro u hu; simp at hu; subst hu; rfl) (by omega) ?_
      intro A13 c13 w13 hR2
      replace hR := hR2
      clear hR2
      refine hK.out _ _ trivial (fun hHeld => ?_)
      clear hK K
      try simp only [Act.put, List.setIfInBounds_toArray, List.set_cons_zero, List.set_cons_succ]
      refine wpAnyH_ready (rs := [14]) (by kernel_rfl) (by simp) ?_
      refine AllReadyH.cons (o := ⟨some 47, Op.buildSlice 71 4 #[(0, Operand.tmp 33), (1, Operand.tmp 34), (2, Operand.tmp 41), (3, Operand.tmp 46)], 71, _, _, none⟩) rfl (fun K hK => ?_) AllReadyH.nil
      have l1 : Lies w13 (fun _ => True) A (xb.map bv) := (hR.lies (i := 1) (n := N) (c := c1) rfl).mono (fun _ _ => trivial)
      have l2 : Lies w13 (fun _ => True) (some ⟨g, 0, none⟩) ((xb.set k z).map bv) := (hR.lies (i := 2) (n := N) (c := c4) rfl).mono (fun _ _ => trivial)
      have l3 : Lies w13 (fun _ => True) A13 ((xb ++ [by_]).map bv) := by
        rw [List.map_append]
        exact (hR.lies (i := 0) (n := N + 1) (c := c13) rfl).mono (fun _ _ => trivial)
      have l0 : Lies w13 (fun _ => True) a2 (L.map bv) := (HH.out.keep hR.kept (fun _ _ h => h)).mono (fun _ _ => trivial)
      have G14 := Lib.hid (RowV.four (t := 37) (y0 := ⟨a2, n2, cp2, L⟩) (y1 := ⟨some ⟨g, 0, none⟩, N, c4, xb.set k z⟩) (y2 := ⟨A, k, c1, xb.take k⟩) (y3 := ⟨A13, N + 1, c13, xb ++ [by_]⟩)
        ⟨l0, HL2.out, by show n2 ≤ 1000000000000; omega⟩ ⟨l2, by rw [List.length_set]; exact HN.out, by show N ≤ 1000000000000; omega⟩ ⟨by rw [List.map_take]; exact l1.take k, by show (xb.take k).length = k; rw [List.length_take, HN.out]; omega, by show k ≤ 1000000000000; omega⟩ ⟨l3, by show (xb ++ [by_]).length = N + 1; rw [List.length_append, HN.out]; rfl, by show N + 1 ≤ 1000000000000; omega⟩)
      have K14 := Lib.hid ((K2.out.step hR.kept).step (Kept.alloc noBlock w13 (.cells #[.slice a2 n2 cp2, .slice (some ⟨g, 0, none⟩) N c4, .slice A k c1, .slice A13 (N + 1) c13] 37)))
      clear l0 l1 l2 l3
      go_simp
      refine hK.out _ _ trivial (fun hHeld => ?_)
      clear hK K
      try simp only [Act.put, List.setIfInBounds_toArray, List.set_cons_zero, List.set_cons_succ]
      refine wpAnyH_take (i := 15) (oi := ⟨some 48, Op.call { callee := Callee.builtin Builtin.len, args := #[Operand.tmp 47], argTypes := #[71] }, 3, _, _, none⟩) (v := ?v15n21k15) rfl (by kernel_rfl) (by kernel_rfl) (by kernel_rfl) (fun _ _ _ h => h) (Or.inl ⟨by rfl, ?y15n21k15⟩) hHeld ?z15n21k15
      case y15n21k15 => intro w hSw; (try dsimp only at hSw); go_simp <;> rfl
      try simp only [Act.put, List.setIfInBounds_toArray, List.set_cons_zero, List.set_cons_succ]
      refine wpAnyH_done (by kernel_rfl) ?_ _
      refine NoPanic.normal ?_
      go_wp2
      go_meet
      case rel => exact ⟨w13.heap.size, [⟨a2, n2, cp2, L⟩, ⟨some ⟨g, 0, none⟩, N, c4, xb.set k z⟩, ⟨A, k, c1, xb.take k⟩, ⟨A13, N + 1, c13, xb ++ [by_]⟩], rfl, rfl, rfl, Lib.hid rfl, G14, K14⟩
    case b12n21k13 =>
      refine hR.step_build 12 rfl 37 (.tmp 44) rfl (.int .u8 0) Try.underlying37 Try.infoU8 (bv by_) rfl rfl ?_
      intro B12 w12 hR2
      replace hR := hR2
      clear hR2
      refine hK.out _ _ trivial (fun hHeld => ?_)
      clear hK K
      try simp only [Act.put, List.setIfInBounds_toArray, List.set_cons_zero, List.set_cons_succ]
      refine wpAnyH_ready (rs := [10]) (by kernel_rfl) (by simp) ?_
      refine AllReadyH.cons (o := ⟨some 43, Op.call { callee := Callee.builtin Builtin.append, args := #[Operand.const (Value.slice none 0 0), Operand.tmp 42], argTypes := #[37, 37] }, 37, _, _, none⟩) rfl (fun K hK => ?_) AllReadyH.nil
      refine hR.step_append 0 1 rfl (.const (.slice none 0 0)) (.tmp 42) 37 rfl (.int .u8 0) Try.underlying37 Try.infoU8 rfl none A 0 N 0 c1 _ (xb.map bv) rfl rfl rfl rfl (bv_one _) (by omega) ?_
      intro A10 c10 w10 hR2
      simp only [Nat.zero_add, List.nil_append] at hR2 ⊢
      replace hR := hR2
      clear hR2
      refine hK.out _ _ trivial (fun hHeld => ?_)
      clear hK K
      try simp only [Act.put, List.setIfInBounds_toArray, List.set_cons_zero, List.set_cons_succ]
      refine wpAnyH_ready (rs := [13]) (by kernel_rfl) (by simp) ?_
      refine AllReadyH.cons (o := ⟨some 46, Op.call { callee := Callee.builtin Builtin.append, args := #[Operand.tmp 43, Operand.tmp 45], argTypes := #[37, 37] }, 37, _, _, none⟩) rfl (fun K hK => ?_) AllReadyH.nil
      refine hR.step_append 0 12 rfl (.tmp 43) (.tmp 45) 37 rfl (.int .u8 0) Try.underlying37 Try.infoU8 rfl _ _ N 1 _ _ (xb.map bv) [bv by_] rfl rfl rfl rfl (by intro u hu; simp at hu; subst hu; rfl) (by omega) ?_
      intro A13 c13 w13 hR2
      replace hR := hR2
      clear hR2
      refine hK.out _ _ trivial (fun hHeld => ?_)
      clear hK K
      try simp only [Act.put, List.setIfInBounds_toArray, List.set_cons_zero, List.set_cons_succ]
      refine wpAnyH_ready (rs := [14]) (by kernel_rfl) (by simp) ?_
      refine AllReadyH.cons (o := ⟨some 47, Op.buildSlice 71 4 #[(0, Operand.tmp 33), (1, Operand.tmp 34), (2, Operand.tmp 41), (3, Operand.tmp 46)], 71, _, _, none⟩) rfl (fun K hK => ?_) AllReadyH.nil
      have l1 : Lies w13 (fun _ => True) A (xb.map bv) := (hR.lies (i := 1) (n := N) (c := c1) rfl).mono (fun _ _ => trivial)
      have l2 : Lies w13 (fun _ => True) (some ⟨g, 0, none⟩) ((xb.set k z).map bv) := (hR.lies (i := 2) (n := N) (c := c4) rfl).mono (fun _ _ => trivial)
      have l3 : Lies w13 (fun _ => True) A13 ((xb ++ [by_]).map bv) := by
        rw [List.map_append]
        exact (hR.lies (i := 0) (n := N + 1) (c := c13) rfl).mono (fun _ _ => trivial)
      have l0 : Lies w13 (fun _ => True) a2 (L.map bv) := (HH.out.keep hR.kept (fun _ _ h => h)).mono (fun _ _ => trivial)
      have G14 := Lib.hid (RowV.four (t := 37) (y0 := ⟨a2, n2, cp2, L⟩) (y1 := ⟨some ⟨g, 0, none⟩, N, c4, xb.set k z⟩) (y2 := ⟨A, k, c1, xb.take k⟩) (y3 := ⟨A13, N + 1, c13, xb ++ [by_]⟩)
        ⟨l0, HL2.out, by show n2 ≤ 1000000000000; omega⟩ ⟨l2, by rw [List.length_set]; exact HN.out, by show N ≤ 1000000000000; omega⟩ ⟨by rw [List.map_take]; exact l1.take k, by show (xb.take k).length = k; rw [List.length_take, HN.out]; omega, by show k ≤ 1000000000000; omega⟩ ⟨l3, by show (xb ++ [by_]).length = N + 1; rw [List.length_append, HN.out]; rfl, by show N + 1 ≤ 1000000000000; omega⟩)
      have K14 := Lib.hid ((K2.out.step hR.kept).step (Kept.alloc noBlock w13 (.cells #[.slice a2 n2 cp2, .slice (some ⟨g, 0, none⟩) N c4, .slice A k c1, .slice A13 (N + 1) c13] 37)))
      clear l0 l1 l2 l3
      go_simp
      refine hK.out _ _ trivial (fun hHeld => ?_)
      clear hK K
      try simp only [Act.put, List.setIfInBounds_toArray, List.set_cons_zero, List.set_cons_succ]
      refine wpAnyH_take (i := 15) (oi := ⟨some 48, Op.call { callee := Callee.builtin Builtin.len, args := #[Operand.tmp 47], argTypes := #[71] }, 3, _, _, none⟩) (v := ?v15n21k16) rfl (by kernel_rfl) (by kernel_rfl) (by kernel_rfl) (fun _ _ _ h => h) (Or.inl ⟨by rfl, ?y15n21k16⟩) hHeld ?z15n21k16
      case y15n21k16 => intro w hSw; (try dsimp only at hSw); go_simp <;> rfl
      try simp only [Act.put, List.setIfInBounds_toArray, List.set_cons_zero, List.set_cons_succ]
      refine wpAnyH_done (by kernel_rfl) ?_ _
      refine NoPanic.normal ?_
      go_wp2
      go_meet
      case rel => exact ⟨w13.heap.size, [⟨a2, n2, cp2, L⟩, ⟨some ⟨g, 0, none⟩, N, c4, xb.set k z⟩, ⟨A, k, c1, xb.take k⟩, ⟨A13, N + 1, c13, xb ++ [by_]⟩], rfl, rfl, rfl, Lib.hid rfl, G14, K14⟩
  case rest =>
    obtain ⟨G, ys, rfl, rfl, rfl, HY, HF, HK⟩ := hcut
    clear HH K2 K5 S5 HN HL2 t1
    go_wp2
    go_loopw [49] (fun v wr => ∃ (i : Nat), i ≤ 4 ∧ v = .int .i64 (i : Int) ∧ Hid (Kept noBlock wc wr)) (fun v _ => 4 - (intOf v).toNat)
    case atStart => exact ⟨0, by omega, rfl, Kept.refl _ _⟩
    case round =>
      obtain ⟨i, hi, rfl, HKr⟩ := hrel
      by_cases hlt : i < 4
      · obtain ⟨y, hy⟩ : ∃ y, ys[i]? = some y := ⟨_, List.getElem?_eq_getElem (by rw [HY.out]; exact hlt)⟩
        obtain ⟨hcell, hlie⟩ := HF.out i y hy
        have hc := HKr.out.cell hcell (fun h => h)
        have HL := Lib.hid (hlie.keep HKr.out)
        clear hcell hlie hy
        obtain ⟨ya, yn, yc, yl⟩ := y
        simp only [RowV.val] at hc
        have RD := Lib.hid (sread_any (fun _ => True) ya yn yc yl wr HL.out.lies HL.out.len HL.out.small)
        obtain ⟨E, hE⟩ : ∃ E, gotS yl = E := ⟨_, rfl⟩
        obtain ⟨ok, hok⟩ : ∃ ok, gotT yl = ok := ⟨_, rfl⟩
        rw [hE, hok] at RD
        have HE := Lib.hid hE
        have HOK := Lib.hid hok
        clear hE hok
        cases ok
        · have hE0 : E = noState := by rw [← HE.out]; exact gotT_false HOK.out
          subst hE0
          unfold stv noState at RD
          simp only [List.length_nil] at RD
          clear HE HOK
          go_wp2_with fail
          refine RD.out.mono ?_
          rintro e w2 ⟨A, c, B, d, rfl, sv2, k2⟩
          have ka := Kept.alloc noBlock w2 (.cells #[.int .i64 0, .int .i64 0, .slice A 0 c, .slice B 0 d] 33)
          have ha := heap_alloc_new w2 (.cells #[.int .i64 0, .int .i64 0, .slice A 0 c, .slice B 0 d] 33)
          go_upto_region 10 with (fail)
          generalize w2.alloc (.cells #[.int .i64 0, .int .i64 0, .slice A 0 c, .slice B 0 d] 33) = w3 at ka ha ⊢
          obtain ⟨x0, x1, x2, x3⟩ := st_cells ha
          have K3 := Lib.hid (HKr.out.step (k2.step ka))
          clear sv2 k2 ka ha RD
          go_quiet (fail)
          have kq := Kept.drewN noBlock w3 nq
          generalize w3.drewN nq = u at kq ⊢
          have KU := Lib.hid (K3.out.step kq)
          clear kq x0 x1 x2 x3
          go_wp2
          go_roundw
          case rel => exact ⟨i + 1, by omega, by go_num, KU⟩
          case measure => simp [intOf]; omega
        · obtain ⟨hr, hby⟩ := gotT_true HOK.out
          rw [HE.out] at hr hby
          have hbl := right_bytes hr
          have hln := hr.len
          have hln2 := hr.lens
          have RI := Lib.hid (fun F A c B d u (hu : Sv u F E A c B d) => lright_any F E A c B d u hu (by omega) (by omega))
          rw [decide_eq_true hr] at RI
          have BY := Lib.hid (fun F A c B d u (hu : Sv u F E A c B d) => lbytes_any F E A c B d _ u hu rfl (by omega))
          rw [hby] at BY
          clear HE HOK hr hby hbl hln hln2
          unfold stv at RD RI BY
          go_wp2_with fail
          refine RD.out.mono ?_
          rintro e w2 ⟨A, c, B, d, rfl, sv2, k2⟩
          have ka := Kept.alloc noBlock w2 (.cells #[.int .i64 E.index, .int .i64 E.term, .slice A E.pairs.length c, .slice B E.sess.length d] 33)
          have ha := heap_alloc_new w2 (.cells #[.int .i64 E.index, .int .i64 E.term, .slice A E.pairs.length c, .slice B E.sess.length d] 33)
          go_upto_region 10 with (fail)
          obtain ⟨T, hT⟩ : ∃ T, T = w2.heap.size := ⟨_, rfl⟩
          rw [← hT] at ha ⊢
          clear hT
          generalize w2.alloc (.cells #[.int .i64 E.index, .int .i64 E.term, .slice A E.pairs.length c, .slice B E.sess.length d] 33) = w3 at ka ha ⊢
          have K3 := Lib.hid (HKr.out.step (k2.step ka))
          have SV3 := Lib.hid (sv2.kept ka)
          have HL3 := Lib.hid (HL.out.keep (k2.step ka))
          obtain ⟨X, hX⟩ : ∃ X, X = str yl := ⟨_, rfl⟩
          rw [← hX] at BY
          have CV : Hid (∀ w', Kept noBlock w3 w' → (∀ c, (convert 37 9 (.slice ya yn c)).run Try.prog w' = .ok (.string X) w')) := fun w' kk => by
            rw [hX]
            have hl9 := HL3.out.keep kk
            exact fun c => run_str_lies (P := Try.prog) 37 9 5 Try.underlying37 Try.underlying5 Try.underlying9 hl9.lies hl9.len c
          have HSS : Hid (∀ w', Kept noBlock w3 w' → w'.cell? ⟨T, 0, none⟩ = some (.int .i64 E.index) ∧ w'.cell? ⟨T, 1, none⟩ = some (.int .i64 E.term) ∧ w'.cell? ⟨T, 2, none⟩ = some (.slice A E.pairs.length c) ∧ w'.cell? ⟨T, 3, none⟩ = some (.slice B E.sess.length d)) := fun w' k => st_cells (k.blk ha (fun h => h))
          clear sv2 k2 ka ha RD HL HL3 hX
          refine wp_region_noPanic ?_
          refine wp_region_held_drew (S := fun w' => (w'.cell? ⟨T, 0, none⟩ = some (.int .i64 E.index) ∧ w'.cell? ⟨T, 1, none⟩ = some (.int .i64 E.term) ∧ w'.cell? ⟨T, 2, none⟩ = some (.slice A E.pairs.length c) ∧ w'.cell? ⟨T, 3, none⟩ = some (.slice B E.sess.length d)) ∧ (∀ c, (convert 37 9 (.slice ya yn c)).run Try.prog w' = .ok (.string X) w')) (by kernel_rfl) ⟨HSS.out _ (Kept.drew _ _), CV.out _ (Kept.drew _ _)⟩ (fun hHeld => ?_)
          refine wpAnyH_take (i := 0) (oi := ⟨some 58, Op.move (Operand.tmp 14), 4, _, _, none⟩) (v := ?v0n22k1) rfl (by kernel_rfl) (by kernel_rfl) (by kernel_rfl) (fun _ _ _ h => h) (Or.inl ⟨by rfl, ?y0n22k1⟩) hHeld ?z0n22k1
          case y0n22k1 => intro w hSw; (try dsimp only at hSw); go_simp <;> rfl
          try simp only [Act.put, List.setIfInBounds_toArray, List.set_cons_zero, List.set_cons_succ]
          refine wpAnyH_take (i := 1) (oi := ⟨some 59, Op.move (Operand.tmp 58), 4, _, _, none⟩) (v := ?v1n22k2) rfl (by kernel_rfl) (by kernel_rfl) (by kernel_rfl) (fun _ _ _ h => h) (Or.inl ⟨by rfl, ?y1n22k2⟩) hHeld ?z1n22k2
          case y1n22k2 => intro w hSw; (try dsimp only at hSw); go_simp <;> rfl
          try simp only [Act.put, List.setIfInBounds_toArray, List.set_cons_zero, List.set_cons_succ]
          refine wpAnyH_take (i := 2) (oi := ⟨some 60, Op.load 33 (Operand.tmp 13), 33, _, _, some (1, true)⟩) (v := ?v2n22k3) rfl (by kernel_rfl) (by kernel_rfl) (by kernel_rfl) (fun _ _ _ h => h) (Or.inl ⟨by rfl, ?y2n22k3⟩) hHeld ?z2n22k3
          case y2n22k3 => intro w hSw; (try dsimp only at hSw); go_simp <;> rfl
          try simp only [Act.put, List.setIfInBounds_toArray, List.set_cons_zero, List.set_cons_succ]
          refine wpAnyH_ready (rs := [3]) (by kernel_rfl) (by simp) ?_
          refine AllReadyH.cons (o := ⟨some 61, Op.call { callee := Callee.value (Operand.func 26), args := #[Operand.tmp 60], argTypes := #[33] }, 4, _, _, some (1, true)⟩) rfl (fun K hK => ?_) AllReadyH.nil
          go_simp
          refine (RI.out _ A c B d _ (SV3.out.kept (Kept.drew _ _))).mono ?_
          rintro e w4 ⟨rfl, k4⟩
          have K4 := Lib.hid ((Kept.drew noBlock w3).step k4)
          clear k4
          dsimp only
          refine hK.out _ _ ⟨HSS.out _ K4.out, CV.out _ K4.out⟩ (fun hHeld => ?_)
          clear hK K
          try simp only [Act.put, List.setIfInBounds_toArray, List.set_cons_zero, List.set_cons_succ]
          refine wpAnyH_take (i := 4) (oi := ⟨some 62, Op.unOp UnOp.not 4 (Operand.tmp 61), 4, _, _, some (1, true)⟩) (v := ?v4n22k4) rfl (by kernel_rfl) (by kernel_rfl) (by kernel_rfl) (fun _ _ _ h => h) (Or.inl ⟨by rfl, ?y4n22k4⟩) hHeld ?z4n22k4
          case y4n22k4 => intro w hSw; (try dsimp only at hSw); go_simp <;> rfl
          try simp only [Act.put, List.setIfInBounds_toArray, List.set_cons_zero, List.set_cons_succ]
          refine wpAnyH_take (i := 5) (oi := ⟨some 63, Op.move (Operand.tmp 62), 4, _, _, some (1, true)⟩) (v := ?v5n22k5) rfl (by kernel_rfl) (by kernel_rfl) (by kernel_rfl) (fun _ _ _ h => h) (Or.inl ⟨by rfl, ?y5n22k5⟩) hHeld ?z5n22k5
          case y5n22k5 => intro w hSw; (try dsimp only at hSw); go_simp <;> rfl
          try simp only [Act.put, List.setIfInBounds_toArray, List.set_cons_zero, List.set_cons_succ]
          refine wpAnyH_take (i := 6) (oi := ⟨some 64, Op.load 33 (Operand.tmp 13), 33, _, _, some (5, false)⟩) (v := ?v6n22k6) rfl (by kernel_rfl) (by kernel_rfl) (by kernel_rfl) (fun _ _ _ h => h) (Or.inl ⟨by rfl, ?y6n22k6⟩) hHeld ?z6n22k6
          case y6n22k6 => intro w hSw; (try dsimp only at hSw); go_simp <;> rfl
          try simp only [Act.put, List.setIfInBounds_toArray, List.set_cons_zero, List.set_cons_succ]
          refine wpAnyH_take (i := 8) (oi := ⟨some 66, Op.move (Operand.tmp 12), 37, _, _, some (5, false)⟩) (v := ?v8n22k7) rfl (by kernel_rfl) (by kernel_rfl) (by kernel_rfl) (fun _ _ _ h => h) (Or.inl ⟨by rfl, ?y8n22k7⟩) hHeld ?z8n22k7
          case y8n22k7 => intro w hSw; (try dsimp only at hSw); go_simp <;> rfl
          try simp only [Act.put, List.setIfInBounds_toArray, List.set_cons_zero, List.set_cons_succ]
          refine wpAnyH_take (i := 9) (oi := ⟨some 67, Op.convert 37 9 (Operand.tmp 66), 9, _, _, some (5, false)⟩) (v := ?v9n22k8) rfl (by kernel_rfl) (by kernel_rfl) (by kernel_rfl) (fun _ _ _ h => h) (Or.inl ⟨by rfl, ?y9n22k8⟩) hHeld ?z9n22k8
          case y9n22k8 => intro w hSw; (try dsimp only at hSw); go_simp <;> rfl
          try simp only [Act.put, List.setIfInBounds_toArray, List.set_cons_zero, List.set_cons_succ]
          refine wpAnyH_ready (rs := [7]) (by kernel_rfl) (by simp) ?_
          refine AllReadyH.cons (o := ⟨some 65, Op.call { callee := Callee.value (Operand.func 25), args := #[Operand.tmp 64], argTypes := #[33] }, 9, _, _, some (5, false)⟩) rfl (fun K hK => ?_) AllReadyH.nil
          go_simp
          refine (BY.out _ A c B d _ (SV3.out.kept K4.out)).mono ?_
          rintro e w5 ⟨rfl, k5⟩
          have K5 := Lib.hid (K4.out.step k5)
          clear k5
          dsimp only
          refine hK.out _ _ ⟨HSS.out _ K5.out, CV.out _ K5.out⟩ (fun hHeld => ?_)
          clear hK K
          try simp only [Act.put, List.setIfInBounds_toArray, List.set_cons_zero, List.set_cons_succ]
          refine wpAnyH_take (i := 10) (oi := ⟨some 68, Op.binOp BinOp.neq 9 (Operand.tmp 65) (Operand.tmp 67) 9, 4, _, _, some (5, false)⟩) (v := ?v10n22k9) rfl (by kernel_rfl) (by kernel_rfl) (by kernel_rfl) (fun _ _ _ h => h) (Or.inl ⟨by rfl, ?y10n22k9⟩) hHeld ?z10n22k9
          case y10n22k9 => intro w hSw; (try dsimp only at hSw); go_simp <;> rfl
          try simp only [Act.put, List.setIfInBounds_toArray, List.set_cons_zero, List.set_cons_succ]
          refine wpAnyH_take (i := 11) (oi := ⟨some 69, Op.pick (Operand.tmp 63) (Operand.const (Value.bool true)) (Operand.tmp 68), 4, _, _, some (1, true)⟩) (v := ?v11n22k10) rfl (by kernel_rfl) (by kernel_rfl) (by kernel_rfl) (fun _ _ _ h => h) (Or.inl ⟨by rfl, ?y11n22k10⟩) hHeld ?z11n22k10
          case y11n22k10 => intro w hSw; (try dsimp only at hSw); go_simp <;> rfl
          try simp only [Act.put, List.setIfInBounds_toArray, List.set_cons_zero, List.set_cons_succ]
          refine wpAnyH_take (i := 12) (oi := ⟨some 70, Op.pick (Operand.tmp 59) (Operand.tmp 69) (Operand.const (Value.bool false)), 4, _, _, none⟩) (v := ?v12n22k11) rfl (by kernel_rfl) (by kernel_rfl) (by kernel_rfl) (fun _ _ _ h => h) (Or.inl ⟨by rfl, ?y12n22k11⟩) hHeld ?z12n22k11
          case y12n22k11 => intro w hSw; (try dsimp only at hSw); go_simp <;> rfl
          try simp only [Act.put, List.setIfInBounds_toArray, List.set_cons_zero, List.set_cons_succ]
          refine wpAnyH_take (i := 13) (oi := ⟨some 71, Op.move (Operand.tmp 70), 4, _, _, none⟩) (v := ?v13n22k12) rfl (by kernel_rfl) (by kernel_rfl) (by kernel_rfl) (fun _ _ _ h => h) (Or.inl ⟨by rfl, ?y13n22k12⟩) hHeld ?z13n22k12
          case y13n22k12 => intro w hSw; (try dsimp only at hSw); go_simp <;> rfl
          try simp only [Act.put, List.setIfInBounds_toArray, List.set_cons_zero, List.set_cons_succ]
          refine wpAnyH_take (i := 14) (oi := ⟨some 72, Op.move (Operand.tmp 14), 4, _, _, some (13, false)⟩) (v := ?v14n22k13) rfl (by kernel_rfl) (by kernel_rfl) (by kernel_rfl) (fun _ _ _ h => h) (Or.inl ⟨by rfl, ?y14n22k13⟩) hHeld ?z14n22k13
          case y14n22k13 => intro w hSw; (try dsimp only at hSw); go_simp <;> rfl
          try simp only [Act.put, List.setIfInBounds_toArray, List.set_cons_zero, List.set_cons_succ]
          refine wpAnyH_take (i := 15) (oi := ⟨some 73, Op.unOp UnOp.not 4 (Operand.tmp 72), 4, _, _, some (13, false)⟩) (v := ?v15n22k14) rfl (by kernel_rfl) (by kernel_rfl) (by kernel_rfl) (fun _ _ _ h => h) (Or.inl ⟨by rfl, ?y15n22k14⟩) hHeld ?z15n22k14
          case y15n22k14 => intro w hSw; (try dsimp only at hSw); go_simp <;> rfl
          try simp only [Act.put, List.setIfInBounds_toArray, List.set_cons_zero, List.set_cons_succ]
          refine wpAnyH_take (i := 16) (oi := ⟨some 74, Op.move (Operand.tmp 73), 4, _, _, some (13, false)⟩) (v := ?v16n22k15) rfl (by kernel_rfl) (by kernel_rfl) (by kernel_rfl) (fun _ _ _ h => h) (Or.inl ⟨by rfl, ?y16n22k15⟩) hHeld ?z16n22k15
          case y16n22k15 => intro w hSw; (try dsimp only at hSw); go_simp <;> rfl
          try simp only [Act.put, List.setIfInBounds_toArray, List.set_cons_zero, List.set_cons_succ]
          refine wpAnyH_take (i := 17) (oi := ⟨some 75, Op.fieldAddr 33 (Operand.tmp 13) 0, 0, _, _, some (16, true)⟩) (v := undef) rfl (by kernel_rfl) (by kernel_rfl) (by kernel_rfl) (fun _ _ _ h => h) (Or.inr ⟨by rfl, rfl⟩) hHeld ?z17n22k16
          try simp only [Act.put, List.setIfInBounds_toArray, List.set_cons_zero, List.set_cons_succ]
          refine wpAnyH_take (i := 18) (oi := ⟨some 76, Op.load 3 (Operand.tmp 75), 3, _, _, some (16, true)⟩) (v := undef) rfl (by kernel_rfl) (by kernel_rfl) (by kernel_rfl) (fun _ _ _ h => h) (Or.inr ⟨by rfl, rfl⟩) hHeld ?z18n22k17
          try simp only [Act.put, List.setIfInBounds_toArray, List.set_cons_zero, List.set_cons_succ]
          refine wpAnyH_take (i := 19) (oi := ⟨some 77, Op.binOp BinOp.neq 3 (Operand.tmp 76) (Operand.const (Value.int IntKind.i64 0)) 3, 4, _, _, some (16, true)⟩) (v := undef) rfl (by kernel_rfl) (by kernel_rfl) (by kernel_rfl) (fun _ _ _ h => h) (Or.inr ⟨by rfl, rfl⟩) hHeld ?z19n22k18
          try simp only [Act.put, List.setIfInBounds_toArray, List.set_cons_zero, List.set_cons_succ]
          refine wpAnyH_take (i := 20) (oi := ⟨some 78, Op.move (Operand.tmp 77), 4, _, _, some (16, true)⟩) (v := undef) rfl (by kernel_rfl) (by kernel_rfl) (by kernel_rfl) (fun _ _ _ h => h) (Or.inr ⟨by rfl, rfl⟩) hHeld ?z20n22k19
          try simp only [Act.put, List.setIfInBounds_toArray, List.set_cons_zero, List.set_cons_succ]
          refine wpAnyH_take (i := 21) (oi := ⟨some 79, Op.fieldAddr 33 (Operand.tmp 13) 2, 0, _, _, some (20, false)⟩) (v := undef) rfl (by kernel_rfl) (by kernel_rfl) (by kernel_rfl) (fun _ _ _ h => h) (Or.inr ⟨by rfl, rfl⟩) hHeld ?z21n22k20
          try simp only [Act.put, List.setIfInBounds_toArray, List.set_cons_zero, List.set_cons_succ]
          refine wpAnyH_take (i := 22) (oi := ⟨some 80, Op.load 30 (Operand.tmp 79), 30, _, _, some (20, false)⟩) (v := undef) rfl (by kernel_rfl) (by kernel_rfl) (by kernel_rfl) (fun _ _ _ h => h) (Or.inr ⟨by rfl, rfl⟩) hHeld ?z22n22k21
          try simp only [Act.put, List.setIfInBounds_toArray, List.set_cons_zero, List.set_cons_succ]
          refine wpAnyH_take (i := 23) (oi := ⟨some 81, Op.call { callee := Callee.builtin Builtin.len, args := #[Operand.tmp 80], argTypes := #[30] }, 3, _, _, some (20, false)⟩) (v := undef) rfl (by kernel_rfl) (by kernel_rfl) (by kernel_rfl) (fun _ _ _ h => h) (Or.inr ⟨by rfl, rfl⟩) hHeld ?z23n22k22
          try simp only [Act.put, List.setIfInBounds_toArray, List.set_cons_zero, List.set_cons_succ]
          refine wpAnyH_take (i := 24) (oi := ⟨some 82, Op.binOp BinOp.neq 3 (Operand.tmp 81) (Operand.const (Value.int IntKind.i64 0)) 3, 4, _, _, some (20, false)⟩) (v := undef) rfl (by kernel_rfl) (by kernel_rfl) (by kernel_rfl) (fun _ _ _ h => h) (Or.inr ⟨by rfl, rfl⟩) hHeld ?z24n22k23
          try simp only [Act.put, List.setIfInBounds_toArray, List.set_cons_zero, List.set_cons_succ]
          refine wpAnyH_take (i := 25) (oi := ⟨some 83, Op.pick (Operand.tmp 78) (Operand.const (Value.bool true)) (Operand.tmp 82), 4, _, _, some (16, true)⟩) (v := undef) rfl (by kernel_rfl) (by kernel_rfl) (by kernel_rfl) (fun _ _ _ h => h) (Or.inr ⟨by rfl, rfl⟩) hHeld ?z25n22k24
          try simp only [Act.put, List.setIfInBounds_toArray, List.set_cons_zero, List.set_cons_succ]
          refine wpAnyH_take (i := 26) (oi := ⟨some 84, Op.move (Operand.tmp 83), 4, _, _, some (16, true)⟩) (v := undef) rfl (by kernel_rfl) (by kernel_rfl) (by kernel_rfl) (fun _ _ _ h => h) (Or.inr ⟨by rfl, rfl⟩) hHeld ?z26n22k25
          try simp only [Act.put, List.setIfInBounds_toArray, List.set_cons_zero, List.set_cons_succ]
          refine wpAnyH_take (i := 27) (oi := ⟨some 85, Op.fieldAddr 33 (Operand.tmp 13) 3, 0, _, _, some (26, false)⟩) (v := undef) rfl (by kernel_rfl) (by kernel_rfl) (by kernel_rfl) (fun _ _ _ h => h) (Or.inr ⟨by rfl, rfl⟩) hHeld ?z27n22k26
          try simp only [Act.put, List.setIfInBounds_toArray, List.set_cons_zero, List.set_cons_succ]
          refine wpAnyH_take (i := 28) (oi := ⟨some 86, Op.load 31 (Operand.tmp 85), 31, _, _, some (26, false)⟩) (v := undef) rfl (by kernel_rfl) (by kernel_rfl) (by kernel_rfl) (fun _ _ _ h => h) (Or.inr ⟨by rfl, rfl⟩) hHeld ?z28n22k27
          try simp only [Act.put, List.setIfInBounds_toArray, List.set_cons_zero, List.set_cons_succ]
          refine wpAnyH_take (i := 29) (oi := ⟨some 87, Op.call { callee := Callee.builtin Builtin.len, args := #[Operand.tmp 86], argTypes := #[31] }, 3, _, _, some (26, false)⟩) (v := undef) rfl (by kernel_rfl) (by kernel_rfl) (by kernel_rfl) (fun _ _ _ h => h) (Or.inr ⟨by rfl, rfl⟩) hHeld ?z29n22k28
          try simp only [Act.put, List.setIfInBounds_toArray, List.set_cons_zero, List.set_cons_succ]
          refine wpAnyH_take (i := 30) (oi := ⟨some 88, Op.binOp BinOp.neq 3 (Operand.tmp 87) (Operand.const (Value.int IntKind.i64 0)) 3, 4, _, _, some (26, false)⟩) (v := undef) rfl (by kernel_rfl) (by kernel_rfl) (by kernel_rfl) (fun _ _ _ h => h) (Or.inr ⟨by rfl, rfl⟩) hHeld ?z30n22k29
          try simp only [Act.put, List.setIfInBounds_toArray, List.set_cons_zero, List.set_cons_succ]
          refine wpAnyH_take (i := 31) (oi := ⟨some 89, Op.pick (Operand.tmp 84) (Operand.const (Value.bool true)) (Operand.tmp 88), 4, _, _, some (16, true)⟩) (v := undef) rfl (by kernel_rfl) (by kernel_rfl) (by kernel_rfl) (fun _ _ _ h => h) (Or.inr ⟨by rfl, rfl⟩) hHeld ?z31n22k30
          try simp only [Act.put, List.setIfInBounds_toArray, List.set_cons_zero, List.set_cons_succ]
          refine wpAnyH_take (i := 32) (oi := ⟨some 90, Op.pick (Operand.tmp 74) (Operand.tmp 89) (Operand.const (Value.bool false)), 4, _, _, some (13, false)⟩) (v := ?v32n22k31) rfl (by kernel_rfl) (by kernel_rfl) (by kernel_rfl) (fun _ _ _ h => h) (Or.inl ⟨by rfl, ?y32n22k31⟩) hHeld ?z32n22k31
          case y32n22k31 => intro w hSw; (try dsimp only at hSw); go_simp <;> rfl
          try simp only [Act.put, List.setIfInBounds_toArray, List.set_cons_zero, List.set_cons_succ]
          refine wpAnyH_take (i := 33) (oi := ⟨some 91, Op.pick (Operand.tmp 71) (Operand.const (Value.bool true)) (Operand.tmp 90), 4, _, _, none⟩) (v := ?v33n22k32) rfl (by kernel_rfl) (by kernel_rfl) (by kernel_rfl) (fun _ _ _ h => h) (Or.inl ⟨by rfl, ?y33n22k32⟩) hHeld ?z33n22k32
          case y33n22k32 => intro w hSw; (try dsimp only at hSw); go_simp <;> rfl
          try simp only [Act.put, List.setIfInBounds_toArray, List.set_cons_zero, List.set_cons_succ]
          refine wpAnyH_done (by kernel_rfl) ?_ _
          refine NoPanic.normal ?_
          go_wp2
          go_roundw
          case rel => exact ⟨i + 1, by omega, by go_num, Lib.hid (K3.out.step K5.out)⟩
          case measure => simp [intOf]; omega
      · obtain rfl : i = 4 := by omega
        go_wp2
        go_ret
        exact ⟨rfl, HK.out.step HKr.out⟩
end Go.Proofs.Ytgmjnjbmolalmaa
