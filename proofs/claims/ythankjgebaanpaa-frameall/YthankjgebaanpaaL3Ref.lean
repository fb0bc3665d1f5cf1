/-
  What the statements of layer 3 say in their own words, second part: what bytes begin with. No statement is proved here.
-/
import Derived.Test.YthankjgebaanpaaL3Awake
namespace Go.Proofs.Ythankjgebaanpaa
open Go.RowKit

theorem wrd_four (l : List UInt8) (x0 x1 x2 x3 : UInt8) (h0 : l[0]? = some x0) (h1 : l[1]? = some x1) (h2 : l[2]? = some x2) (h3 : l[3]? = some x3) : wrd (l.take 4) = ((x0.toNat * 256 + x1.toNat) * 256 + x2.toNat) * 256 + x3.toNat := by
  rw [take_snoc l 3 x3 h3, take_snoc l 2 x2 h2, take_snoc l 1 x1 h1, take_snoc l 0 x0 h0]
  simp [wrd]

set_option maxRecDepth 100000 in
set_option maxHeartbeats 2000000 in
theorem lone_any (F : Nat → Prop) (a : Option Addr) (n c : Nat) (l : List UInt8) (w : World) (h : Lies w F a (l.map bv)) (hl : l.length = n) (hn : n ≤ 200000000000000) (hc : n ≤ c) :
    Calls Try.prog 15 #[.slice a n c] w fun e w' => ∃ A c', e = .returned (.tuple #[.slice A (rd l).1.length c', .int .i64 ((rd l).2.1 : Nat), .int .i64 ((rd l).2.2 : Nat)]) ∧
      Lies w' F A ((rd l).1.map bv) ∧ Kept noBlock w w' := by
  have HL := Lib.hid hl; clear hl
  go_enter Try.func15, Try.ntmps15
  by_cases h8 : n < 8
  · go_wp2
    go_ret3
    have e := rd_short (b := l) (by rw [HL.out]; exact h8)
    rw [e]
    exact ⟨none, 0, rfl, Lies.nil _ _ _, Kept.refl _ _⟩
  · obtain ⟨b, o, rfl, hF, hcell⟩ := h.norm (by intro e; have := congrArg List.length e; rw [List.length_map, HL.out] at this; simp at this; omega)
    obtain ⟨x0, hx0⟩ : ∃ x, l[0]? = some x := ⟨_, List.getElem?_eq_getElem (by rw [HL.out]; omega)⟩
    obtain ⟨x1, hx1⟩ : ∃ x, l[1]? = some x := ⟨_, List.getElem?_eq_getElem (by rw [HL.out]; omega)⟩
    obtain ⟨x2, hx2⟩ : ∃ x, l[2]? = some x := ⟨_, List.getElem?_eq_getElem (by rw [HL.out]; omega)⟩
    obtain ⟨x3, hx3⟩ : ∃ x, l[3]? = some x := ⟨_, List.getElem?_eq_getElem (by rw [HL.out]; omega)⟩
    have kd := Kept.drew noBlock w
    have g0 : w.drew.cell? ⟨b, o, none⟩ = some (.int .u8 (x0.toNat : Int)) := kd.cell (hcell 0 (bv x0) (by simp [hx0])) (fun h => h)
    have g1 : w.drew.cell? ⟨b, o + 1, none⟩ = some (.int .u8 (x1.toNat : Int)) := kd.cell (hcell 1 (bv x1) (by simp [hx1])) (fun h => h)
    have g2 : w.drew.cell? ⟨b, o + 2, none⟩ = some (.int .u8 (x2.toNat : Int)) := kd.cell (hcell 2 (bv x2) (by simp [hx2])) (fun h => h)
    have g3 : w.drew.cell? ⟨b, o + 3, none⟩ = some (.int .u8 (x3.toNat : Int)) := kd.cell (hcell 3 (bv x3) (by simp [hx3])) (fun h => h)
    clear hcell
    have HW := Lib.hid (wrd_four l x0 x1 x2 x3 hx0 hx1 hx2 hx3)
    clear hx0 hx1 hx2 hx3
    have i0 : 0 < n := by omega
    have i1 : (0 : Int) < n := by omega
    have i2 : (1 : Int) < n := by omega
    have i3 : (2 : Int) < n := by omega
    have i4 : (3 : Int) < n := by omega
    have b0 := x0.toNat_lt
    have b1 := x1.toNat_lt
    have b2 := x2.toNat_lt
    have b3 := x3.toNat_lt
    go_wp2_with fail
    refine wp_region_noPanic ?_
    refine wp_region_held_drew (S := fun w' => w'.cell? ⟨b, o, none⟩ = some (.int .u8 (x0.toNat : Int)) ∧ w'.cell? ⟨b, o + 1, none⟩ = some (.int .u8 (x1.toNat : Int)) ∧ w'.cell? ⟨b, o + 2, none⟩ = some (.int .u8 (x2.toNat : Int)) ∧ w'.cell? ⟨b, o + 3, none⟩ = some (.int .u8 (x3.toNat : Int))) (by kernel_rfl) ⟨g0, g1, g2, g3⟩ (fun hHeld => ?_)
    refine wpAnyH_take (i := 0) (oi := ⟨some 9, Op.move (Operand.tmp 0), 22, _, _, none⟩) (v := ?v0n2k1) rfl (by kernel_rfl) (by kernel_rfl) (by kernel_rfl) (fun _ _ _ h => h) (Or.inl ⟨by rfl, ?y0n2k1⟩) hHeld ?z0n2k1
    case y0n2k1 => intro w hSw; (try dsimp only at hSw); go_simp <;> rfl
    try simp only [Act.put, List.setIfInBounds_toArray, List.set_cons_zero, List.set_cons_succ]
    refine wpAnyH_take (i := 1) (oi := ⟨some 10, Op.indexAddr 22 (Operand.tmp 9) (Operand.const (Value.int IntKind.i64 0)), 0, _, _, none⟩) (v := ?v1n2k2) rfl (by kernel_rfl) (by kernel_rfl) (by kernel_rfl) (fun _ _ _ h => h) (Or.inl ⟨by rfl, ?y1n2k2⟩) hHeld ?z1n2k2
    case y1n2k2 => intro w hSw; (try dsimp only at hSw); go_simp <;> rfl
    try simp only [Act.put, List.setIfInBounds_toArray, List.set_cons_zero, List.set_cons_succ]
    refine wpAnyH_take (i := 2) (oi := ⟨some 11, Op.load 5 (Operand.tmp 10), 5, _, _, none⟩) (v := ?v2n2k3) rfl (by kernel_rfl) (by kernel_rfl) (by kernel_rfl) (fun _ _ _ h => h) (Or.inl ⟨by rfl, ?y2n2k3⟩) hHeld ?z2n2k3
    case y2n2k3 => intro w hSw; (try dsimp only at hSw); go_simp <;> rfl
    try simp only [Act.put, List.setIfInBounds_toArray, List.set_cons_zero, List.set_cons_succ]
    refine wpAnyH_take (i := 3) (oi := ⟨some 12, Op.convert 5 3 (Operand.tmp 11), 3, _, _, none⟩) (v := ?v3n2k4) rfl (by kernel_rfl) (by kernel_rfl) (by kernel_rfl) (fun _ _ _ h => h) (Or.inl ⟨by rfl, ?y3n2k4⟩) hHeld ?z3n2k4
    case y3n2k4 => intro w hSw; (try dsimp only at hSw); go_simp <;> rfl
    try simp only [Act.put, List.setIfInBounds_toArray, List.set_cons_zero, List.set_cons_succ]
    refine wpAnyH_take (i := 4) (oi := ⟨some 13, Op.binOp BinOp.shl 3 (Operand.tmp 12) (Operand.const (Value.int IntKind.u64 24)) 50, 3, _, _, none⟩) (v := ?v4n2k5) rfl (by kernel_rfl) (by kernel_rfl) (by kernel_rfl) (fun _ _ _ h => h) (Or.inl ⟨by rfl, ?y4n2k5⟩) hHeld ?z4n2k5
    case y4n2k5 => intro w hSw; (try dsimp only at hSw); go_simp <;> rfl
    try simp only [Act.put, List.setIfInBounds_toArray, List.set_cons_zero, List.set_cons_succ]
    refine wpAnyH_take (i := 5) (oi := ⟨some 14, Op.move (Operand.tmp 0), 22, _, _, none⟩) (v := ?v5n2k6) rfl (by kernel_rfl) (by kernel_rfl) (by kernel_rfl) (fun _ _ _ h => h) (Or.inl ⟨by rfl, ?y5n2k6⟩) hHeld ?z5n2k6
    case y5n2k6 => intro w hSw; (try dsimp only at hSw); go_simp <;> rfl
    try simp only [Act.put, List.setIfInBounds_toArray, List.set_cons_zero, List.set_cons_succ]
    refine wpAnyH_take (i := 6) (oi := ⟨some 15, Op.indexAddr 22 (Operand.tmp 14) (Operand.const (Value.int IntKind.i64 1)), 0, _, _, none⟩) (v := ?v6n2k7) rfl (by kernel_rfl) (by kernel_rfl) (by kernel_rfl) (fun _ _ _ h => h) (Or.inl ⟨by rfl, ?y6n2k7⟩) hHeld ?z6n2k7
    case y6n2k7 => intro w hSw; (try dsimp only at hSw); go_simp <;> rfl
    try simp only [Act.put, List.setIfInBounds_toArray, List.set_cons_zero, List.set_cons_succ]
    refine wpAnyH_take (i := 7) (oi := ⟨some 16, Op.load 5 (Operand.tmp 15), 5, _, _, none⟩) (v := ?v7n2k8) rfl (by kernel_rfl) (by kernel_rfl) (by kernel_rfl) (fun _ _ _ h => h) (Or.inl ⟨by rfl, ?y7n2k8⟩) hHeld ?z7n2k8
    case y7n2k8 => intro w hSw; (try dsimp only at hSw); go_simp <;> rfl
    try simp only [Act.put, List.setIfInBounds_toArray, List.set_cons_zero, List.set_cons_succ]
    refine wpAnyH_take (i := 8) (oi := ⟨some 17, Op.convert 5 3 (Operand.tmp 16), 3, _, _, none⟩) (v := ?v8n2k9) rfl (by kernel_rfl) (by kernel_rfl) (by kernel_rfl) (fun _ _ _ h => h) (Or.inl ⟨by rfl, ?y8n2k9⟩) hHeld ?z8n2k9
    case y8n2k9 => intro w hSw; (try dsimp only at hSw); go_simp <;> rfl
    try simp only [Act.put, List.setIfInBounds_toArray, List.set_cons_zero, List.set_cons_succ]
    refine wpAnyH_take (i := 9) (oi := ⟨some 18, Op.binOp BinOp.shl 3 (Operand.tmp 17) (Operand.const (Value.int IntKind.u64 16)) 50, 3, _, _, none⟩) (v := ?v9n2k10) rfl (by kernel_rfl) (by kernel_rfl) (by kernel_rfl) (fun _ _ _ h => h) (Or.inl ⟨by rfl, ?y9n2k10⟩) hHeld ?z9n2k10
    case y9n2k10 => intro w hSw; (try dsimp only at hSw); go_simp <;> rfl
    try simp only [Act.put, List.setIfInBounds_toArray, List.set_cons_zero, List.set_cons_succ]
    refine wpAnyH_take (i := 10) (oi := ⟨some 19, Op.binOp BinOp.add 3 (Operand.tmp 13) (Operand.tmp 18) 3, 3, _, _, none⟩) (v := ?v10n2k11) rfl (by kernel_rfl) (by kernel_rfl) (by kernel_rfl) (fun _ _ _ h => h) (Or.inl ⟨by rfl, ?y10n2k11⟩) hHeld ?z10n2k11
    case y10n2k11 => intro w hSw; (try dsimp only at hSw); go_simp <;> rfl
    try simp only [Act.put, List.setIfInBounds_toArray, List.set_cons_zero, List.set_cons_succ]
    refine wpAnyH_take (i := 11) (oi := ⟨some 20, Op.move (Operand.tmp 0), 22, _, _, none⟩) (v := ?v11n2k12) rfl (by kernel_rfl) (by kernel_rfl) (by kernel_rfl) (fun _ _ _ h => h) (Or.inl ⟨by rfl, ?y11n2k12⟩) hHeld ?z11n2k12
    case y11n2k12 => intro w hSw; (try dsimp only at hSw); go_simp <;> rfl
    try simp only [Act.put, List.setIfInBounds_toArray, List.set_cons_zero, List.set_cons_succ]
    refine wpAnyH_take (i := 12) (oi := ⟨some 21, Op.indexAddr 22 (Operand.tmp 20) (Operand.const (Value.int IntKind.i64 2)), 0, _, _, none⟩) (v := ?v12n2k13) rfl (by kernel_rfl) (by kernel_rfl) (by kernel_rfl) (fun _ _ _ h => h) (Or.inl ⟨by rfl, ?y12n2k13⟩) hHeld ?z12n2k13
    case y12n2k13 => intro w hSw; (try dsimp only at hSw); go_simp <;> rfl
    try simp only [Act.put, List.setIfInBounds_toArray, List.set_cons_zero, List.set_cons_succ]
    refine wpAnyH_take (i := 13) (oi := ⟨some 22, Op.load 5 (Operand.tmp 21), 5, _, _, none⟩) (v := ?v13n2k14) rfl (by kernel_rfl) (by kernel_rfl) (by kernel_rfl) (fun _ _ _ h => h) (Or.inl ⟨by rfl, ?y13n2k14⟩) hHeld ?z13n2k14
    case y13n2k14 => intro w hSw; (try dsimp only at hSw); go_simp <;> rfl
    try simp only [Act.put, List.setIfInBounds_toArray, List.set_cons_zero, List.set_cons_succ]
    refine wpAnyH_take (i := 14) (oi := ⟨some 23, Op.convert 5 3 (Operand.tmp 22), 3, _, _, none⟩) (v := ?v14n2k15) rfl (by kernel_rfl) (by kernel_rfl) (by kernel_rfl) (fun _ _ _ h => h) (Or.inl ⟨by rfl, ?y14n2k15⟩) hHeld ?z14n2k15
    case y14n2k15 => intro w hSw; (try dsimp only at hSw); go_simp <;> rfl
    try simp only [Act.put, List.setIfInBounds_toArray, List.set_cons_zero, List.set_cons_succ]
    refine wpAnyH_take (i := 15) (oi := ⟨some 24, Op.binOp BinOp.shl 3 (Operand.tmp 23) (Operand.const (Value.int IntKind.u64 8)) 50, 3, _, _, none⟩) (v := ?v15n2k16) rfl (by kernel_rfl) (by kernel_rfl) (by kernel_rfl) (fun _ _ _ h => h) (Or.inl ⟨by rfl, ?y15n2k16⟩) hHeld ?z15n2k16
    case y15n2k16 => intro w hSw; (try dsimp only at hSw); go_simp <;> rfl
    try simp only [Act.put, List.setIfInBounds_toArray, List.set_cons_zero, List.set_cons_succ]
    refine wpAnyH_take (i := 16) (oi := ⟨some 25, Op.binOp BinOp.add 3 (Operand.tmp 19) (Operand.tmp 24) 3, 3, _, _, none⟩) (v := ?v16n2k17) rfl (by kernel_rfl) (by kernel_rfl) (by kernel_rfl) (fun _ _ _ h => h) (Or.inl ⟨by rfl, ?y16n2k17⟩) hHeld ?z16n2k17
    case y16n2k17 => intro w hSw; (try dsimp only at hSw); go_simp <;> rfl
    try simp only [Act.put, List.setIfInBounds_toArray, List.set_cons_zero, List.set_cons_succ]
    refine wpAnyH_take (i := 17) (oi := ⟨some 26, Op.move (Operand.tmp 0), 22, _, _, none⟩) (v := ?v17n2k18) rfl (by kernel_rfl) (by kernel_rfl) (by kernel_rfl) (fun _ _ _ h => h) (Or.inl ⟨by rfl, ?y17n2k18⟩) hHeld ?z17n2k18
    case y17n2k18 => intro w hSw; (try dsimp only at hSw); go_simp <;> rfl
    try simp only [Act.put, List.setIfInBounds_toArray, List.set_cons_zero, List.set_cons_succ]
    refine wpAnyH_take (i := 18) (oi := ⟨some 27, Op.indexAddr 22 (Operand.tmp 26) (Operand.const (Value.int IntKind.i64 3)), 0, _, _, none⟩) (v := ?v18n2k19) rfl (by kernel_rfl) (by kernel_rfl) (by kernel_rfl) (fun _ _ _ h => h) (Or.inl ⟨by rfl, ?y18n2k19⟩) hHeld ?z18n2k19
    case y18n2k19 => intro w hSw; (try dsimp only at hSw); go_simp <;> rfl
    try simp only [Act.put, List.setIfInBounds_toArray, List.set_cons_zero, List.set_cons_succ]
    refine wpAnyH_take (i := 19) (oi := ⟨some 28, Op.load 5 (Operand.tmp 27), 5, _, _, none⟩) (v := ?v19n2k20) rfl (by kernel_rfl) (by kernel_rfl) (by kernel_rfl) (fun _ _ _ h => h) (Or.inl ⟨by rfl, ?y19n2k20⟩) hHeld ?z19n2k20
    case y19n2k20 => intro w hSw; (try dsimp only at hSw); go_simp <;> rfl
    try simp only [Act.put, List.setIfInBounds_toArray, List.set_cons_zero, List.set_cons_succ]
    refine wpAnyH_take (i := 20) (oi := ⟨some 29, Op.convert 5 3 (Operand.tmp 28), 3, _, _, none⟩) (v := ?v20n2k21) rfl (by kernel_rfl) (by kernel_rfl) (by kernel_rfl) (fun _ _ _ h => h) (Or.inl ⟨by rfl, ?y20n2k21⟩) hHeld ?z20n2k21
    case y20n2k21 => intro w hSw; (try dsimp only at hSw); go_simp <;> rfl
    try simp only [Act.put, List.setIfInBounds_toArray, List.set_cons_zero, List.set_cons_succ]
    refine wpAnyH_take (i := 21) (oi := ⟨some 30, Op.binOp BinOp.add 3 (Operand.tmp 25) (Operand.tmp 29) 3, 3, _, _, none⟩) (v := ?v21n2k22) rfl (by kernel_rfl) (by kernel_rfl) (by kernel_rfl) (fun _ _ _ h => h) (Or.inl ⟨by rfl, ?y21n2k22⟩) hHeld ?z21n2k22
    case y21n2k22 => intro w hSw; (try dsimp only at hSw); go_simp <;> rfl
    try simp only [Act.put, List.setIfInBounds_toArray, List.set_cons_zero, List.set_cons_succ]
    refine wpAnyH_take (i := 22) (oi := ⟨some 5, Op.assign (Operand.tmp 30), 3, _, _, none⟩) (v := ?v22n2k23) rfl (by kernel_rfl) (by kernel_rfl) (by kernel_rfl) (fun _ _ _ h => h) (Or.inl ⟨by rfl, ?y22n2k23⟩) hHeld ?z22n2k23
    case y22n2k23 => intro w hSw; (try dsimp only at hSw); go_simp <;> rfl
    try simp only [Act.put, List.setIfInBounds_toArray, List.set_cons_zero, List.set_cons_succ]
    refine wpAnyH_done (by kernel_rfl) ?_ _
    refine NoPanic.normal ?_
    have e0 : IntKind.i64.wrap (x0.toNat : Int) = (x0.toNat : Int) := by rw [IntWalk.i64_in _ (by omega)]
    have e1 : IntKind.i64.wrap (x1.toNat : Int) = (x1.toNat : Int) := by rw [IntWalk.i64_in _ (by omega)]
    have e2 : IntKind.i64.wrap (x2.toNat : Int) = (x2.toNat : Int) := by rw [IntWalk.i64_in _ (by omega)]
    have e3 : IntKind.i64.wrap (x3.toNat : Int) = (x3.toNat : Int) := by rw [IntWalk.i64_in _ (by omega)]
    have f0 : IntKind.i64.wrap ((x0.toNat : Int) * 16777216) = (x0.toNat : Int) * 16777216 := by rw [IntWalk.i64_in _ (by omega)]
    have f1 : IntKind.i64.wrap ((x1.toNat : Int) * 65536) = (x1.toNat : Int) * 65536 := by rw [IntWalk.i64_in _ (by omega)]
    have f2 : IntKind.i64.wrap ((x2.toNat : Int) * 256) = (x2.toNat : Int) * 256 := by rw [IntWalk.i64_in _ (by omega)]
    have s1 : IntKind.i64.wrap ((x0.toNat : Int) * 16777216 + (x1.toNat : Int) * 65536) = (x0.toNat : Int) * 16777216 + (x1.toNat : Int) * 65536 := by rw [IntWalk.i64_in _ (by omega)]
    have s2 : IntKind.i64.wrap ((x0.toNat : Int) * 16777216 + (x1.toNat : Int) * 65536 + (x2.toNat : Int) * 256) = (x0.toNat : Int) * 16777216 + (x1.toNat : Int) * 65536 + (x2.toNat : Int) * 256 := by rw [IntWalk.i64_in _ (by omega)]
    obtain ⟨z, hz⟩ : ∃ z, z = wrd (l.take 4) := ⟨_, rfl⟩
    have s3 : IntKind.i64.wrap ((x0.toNat : Int) * 16777216 + (x1.toNat : Int) * 65536 + (x2.toNat : Int) * 256 + (x3.toNat : Int)) = (z : Int) := by
      rw [IntWalk.i64_in _ (by omega), hz, HW.out]
      omega
    have hz32 : z < 4294967296 := by rw [hz]; exact wrd_lt (by rw [List.length_take, HL.out]; omega)
    simp only [e0, e1, e2, e3, f0, f1, f2, s1, s2, s3]
    have h0 := h.keep kd (fun _ _ h => h)
    clear e0 e1 e2 e3 f0 f1 f2 s1 s2 s3 g0 g1 g2 g3 HW hHeld h b0 b1 b2 b3 i0 i1 i2 i3 i4
    generalize w.drew = w2 at h0 kd ⊢
    have HZ := Lib.hid hz; clear hz
    have n8 : ¬ l.length < 8 := by rw [HL.out]; exact h8
    by_cases hg : 16384 < z
    · go_wp2
      go_ret3
      rw [rd_great n8 (by rw [← HZ.out]; exact hg)]
      exact ⟨none, 0, rfl, Lies.nil _ _ _, kd⟩
    · have ng : ¬ 16384 < wrd (l.take 4) := by rw [← HZ.out]; exact hg
      obtain ⟨m, hm⟩ : ∃ m, m = z + 8 := ⟨_, rfl⟩
      obtain ⟨q, hq⟩ : ∃ q, q = z + 9 := ⟨_, rfl⟩
      have em : (z : Int) + 8 = (m : Int) := by omega
      have eq : (z : Int) + 9 = (q : Int) := by omega
      have hm2 : m - 8 ≤ 16384 := by omega
      have hm8 : 8 ≤ m := by omega
      have hqb : q ≤ 16393 := by omega
      by_cases ht : n < q
      · have ht2 : n ≤ z + 8 := by omega
        have HM := Lib.hid hm; clear hm
        have HQ := Lib.hid hq; clear hq
        go_wp2
        go_ret3
        rw [rd_torn n8 ng (by rw [← HZ.out, HL.out]; exact ht2)]
        exact ⟨none, 0, rfl, Lies.nil _ _ _, kd⟩
      · have nt : ¬ l.length ≤ wrd (l.take 4) + 8 := by rw [← HZ.out, HL.out]; omega
        have hmn : m < n := by omega
        have hmn2 : m ≤ c := by omega
        have hqc : q ≤ c := by omega
        obtain ⟨x, hx⟩ : ∃ x, l[m]? = some x := ⟨_, List.getElem?_eq_getElem (by rw [HL.out]; omega)⟩
        have hcx : w2.cell? ⟨b, o + m, none⟩ = some (.int .u8 (x.toNat : Int)) := by
          obtain ⟨ad, e, _, hc⟩ := h0.at_ (k := m) (u := bv x) (by simp [hx])
          injection e with e
          subst e
          rw [add_plain] at hc
          exact hc
        have HM := Lib.hid hm; clear hm
        have HQ := Lib.hid hq; clear hq
        by_cases h229 : x = 229
        · have hend : l[wrd (l.take 4) + 8]? = some 229 := by rw [← HZ.out, ← HM.out, hx, h229]
          subst h229
          have hrow : Lies w2 F (some ⟨b, o + 8, none⟩) (((l.drop 8).take z).map bv) := by
            rw [List.map_take, List.map_drop]
            exact (h0.behind 8).take z
          have hrl : ((l.drop 8).take z).length = m - 8 := by rw [List.length_take, List.length_drop, HL.out]; have := HM.out; omega
          have hq0 : Lies w2 F (some ⟨b, o, none⟩) ((l.take q).map bv) := by rw [List.map_take]; exact h0.take q
          have hql : (l.take q).length = q := by rw [List.length_take, HL.out]; omega
          have hfs := form_sum n8 nt hend
          rw [← HZ.out, ← HQ.out] at hfs
          have e4 := rd_there n8 ng nt hend
          have e5 := rd_sum n8 ng nt hend
          rw [← HZ.out] at e4 e5
          obtain ⟨row, hr⟩ : ∃ row, row = (l.drop 8).take z := ⟨_, rfl⟩
          rw [← hr] at hrow hrl hfs e4 e5
          clear hr
          obtain ⟨lq, hlq⟩ : ∃ lq, lq = l.take q := ⟨_, rfl⟩
          rw [← hlq] at hq0 hql hfs
          clear hlq
          have c8 : ¬ c = 8 := by omega
          have HX := Lib.hid hx; clear hx
          have E4 := Lib.hid e4; clear e4
          have E5 := Lib.hid e5; clear e5
          have HFS := Lib.hid hfs; clear hfs
          obtain ⟨S, hS⟩ : ∃ S, S = str (frm row) := ⟨_, rfl⟩
          obtain ⟨T, hT⟩ : ∃ T, T = str lq := ⟨_, rfl⟩
          have kd3 := Kept.drew noBlock w2
          have v1 := run_str (hq0.keep kd3 (fun _ _ h => h)) hql
          rw [← hT] at v1
          have HS := Lib.hid hS; clear hS
          have HT := Lib.hid hT; clear hT
          have j1 : (8 : Int) ≤ m := by omega
          have j2 : (m : Int) ≤ c := by omega
          have j3 : (q : Int) ≤ c := by omega
          have jm : IntKind.i64.wrap (m : Int) = (m : Int) := by rw [IntWalk.i64_in _ (by omega)]
          have jq : IntKind.i64.wrap (q : Int) = (q : Int) := by rw [IntWalk.i64_in _ (by omega)]
          have jx : max (m : Int) 0 = (m : Int) := by omega
          go_wp2_with fail
          refine wp_region_noPanic ?_
          refine wp_region_held_drew (S := fun w' => ∀ c, (convert 22 9 (.slice (some ⟨b, o, none⟩) q c)).run Try.prog w' = .ok (.string T) w') (by kernel_rfl) v1 (fun hHeld => ?_)
          refine wpAnyH_take (i := 0) (oi := ⟨some 44, Op.move (Operand.tmp 0), 22, _, _, none⟩) (v := ?v0n3k1) rfl (by kernel_rfl) (by kernel_rfl) (by kernel_rfl) (fun _ _ _ h => h) (Or.inl ⟨by rfl, ?y0n3k1⟩) hHeld ?z0n3k1
          case y0n3k1 => intro w hSw; (try dsimp only at hSw); go_simp <;> rfl
          try simp only [Act.put, List.setIfInBounds_toArray, List.set_cons_zero, List.set_cons_succ]
          refine wpAnyH_take (i := 1) (oi := ⟨some 45, Op.move (Operand.tmp 5), 3, _, _, none⟩) (v := ?v1n3k2) rfl (by kernel_rfl) (by kernel_rfl) (by kernel_rfl) (fun _ _ _ h => h) (Or.inl ⟨by rfl, ?y1n3k2⟩) hHeld ?z1n3k2
          case y1n3k2 => intro w hSw; (try dsimp only at hSw); go_simp <;> rfl
          try simp only [Act.put, List.setIfInBounds_toArray, List.set_cons_zero, List.set_cons_succ]
          refine wpAnyH_take (i := 2) (oi := ⟨some 46, Op.binOp BinOp.add 3 (Operand.tmp 45) (Operand.const (Value.int IntKind.i64 8)) 3, 3, _, _, none⟩) (v := ?v2n3k3) rfl (by kernel_rfl) (by kernel_rfl) (by kernel_rfl) (fun _ _ _ h => h) (Or.inl ⟨by rfl, ?y2n3k3⟩) hHeld ?z2n3k3
          case y2n3k3 => intro w hSw; (try dsimp only at hSw); go_simp <;> rfl
          try simp only [Act.put, List.setIfInBounds_toArray, List.set_cons_zero, List.set_cons_succ]
          refine wpAnyH_take (i := 3) (oi := ⟨some 47, Op.slice 22 (Operand.tmp 44) (some (Operand.const (Value.int IntKind.i64 8))) (some (Operand.tmp 46)) none, 22, _, _, none⟩) (v := ?v3n3k4) rfl (by kernel_rfl) (by kernel_rfl) (by kernel_rfl) (fun _ _ _ h => h) (Or.inl ⟨by rfl, ?y3n3k4⟩) hHeld ?z3n3k4
          case y3n3k4 => intro w hSw; (try dsimp only at hSw); go_simp <;> rfl
          try simp only [Act.put, List.setIfInBounds_toArray, List.set_cons_zero, List.set_cons_succ]
          refine wpAnyH_take (i := 5) (oi := ⟨some 49, Op.move (Operand.tmp 0), 22, _, _, none⟩) (v := ?v5n3k5) rfl (by kernel_rfl) (by kernel_rfl) (by kernel_rfl) (fun _ _ _ h => h) (Or.inl ⟨by rfl, ?y5n3k5⟩) hHeld ?z5n3k5
          case y5n3k5 => intro w hSw; (try dsimp only at hSw); go_simp <;> rfl
          try simp only [Act.put, List.setIfInBounds_toArray, List.set_cons_zero, List.set_cons_succ]
          refine wpAnyH_take (i := 6) (oi := ⟨some 50, Op.move (Operand.tmp 5), 3, _, _, none⟩) (v := ?v6n3k6) rfl (by kernel_rfl) (by kernel_rfl) (by kernel_rfl) (fun _ _ _ h => h) (Or.inl ⟨by rfl, ?y6n3k6⟩) hHeld ?z6n3k6
          case y6n3k6 => intro w hSw; (try dsimp only at hSw); go_simp <;> rfl
          try simp only [Act.put, List.setIfInBounds_toArray, List.set_cons_zero, List.set_cons_succ]
          refine wpAnyH_take (i := 7) (oi := ⟨some 51, Op.binOp BinOp.add 3 (Operand.tmp 50) (Operand.const (Value.int IntKind.i64 9)) 3, 3, _, _, none⟩) (v := ?v7n3k7) rfl (by kernel_rfl) (by kernel_rfl) (by kernel_rfl) (fun _ _ _ h => h) (Or.inl ⟨by rfl, ?y7n3k7⟩) hHeld ?z7n3k7
          case y7n3k7 => intro w hSw; (try dsimp only at hSw); go_simp <;> rfl
          try simp only [Act.put, List.setIfInBounds_toArray, List.set_cons_zero, List.set_cons_succ]
          refine wpAnyH_take (i := 8) (oi := ⟨some 52, Op.slice 22 (Operand.tmp 49) none (some (Operand.tmp 51)) none, 22, _, _, none⟩) (v := ?v8n3k8) rfl (by kernel_rfl) (by kernel_rfl) (by kernel_rfl) (fun _ _ _ h => h) (Or.inl ⟨by rfl, ?y8n3k8⟩) hHeld ?z8n3k8
          case y8n3k8 => intro w hSw; (try dsimp only at hSw); go_simp <;> rfl
          try simp only [Act.put, List.setIfInBounds_toArray, List.set_cons_zero, List.set_cons_succ]
          refine wpAnyH_take (i := 9) (oi := ⟨some 53, Op.convert 22 9 (Operand.tmp 52), 9, _, _, none⟩) (v := ?v9n3k9) rfl (by kernel_rfl) (by kernel_rfl) (by kernel_rfl) (fun _ _ _ h => h) (Or.inl ⟨by rfl, ?y9n3k9⟩) hHeld ?z9n3k9
          case y9n3k9 => intro w hSw; (try dsimp only at hSw); go_simp <;> rfl
          try simp only [Act.put, List.setIfInBounds_toArray, List.set_cons_zero, List.set_cons_succ]
          refine wpAnyH_ready (rs := [4]) (by kernel_rfl) (by simp) ?_
          refine AllReadyH.cons (o := ⟨some 48, Op.call { callee := Callee.value (Operand.func 13), args := #[Operand.tmp 47], argTypes := #[22] }, 9, _, _, none⟩) rfl (fun K hK => ?_) AllReadyH.nil
          go_simp
          refine (form_any F _ (m - 8) (c - 8) row _ (hrow.keep kd3 (fun _ _ h => h)) hrl (by omega)).mono ?_
          rw [← HS.out]
          rintro e w4 ⟨rfl, k4⟩
          have v4 := run_str ((hq0.keep kd3 (fun _ _ h => h)).keep k4 (fun _ _ h => h)) hql
          rw [← HT.out] at v4
          dsimp only
          refine hK.out _ _ v4 (fun hHeld => ?_)
          clear hK K
          try simp only [Act.put, List.setIfInBounds_toArray, List.set_cons_zero, List.set_cons_succ]
          refine wpAnyH_take (i := 10) (oi := ⟨some 54, Op.binOp BinOp.neq 9 (Operand.tmp 48) (Operand.tmp 53) 9, 4, _, _, none⟩) (v := ?v10n3k10) rfl (by kernel_rfl) (by kernel_rfl) (by kernel_rfl) (fun _ _ _ h => h) (Or.inl ⟨by rfl, ?y10n3k10⟩) hHeld ?z10n3k10
          case y10n3k10 => intro w hSw; (try dsimp only at hSw); go_simp <;> rfl
          try simp only [Act.put, List.setIfInBounds_toArray, List.set_cons_zero, List.set_cons_succ]
          refine wpAnyH_done (by kernel_rfl) ?_ _
          refine NoPanic.normal ?_
          have kk := (kd.step kd3).step k4
          have hrow4 := (hrow.keep kd3 (fun _ _ h => h)).keep k4 (fun _ _ h => h)
          clear v1 v4 hHeld jm jq jx
          have eST : ∀ p q : List UInt8, ((str p).toList == (str q).toList) = decide (p = q) := fun p q => by
            rw [ByteArray.toList_eq, ByteArray.toList_eq]
            by_cases h : p = q <;> simp [str, h]
          by_cases hsum : frm row = lq
          · have hb : (S.toList == T.toList) = true := by rw [HS.out, HT.out, eST]; exact decide_eq_true hsum
            have E := Lib.hid (E4.out (HFS.out.1 hsum)); clear hsum E4 E5 eST
            rw [hb]
            clear hb
            go_wp2
            go_ret3
            rw [E.out, hrl]
            exact ⟨some ⟨b, o + 8, none⟩, c - 8, by simp [HQ.out], hrow4, kk⟩
          · have hb : (S.toList == T.toList) = false := by rw [HS.out, HT.out, eST]; exact decide_eq_false hsum
            have E := Lib.hid (E5.out (fun h => hsum (HFS.out.2 h))); clear hsum E4 E5 eST
            rw [hb]
            clear hb
            go_wp2
            go_ret3
            rw [E.out]
            exact ⟨none, 0, rfl, Lies.nil _ _ _, kk⟩
        · have hx2 : ((x.toNat : Int) == 229) = false := beq_false_of_ne (fun h => h229 (UInt8.toNat_inj.1 (by show x.toNat = 229; omega)))
          have e4 := rd_end n8 ng nt (by rw [← HZ.out, ← HM.out, hx]; simpa using h229)
          have E4 := Lib.hid e4; clear e4 hx
          go_wp2
          go_ret3
          rw [E4.out]
          exact ⟨none, 0, rfl, Lies.nil _ _ _, kd⟩

end Go.Proofs.Ythankjgebaanpaa
