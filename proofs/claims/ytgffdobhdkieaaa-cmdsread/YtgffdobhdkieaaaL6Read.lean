/-
  CmdsRead: what it does with whatever bytes. No statement is proved here.
-/
import Derived.Test.YtgffdobhdkieaaaL6Right
import Derived.Test.YtgffdobhdkieaaaL6Bytes
import Derived.Test.YtgffdobhdkieaaaSep
import Derived.Laws.BitsAllLaws
namespace Go.Proofs.Ytgffdobhdkieaaa
open Go.RowKit

/-- A row of bytes that a value is. -/
structure RowV where
  a : Option Addr
  n : Nat
  c : Nat
  l : List UInt8
def RowV.val (y : RowV) : Value := .slice y.a y.n y.c
structure RowV.Lie (y : RowV) (w : World) : Prop where
  lies : Lies w (fun _ => True) y.a (y.l.map bv)
  len : y.l.length = y.n
  small : y.n ≤ 140737488355328
theorem RowV.Lie.keep {y : RowV} {w w' : World} (h : y.Lie w) (k : Kept noBlock w w') : y.Lie w' := ⟨h.lies.keep k (fun _ _ h => h), h.len, h.small⟩

theorem RowV.four {w : World} {y0 y1 y2 y3 : RowV} {t : TypeId} (h0 : y0.Lie w) (h1 : y1.Lie w) (h2 : y2.Lie w) (h3 : y3.Lie w) (i : Nat) (y : RowV) (hy : [y0, y1, y2, y3][i]? = some y) :
    (w.alloc (.cells #[y0.val, y1.val, y2.val, y3.val] t)).cell? ⟨w.heap.size, i, none⟩ = some y.val ∧ y.Lie (w.alloc (.cells #[y0.val, y1.val, y2.val, y3.val] t)) := by
  have hb := heap_alloc_new w (.cells #[y0.val, y1.val, y2.val, y3.val] t)
  have k := Kept.alloc noBlock w (.cells #[y0.val, y1.val, y2.val, y3.val] t)
  match i, hy with
  | 0, hy =>
    obtain rfl : y0 = y := by simpa using hy
    exact ⟨cell_of_row _ _ _ _ _ _ hb, h0.keep k⟩
  | 1, hy =>
    obtain rfl : y1 = y := by simpa using hy
    exact ⟨cell_of_row _ _ _ _ _ _ hb, h1.keep k⟩
  | 2, hy =>
    obtain rfl : y2 = y := by simpa using hy
    exact ⟨cell_of_row _ _ _ _ _ _ hb, h2.keep k⟩
  | 3, hy =>
    obtain rfl : y3 = y := by simpa using hy
    exact ⟨cell_of_row _ _ _ _ _ _ hb, h3.keep k⟩
  | i + 4, hy => simp at hy

set_option maxHeartbeats 4000000 in
theorem read_walk (F : Nat → Prop) (a : Option Addr) (n c : Nat) (L : List UInt8) (s : SayV) (at_ by_ : UInt8) (w : World) (h : Lies w F a (L.map bv)) (hl : L.length = n) (hx : n ≤ 140737488355328) :
    Calls Try.prog 7 #[.slice a n c, s.val, .int .u8 (at_.toNat : Int), .int .u8 (by_.toNat : Int)] w fun e w' => e = .returned (.bool true) ∧ Kept noBlock w w' := by
  have hsay := say_any s
  obtain ⟨x, hxe⟩ : ∃ x : EntryV, x = ⟨5, 2, s.cmd⟩ := ⟨_, rfl⟩
  have XR : Hid (x.Right) := by
    unfold Hid
    rw [hxe]
    exact ⟨by show (1 : Int) ≤ 5; decide, by show (5 : Int) ≤ 1048576; decide, by show (0 : Int) ≤ 2; decide, by show (2 : Int) ≤ 1048576; decide, s.may⟩
  have hxb := XR.out.bounds
  have hxl := x.bytes_length
  obtain ⟨N, hN⟩ : ∃ N, x.bytes.length = N := ⟨_, rfl⟩
  have hN1 : 57 ≤ N := by omega
  have hN2 : N ≤ 97 := by omega
  have hbx := fun w => bytes_any x N w hN (by omega)
  have HN := Lib.hid hN
  clear hN hxb hxl
  rw [show x.val = .agg #[.int .i64 5, .int .i64 2, .int .i64 s.cmd.op, .int .i64 s.cmd.client, .int .i64 s.cmd.seq, .string s.cmd.key, .string s.cmd.value, .string s.cmd.old] by rw [hxe]; rfl] at hbx
  clear hxe
  obtain ⟨k, hk⟩ : ∃ k, k = at_.toNat % N := ⟨_, rfl⟩
  have hkN : k < N := by rw [hk]; exact Nat.mod_lt _ (by omega)
  have t1 : ((at_.toNat : Int)).tmod (N : Int) = (k : Int) := by rw [hk]; exact tmod_nat _ N
  have hat_ := at_.toNat_lt
  clear hk
  obtain ⟨w0, hw0⟩ : ∃ w0, w0 = w.alloc (.cells s.cells.toArray 26) := ⟨_, rfl⟩
  have K0 : Hid (Kept noBlock w w0) := by unfold Hid; rw [hw0]; exact Kept.alloc _ _ _
  have B0 : Hid (w0.heap[w.heap.size]? = some (.cells s.cells.toArray 26 (0, 0))) := by unfold Hid; rw [hw0]; exact heap_alloc_new w _
  unfold SayV.cells at hw0
  unfold SayV.val CmdV.val at hsay
  unfold SayV.val
  go_enter Try.func7, Try.ntmps7
  go_wp2_with fail
  rw [← hw0]
  clear hw0
  refine (awake_any w0).mono ?_
  rintro e w1 ⟨rfl, k1⟩
  obtain ⟨c0, c1, c2, c3, c4, c5⟩ := say_cells (k1.blk B0.out (fun h => h))
  have K1 := Lib.hid (K0.out.step k1)
  clear k1 B0 K0
  go_wp2_with fail
  refine (hsay _).mono ?_
  rintro e w2 ⟨rfl, k2⟩
  have K2 := Lib.hid (K1.out.step k2)
  clear k2 c0 c1 c2 c3 c4 c5 K1 hsay
  go_wp2_with fail
  refine (hbx _).mono ?_
  rintro e w3 ⟨A, c1, rfl, o3, k3⟩
  have hc1 : N ≤ c1 := by obtain ⟨_, _, e, hle⟩ := own_form o3; injection e with _ _ e; omega
  have S3 : Hid (Sep w2 w3 5 (putAt (putAt (fun _ => none) 1 (.slice A N c1) (x.bytes.map bv)) 2 (.slice none 0 0) [])) :=
    ((Sep.start (Kept.refl _ _)).add 1 k3 (by rw [List.length_map, HN.out]; exact o3) (fun b hb => (o3.lt b hb).1)).nil 2
  clear o3 k3 hbx
  go_wp2_with (at_builtin; refine Sep.list_append S3.out 2 1 rfl (.const (.slice none 0 0)) (.tmp 24) 42 rfl (.int .u8 0) Try.underlying42 Try.infoU8 rfl none A 0 N 0 c1 [] (x.bytes.map bv) rfl rfl rfl rfl ?hone ?hlen ?_)
  case hone => exact bv_one _
  case hlen => omega
  intro A4 c4 w4 S4
  have o4 := S4.own 2 _ _ rfl
  rw [List.length_map, HN.out] at o4
  obtain ⟨g, cap, hv, hcp, _⟩ := o4.form (by omega)
  obtain ⟨rfl, rfl⟩ : A4 = some ⟨g, 0, none⟩ ∧ c4 = cap := by injection hv with a b c; exact ⟨a, c⟩
  obtain ⟨xk, hxk⟩ : ∃ xk, x.bytes[k]? = some xk := ⟨_, List.getElem?_eq_getElem (by rw [HN.out]; exact hkN)⟩
  have hcx : w4.cell? ⟨g, k, none⟩ = some (.int .u8 (xk.toNat : Int)) := by rw [o4.cellAt k (by omega)]; rw [List.getElem?_map, hxk]; rfl
  have hf : w4.frozen? ⟨g, k, none⟩ = false := o4.frozenAt _
  obtain ⟨z, hz⟩ : ∃ z : UInt8, z = xk ^^^ by_ := ⟨_, rfl⟩
  have hxor : bits BinOp.xor IntKind.u8 (xk.toNat : Int) (by_.toNat : Int) = (z.toNat : Int) := by rw [hz, UInt8.toNat_xor]; exact u8_xor_nat _ _ xk.toNat_lt by_.toNat_lt
  have hset : (x.bytes.map bv).set k (.int .u8 (z.toNat : Int)) = (x.bytes.set k z).map bv := by rw [List.map_set]; rfl
  have hst := o4.stored k (.int .u8 (z.toNat : Int))
  rw [hset] at hst
  have S5 := Lib.hid (S4.grow (i := 2) rfl (Kept.setCell (S := fun b => (Value.slice (some ⟨g, 0, none⟩) N c4).ownBlock = some b) w4 (p := ⟨g, k, none⟩) (by rfl) (.int .u8 (z.toNat : Int))) (v' := .slice (some ⟨g, 0, none⟩) N c4) (ys := (x.bytes.set k z).map bv)
    (by rw [List.length_map, List.length_set, HN.out]; exact own_base hst.1 (fun _ _ => Nat.zero_le _)) (fun b hb => .inl hb))
  have hkN' : (k : Int) < (N : Int) := by omega
  clear hst hset hz hxk o4 hv hcp S4 S3
  go_upto_region 8 with (fail)
  generalize w4.setCell ⟨g, k, none⟩ (.int .u8 (z.toNat : Int)) = w5 at S5 ⊢
  clear hcx hf hxor
  have K5 := Lib.hid (K2.out.step S5.out.kept)
  have HH : Hid (Lies w2 F a (L.map bv)) := h.keep K2.out (fun _ _ h => h)
  clear h
  go_cut [51, 52, 53] (fun p q r wc => ∃ (G : Nat) (ys : List RowV), p = .slice (some ⟨G, 0, none⟩) 4 4 ∧ q = .int .i64 4 ∧ r = .int .i64 0 ∧ Hid (ys.length = 4) ∧ Hid (∀ i y, ys[i]? = some y → wc.cell? ⟨G, i, none⟩ = some y.val ∧ y.Lie wc) ∧ Hid (Kept noBlock w wc))
  case first =>
    have hR : Sep w2 w5.drew 5 _ := (S5.out.nil 0).drew
    have nN : (N = 0) = False := eq_false (by omega)
    have t2 : (IntKind.i64.wrap (at_.toNat : Int)).tmod (N : Int) = (k : Int) := by rw [IntWalk.i64_in _ (by omega)]; exact t1
    have i1 : (k : Int) ≤ (c1 : Int) := by omega
    have i2 : (0 : Int) ≤ (k : Int) := by omega
    refine wp_region_noPanic ?_
    refine wp_region_held_drew (S := fun _ => True) (by kernel_rfl) trivial (fun hHeld => ?_)
    refine wpAnyH_take (i := 0) (oi := ⟨some 37, Op.move (Operand.tmp 0), 42, _, _, none⟩) (v := ?v0n1k1) rfl (by kernel_rfl) (by kernel_rfl) (by kernel_rfl) (fun _ _ _ h => h) (Or.inl ⟨by rfl, ?y0n1k1⟩) hHeld ?z0n1k1
    case y0n1k1 => intro w hSw; (try dsimp only at hSw); go_simp <;> rfl
    try simp only [Act.put, List.setIfInBounds_toArray, List.set_cons_zero, List.set_cons_succ]
    refine wpAnyH_take (i := 1) (oi := ⟨some 38, Op.move (Operand.tmp 10), 42, _, _, none⟩) (v := ?v1n1k2) rfl (by kernel_rfl) (by kernel_rfl) (by kernel_rfl) (fun _ _ _ h => h) (Or.inl ⟨by rfl, ?y1n1k2⟩) hHeld ?z1n1k2
    case y1n1k2 => intro w hSw; (try dsimp only at hSw); go_simp <;> rfl
    try simp only [Act.put, List.setIfInBounds_toArray, List.set_cons_zero, List.set_cons_succ]
    refine wpAnyH_take (i := 2) (oi := ⟨some 39, Op.move (Operand.tmp 9), 42, _, _, none⟩) (v := ?v2n1k3) rfl (by kernel_rfl) (by kernel_rfl) (by kernel_rfl) (fun _ _ _ h => h) (Or.inl ⟨by rfl, ?y2n1k3⟩) hHeld ?z2n1k3
    case y2n1k3 => intro w hSw; (try dsimp only at hSw); go_simp <;> rfl
    try simp only [Act.put, List.setIfInBounds_toArray, List.set_cons_zero, List.set_cons_succ]
    refine wpAnyH_take (i := 3) (oi := ⟨some 40, Op.move (Operand.tmp 2), 5, _, _, none⟩) (v := ?v3n1k4) rfl (by kernel_rfl) (by kernel_rfl) (by kernel_rfl) (fun _ _ _ h => h) (Or.inl ⟨by rfl, ?y3n1k4⟩) hHeld ?z3n1k4
    case y3n1k4 => intro w hSw; (try dsimp only at hSw); go_simp <;> rfl
    try simp only [Act.put, List.setIfInBounds_toArray, List.set_cons_zero, List.set_cons_succ]
    refine wpAnyH_take (i := 4) (oi := ⟨some 41, Op.convert 5 3 (Operand.tmp 40), 3, _, _, none⟩) (v := ?v4n1k5) rfl (by kernel_rfl) (by kernel_rfl) (by kernel_rfl) (fun _ _ _ h => h) (Or.inl ⟨by rfl, ?y4n1k5⟩) hHeld ?z4n1k5
    case y4n1k5 => intro w hSw; (try dsimp only at hSw); go_simp <;> rfl
    try simp only [Act.put, List.setIfInBounds_toArray, List.set_cons_zero, List.set_cons_succ]
    refine wpAnyH_take (i := 5) (oi := ⟨some 42, Op.move (Operand.tmp 9), 42, _, _, none⟩) (v := ?v5n1k6) rfl (by kernel_rfl) (by kernel_rfl) (by kernel_rfl) (fun _ _ _ h => h) (Or.inl ⟨by rfl, ?y5n1k6⟩) hHeld ?z5n1k6
    case y5n1k6 => intro w hSw; (try dsimp only at hSw); go_simp <;> rfl
    try simp only [Act.put, List.setIfInBounds_toArray, List.set_cons_zero, List.set_cons_succ]
    refine wpAnyH_take (i := 6) (oi := ⟨some 43, Op.call { callee := Callee.builtin Builtin.len, args := #[Operand.tmp 42], argTypes := #[42] }, 3, _, _, none⟩) (v := ?v6n1k7) rfl (by kernel_rfl) (by kernel_rfl) (by kernel_rfl) (fun _ _ _ h => h) (Or.inl ⟨by rfl, ?y6n1k7⟩) hHeld ?z6n1k7
    case y6n1k7 => intro w hSw; (try dsimp only at hSw); go_simp <;> rfl
    try simp only [Act.put, List.setIfInBounds_toArray, List.set_cons_zero, List.set_cons_succ]
    refine wpAnyH_take (i := 7) (oi := ⟨some 44, Op.binOp BinOp.rem 3 (Operand.tmp 41) (Operand.tmp 43) 3, 3, _, _, none⟩) (v := ?v7n1k8) rfl (by kernel_rfl) (by kernel_rfl) (by kernel_rfl) (fun _ _ _ h => h) (Or.inl ⟨by rfl, ?y7n1k8⟩) hHeld ?z7n1k8
    case y7n1k8 => intro w hSw; (try dsimp only at hSw); go_simp <;> rfl
    try simp only [Act.put, List.setIfInBounds_toArray, List.set_cons_zero, List.set_cons_succ]
    refine wpAnyH_take (i := 8) (oi := ⟨some 45, Op.slice 42 (Operand.tmp 39) none (some (Operand.tmp 44)) none, 42, _, _, none⟩) (v := ?v8n1k9) rfl (by kernel_rfl) (by kernel_rfl) (by kernel_rfl) (fun _ _ _ h => h) (Or.inl ⟨by rfl, ?y8n1k9⟩) hHeld ?z8n1k9
    case y8n1k9 => intro w hSw; (try dsimp only at hSw); go_simp <;> rfl
    try simp only [Act.put, List.setIfInBounds_toArray, List.set_cons_zero, List.set_cons_succ]
    refine wpAnyH_take (i := 9) (oi := ⟨some 46, Op.move (Operand.tmp 9), 42, _, _, none⟩) (v := ?v9n1k10) rfl (by kernel_rfl) (by kernel_rfl) (by kernel_rfl) (fun _ _ _ h => h) (Or.inl ⟨by rfl, ?y9n1k10⟩) hHeld ?z9n1k10
    case y9n1k10 => intro w hSw; (try dsimp only at hSw); go_simp <;> rfl
    try simp only [Act.put, List.setIfInBounds_toArray, List.set_cons_zero, List.set_cons_succ]
    refine wpAnyH_take (i := 11) (oi := ⟨some 48, Op.move (Operand.tmp 3), 5, _, _, none⟩) (v := ?v11n1k11) rfl (by kernel_rfl) (by kernel_rfl) (by kernel_rfl) (fun _ _ _ h => h) (Or.inl ⟨by rfl, ?y11n1k11⟩) hHeld ?z11n1k11
    case y11n1k11 => intro w hSw; (try dsimp only at hSw); go_simp <;> rfl
    try simp only [Act.put, List.setIfInBounds_toArray, List.set_cons_zero, List.set_cons_succ]
    refine wpAnyH_take (i := 16) (oi := ⟨some 53, Op.move (Operand.const (Value.int IntKind.i64 0)), 3, _, _, none⟩) (v := ?v16n1k12) rfl (by kernel_rfl) (by kernel_rfl) (by kernel_rfl) (fun _ _ _ h => h) (Or.inl ⟨by rfl, ?y16n1k12⟩) hHeld ?z16n1k12
    case y16n1k12 => intro w hSw; (try dsimp only at hSw); go_simp <;> rfl
    try simp only [Act.put, List.setIfInBounds_toArray, List.set_cons_zero, List.set_cons_succ]
    refine wpAnyH_ready (rs := [10, 12]) (by kernel_rfl) (by simp) ?_
    refine (AllReadyH.cons (o := ⟨some 47, Op.call { callee := Callee.builtin Builtin.append, args := #[Operand.const (Value.slice none 0 0), Operand.tmp 46], argTypes := #[42, 42] }, 42, _, _, none⟩) rfl (fun K hK => ?b10n1k14) (AllReadyH.cons (o := ⟨some 49, Op.buildSlice 42 1 #[(0, Operand.tmp 48)], 42, _, _, none⟩) rfl (fun K hK => ?b12n1k13) AllReadyH.nil))
    case b10n1k14 =>
      refine hR.step_append 0 1 rfl (.const (.slice none 0 0)) (.tmp 46) 42 rfl (.int .u8 0) Try.underlying42 Try.infoU8 rfl none A 0 N 0 c1 _ (x.bytes.map bv) rfl rfl rfl rfl (bv_one _) (by omega) ?_
      intro A10 c10 w10 hR2
      simp only [Nat.zero_add, List.nil_append] at hR2 ⊢
      replace hR := hR2
      clear hR2
      refine hK.out _ _ trivial (fun hHeld => ?_)
      clear hK K
      try simp only [Act.put, List.setIfInBounds_toArray, List.set_cons_zero, List.set_cons_succ]
      refine wpAnyH_ready (rs := [12]) (by kernel_rfl) (by simp) ?_
      refine AllReadyH.cons (o := ⟨some 49, Op.buildSlice 42 1 #[(0, Operand.tmp 48)], 42, _, _, none⟩) rfl (fun K hK => ?_) AllReadyH.nil
      refine hR.step_build 12 rfl 42 (.tmp 48) rfl (.int .u8 0) Try.underlying42 Try.infoU8 (bv by_) rfl rfl ?_
      intro B12 w12 hR2
      replace hR := hR2
      clear hR2
      refine hK.out _ _ trivial (fun hHeld => ?_)
      clear hK K
      try simp only [Act.put, List.setIfInBounds_toArray, List.set_cons_zero, List.set_cons_succ]
      refine wpAnyH_ready (rs := [13]) (by kernel_rfl) (by simp) ?_
      refine AllReadyH.cons (o := ⟨some 50, Op.call { callee := Callee.builtin Builtin.append, args := #[Operand.tmp 47, Operand.tmp 49], argTypes := #[42, 42] }, 42, _, _, none⟩) rfl (fun K hK => ?_) AllReadyH.nil
      refine hR.step_append 0 12 rfl (.tmp 47) (.tmp 49) 42 rfl (.int .u8 0) Try.underlying42 Try.infoU8 rfl _ _ N 1 _ _ (x.bytes.map bv) [bv by_] rfl rfl rfl rfl (by intro u hu; simp at hu; subst hu; rfl) (by omega) ?_
      intro A13 c13 w13 hR2
      replace hR := hR2
      clear hR2
      refine hK.out _ _ trivial (fun hHeld => ?_)
      clear hK K
      try simp only [Act.put, List.setIfInBounds_toArray, List.set_cons_zero, List.set_cons_succ]
      refine wpAnyH_ready (rs := [14]) (by kernel_rfl) (by simp) ?_
      refine AllReadyH.cons (o := ⟨some 51, Op.buildSlice 48 4 #[(0, Operand.tmp 37), (1, Operand.tmp 38), (2, Operand.tmp 45), (3, Operand.tmp 50)], 48, _, _, none⟩) rfl (fun K hK => ?_) AllReadyH.nil
      have l1 : Lies w13 (fun _ => True) A (x.bytes.map bv) := (hR.lies (i := 1) (n := N) (c := c1) rfl).mono (fun _ _ => trivial)
      have l2 : Lies w13 (fun _ => True) (some ⟨g, 0, none⟩) ((x.bytes.set k z).map bv) := (hR.lies (i := 2) (n := N) (c := c4) rfl).mono (fun _ _ => trivial)
      have l3 : Lies w13 (fun _ => True) A13 ((x.bytes ++ [by_]).map bv) := by
        rw [List.map_append]
        exact (hR.lies (i := 0) (n := N + 1) (c := c13) rfl).mono (fun _ _ => trivial)
      have l0 : Lies w13 (fun _ => True) a (L.map bv) := (HH.out.keep hR.kept (fun _ _ h => h)).mono (fun _ _ => trivial)
      have G14 := Lib.hid (RowV.four (t := 42) (y0 := ⟨a, n, c, L⟩) (y1 := ⟨some ⟨g, 0, none⟩, N, c4, x.bytes.set k z⟩) (y2 := ⟨A, k, c1, x.bytes.take k⟩) (y3 := ⟨A13, N + 1, c13, x.bytes ++ [by_]⟩)
        ⟨l0, hl, hx⟩ ⟨l2, by rw [List.length_set]; exact HN.out, by show N ≤ 140737488355328; omega⟩ ⟨by rw [List.map_take]; exact l1.take k, by show (x.bytes.take k).length = k; rw [List.length_take, HN.out]; omega, by show k ≤ 140737488355328; omega⟩ ⟨l3, by show (x.bytes ++ [by_]).length = N + 1; rw [List.length_append, HN.out]; rfl, by show N + 1 ≤ 140737488355328; omega⟩)
      have K14 := Lib.hid ((K2.out.step hR.kept).step (Kept.alloc noBlock w13 (.cells #[.slice a n c, .slice (some ⟨g, 0, none⟩) N c4, .slice A k c1, .slice A13 (N + 1) c13] 42)))
      clear l0 l1 l2 l3
      go_simp
      refine hK.out _ _ trivial (fun hHeld => ?_)
      clear hK K
      try simp only [Act.put, List.setIfInBounds_toArray, List.set_cons_zero, List.set_cons_succ]
      refine wpAnyH_take (i := 15) (oi := ⟨some 52, Op.call { callee := Callee.builtin Builtin.len, args := #[Operand.tmp 51], argTypes := #[48] }, 3, _, _, none⟩) (v := ?v15n1k15) rfl (by kernel_rfl) (by kernel_rfl) (by kernel_rfl) (fun _ _ _ h => h) (Or.inl ⟨by rfl, ?y15n1k15⟩) hHeld ?z15n1k15
      case y15n1k15 => intro w hSw; (try dsimp only at hSw); go_simp <;> rfl
      try simp only [Act.put, List.setIfInBounds_toArray, List.set_cons_zero, List.set_cons_succ]
      refine wpAnyH_done (by kernel_rfl) ?_ _
      refine NoPanic.normal ?_
      go_wp2
      go_meet
      case rel => exact ⟨w13.heap.size, [⟨a, n, c, L⟩, ⟨some ⟨g, 0, none⟩, N, c4, x.bytes.set k z⟩, ⟨A, k, c1, x.bytes.take k⟩, ⟨A13, N + 1, c13, x.bytes ++ [by_]⟩], rfl, rfl, rfl, Lib.hid rfl, G14, K14⟩
    case b12n1k13 =>
      refine hR.step_build 12 rfl 42 (.tmp 48) rfl (.int .u8 0) Try.underlying42 Try.infoU8 (bv by_) rfl rfl ?_
      intro B12 w12 hR2
      replace hR := hR2
      clear hR2
      refine hK.out _ _ trivial (fun hHeld => ?_)
      clear hK K
      try simp only [Act.put, List.setIfInBounds_toArray, List.set_cons_zero, List.set_cons_succ]
      refine wpAnyH_ready (rs := [10]) (by kernel_rfl) (by simp) ?_
      refine AllReadyH.cons (o := ⟨some 47, Op.call { callee := Callee.builtin Builtin.append, args := #[Operand.const (Value.slice none 0 0), Operand.tmp 46], argTypes := #[42, 42] }, 42, _, _, none⟩) rfl (fun K hK => ?_) AllReadyH.nil
      refine hR.step_append 0 1 rfl (.const (.slice none 0 0)) (.tmp 46) 42 rfl (.int .u8 0) Try.underlying42 Try.infoU8 rfl none A 0 N 0 c1 _ (x.bytes.map bv) rfl rfl rfl rfl (bv_one _) (by omega) ?_
      intro A10 c10 w10 hR2
      simp only [Nat.zero_add, List.nil_append] at hR2 ⊢
      replace hR := hR2
      clear hR2
      refine hK.out _ _ trivial (fun hHeld => ?_)
      clear hK K
      try simp only [Act.put, List.setIfInBounds_toArray, List.set_cons_zero, List.set_cons_succ]
      refine wpAnyH_ready (rs := [13]) (by kernel_rfl) (by simp) ?_
      refine AllReadyH.cons (o := ⟨some 50, Op.call { callee := Callee.builtin Builtin.append, args := #[Operand.tmp 47, Operand.tmp 49], argTypes := #[42, 42] }, 42, _, _, none⟩) rfl (fun K hK => ?_) AllReadyH.nil
      refine hR.step_append 0 12 rfl (.tmp 47) (.tmp 49) 42 rfl (.int .u8 0) Try.underlying42 Try.infoU8 rfl _ _ N 1 _ _ (x.bytes.map bv) [bv by_] rfl rfl rfl rfl (by intro u hu; simp at hu; subst hu; rfl) (by omega) ?_
      intro A13 c13 w13 hR2
      replace hR := hR2
      clear hR2
      refine hK.out _ _ trivial (fun hHeld => ?_)
      clear hK K
      try simp only [Act.put, List.setIfInBounds_toArray, List.set_cons_zero, List.set_cons_succ]
      refine wpAnyH_ready (rs := [14]) (by kernel_rfl) (by simp) ?_
      refine AllReadyH.cons (o := ⟨some 51, Op.buildSlice 48 4 #[(0, Operand.tmp 37), (1, Operand.tmp 38), (2, Operand.tmp 45), (3, Operand.tmp 50)], 48, _, _, none⟩) rfl (fun K hK => ?_) AllReadyH.nil
      have l1 : Lies w13 (fun _ => True) A (x.bytes.map bv) := (hR.lies (i := 1) (n := N) (c := c1) rfl).mono (fun _ _ => trivial)
      have l2 : Lies w13 (fun _ => True) (some ⟨g, 0, none⟩) ((x.bytes.set k z).map bv) := (hR.lies (i := 2) (n := N) (c := c4) rfl).mono (fun _ _ => trivial)
      have l3 : Lies w13 (fun _ => True) A13 ((x.bytes ++ [by_]).map bv) := by
        rw [List.map_append]
        exact (hR.lies (i := 0) (n := N + 1) (c := c13) rfl).mono (fun _ _ => trivial)
      have l0 : Lies w13 (fun _ => True) a (L.map bv) := (HH.out.keep hR.kept (fun _ _ h => h)).mono (fun _ _ => trivial)
      have G14 := Lib.hid (RowV.four (t := 42) (y0 := ⟨a, n, c, L⟩) (y1 := ⟨some ⟨g, 0, none⟩, N, c4, x.bytes.set k z⟩) (y2 := ⟨A, k, c1, x.bytes.take k⟩) (y3 := ⟨A13, N + 1, c13, x.bytes ++ [by_]⟩)
        ⟨l0, hl, hx⟩ ⟨l2, by rw [List.length_set]; exact HN.out, by show N ≤ 140737488355328; omega⟩ ⟨by rw [List.map_take]; exact l1.take k, by show (x.bytes.take k).length = k; rw [List.length_take, HN.out]; omega, by show k ≤ 140737488355328; omega⟩ ⟨l3, by show (x.bytes ++ [by_]).length = N + 1; rw [List.length_append, HN.out]; rfl, by show N + 1 ≤ 140737488355328; omega⟩)
      have K14 := Lib.hid ((K2.out.step hR.kept).step (Kept.alloc noBlock w13 (.cells #[.slice a n c, .slice (some ⟨g, 0, none⟩) N c4, .slice A k c1, .slice A13 (N + 1) c13] 42)))
      clear l0 l1 l2 l3
      go_simp
      refine hK.out _ _ trivial (fun hHeld => ?_)
      clear hK K
      try simp only [Act.put, List.setIfInBounds_toArray, List.set_cons_zero, List.set_cons_succ]
      refine wpAnyH_take (i := 15) (oi := ⟨some 52, Op.call { callee := Callee.builtin Builtin.len, args := #[Operand.tmp 51], argTypes := #[48] }, 3, _, _, none⟩) (v := ?v15n1k16) rfl (by kernel_rfl) (by kernel_rfl) (by kernel_rfl) (fun _ _ _ h => h) (Or.inl ⟨by rfl, ?y15n1k16⟩) hHeld ?z15n1k16
      case y15n1k16 => intro w hSw; (try dsimp only at hSw); go_simp <;> rfl
      try simp only [Act.put, List.setIfInBounds_toArray, List.set_cons_zero, List.set_cons_succ]
      refine wpAnyH_done (by kernel_rfl) ?_ _
      refine NoPanic.normal ?_
      go_wp2
      go_meet
      case rel => exact ⟨w13.heap.size, [⟨a, n, c, L⟩, ⟨some ⟨g, 0, none⟩, N, c4, x.bytes.set k z⟩, ⟨A, k, c1, x.bytes.take k⟩, ⟨A13, N + 1, c13, x.bytes ++ [by_]⟩], rfl, rfl, rfl, Lib.hid rfl, G14, K14⟩
  case rest =>
    obtain ⟨G, ys, rfl, rfl, rfl, HY, HF, HK⟩ := hcut
    clear HH K2 K5 S5 XR HN t1
    go_wp2
    go_loopw [53] (fun v wr => ∃ (i : Nat), i ≤ 4 ∧ v = .int .i64 (i : Int) ∧ Hid (Kept noBlock wc wr)) (fun v _ => 4 - (intOf v).toNat)
    case atStart => exact ⟨0, by omega, rfl, Kept.refl _ _⟩
    case round =>
      obtain ⟨i, hi, rfl, HKr⟩ := hrel
      by_cases hlt : i < 4
      · obtain ⟨y, hy⟩ : ∃ y, ys[i]? = some y := ⟨_, List.getElem?_eq_getElem (by rw [HY.out]; exact hlt)⟩
        obtain ⟨hcell, hlie⟩ := HF.out i y hy
        have hc := HKr.out.cell hcell (fun h => h)
        have HL := Lib.hid (hlie.keep HKr.out)
        clear hcell hlie hy
        obtain ⟨ya, yn, yc, yl⟩ := y
        simp only [RowV.val] at hc
        go_wp2_with fail
        refine (read_any (fun _ => True) ya yn yc yl wr HL.out.lies HL.out.len HL.out.small).mono ?_
        obtain ⟨E, hE⟩ : ∃ E, gotE yl = E := ⟨_, rfl⟩
        obtain ⟨ok, hok⟩ : ∃ ok, gotB yl = ok := ⟨_, rfl⟩
        rw [hE, hok]
        rintro e w2 ⟨rfl, k2⟩
        have HL2 := Lib.hid (HL.out.keep k2)
        have K2 := Lib.hid (HKr.out.step k2)
        have HE := Lib.hid hE
        have HOK := Lib.hid hok
        clear hE hok k2 hc HL
        unfold EntryV.val
        go_upto_region 12 with (fail)
        have B3 : Hid ((w2.alloc (.cells E.cells.toArray 32)).heap[w2.heap.size]? = some (.cells E.cells.toArray 32 (0, 0))) := heap_alloc_new w2 (.cells E.cells.toArray 32)
        have K3 : Hid (Kept noBlock wc (w2.alloc (.cells E.cells.toArray 32))) := K2.out.step (Kept.alloc noBlock w2 _)
        have HL3 := Lib.hid (HL2.out.keep (Kept.alloc noBlock w2 (.cells E.cells.toArray 32)))
        unfold EntryV.cells at B3 K3 HL3
        obtain ⟨B, hB⟩ : ∃ B, B = w2.heap.size := ⟨_, rfl⟩
        rw [← hB] at B3 ⊢
        clear hB
        generalize w2.alloc (.cells [.int .i64 E.index, .int .i64 E.term, .int .i64 E.cmd.op, .int .i64 E.cmd.client, .int .i64 E.cmd.seq, .string E.cmd.key, .string E.cmd.value, .string E.cmd.old].toArray 32) = w3 at B3 K3 HL3 ⊢
        have HSS : Hid (∀ w', Kept noBlock w3 w' → w'.cell? ⟨B, 0, none⟩ = some (.int .i64 E.index) ∧ w'.cell? ⟨B, 1, none⟩ = some (.int .i64 E.term) ∧ w'.cell? ⟨B, 2, none⟩ = some (.int .i64 E.cmd.op) ∧ w'.cell? ⟨B, 3, none⟩ = some (.int .i64 E.cmd.client) ∧ w'.cell? ⟨B, 4, none⟩ = some (.int .i64 E.cmd.seq) ∧ w'.cell? ⟨B, 5, none⟩ = some (.string E.cmd.key) ∧ w'.cell? ⟨B, 6, none⟩ = some (.string E.cmd.value) ∧ w'.cell? ⟨B, 7, none⟩ = some (.string E.cmd.old)) := fun w' k => ent_cells (e := E) (k.blk B3.out (fun h => h))
        cases ok
        · have hE0 : E = noEntry := by rw [← HE.out]; exact gotB_none HOK.out
          have heq := fun w => entry_neq w E noEntry
          have hs : E.same noEntry = true := by rw [hE0]; exact EntryV.same_self _
          rw [hs] at heq
          unfold EntryV.val noEntry noCmd at heq
          clear hs hE0
          refine wp_region_noPanic ?_
          refine wp_region_held_drew (S := fun w' => w'.cell? ⟨B, 0, none⟩ = some (.int .i64 E.index) ∧ w'.cell? ⟨B, 1, none⟩ = some (.int .i64 E.term) ∧ w'.cell? ⟨B, 2, none⟩ = some (.int .i64 E.cmd.op) ∧ w'.cell? ⟨B, 3, none⟩ = some (.int .i64 E.cmd.client) ∧ w'.cell? ⟨B, 4, none⟩ = some (.int .i64 E.cmd.seq) ∧ w'.cell? ⟨B, 5, none⟩ = some (.string E.cmd.key) ∧ w'.cell? ⟨B, 6, none⟩ = some (.string E.cmd.value) ∧ w'.cell? ⟨B, 7, none⟩ = some (.string E.cmd.old)) (by kernel_rfl) (HSS.out _ (Kept.drew _ _)) (fun hHeld => ?_)
          refine wpAnyH_take (i := 0) (oi := ⟨some 62, Op.move (Operand.tmp 14), 4, _, _, none⟩) (v := ?v0n2k1) rfl (by kernel_rfl) (by kernel_rfl) (by kernel_rfl) (fun _ _ _ h => h) (Or.inl ⟨by rfl, ?y0n2k1⟩) hHeld ?z0n2k1
          case y0n2k1 => intro w hSw; (try dsimp only at hSw); go_simp <;> rfl
          try simp only [Act.put, List.setIfInBounds_toArray, List.set_cons_zero, List.set_cons_succ]
          refine wpAnyH_take (i := 1) (oi := ⟨some 63, Op.move (Operand.tmp 62), 4, _, _, none⟩) (v := ?v1n2k2) rfl (by kernel_rfl) (by kernel_rfl) (by kernel_rfl) (fun _ _ _ h => h) (Or.inl ⟨by rfl, ?y1n2k2⟩) hHeld ?z1n2k2
          case y1n2k2 => intro w hSw; (try dsimp only at hSw); go_simp <;> rfl
          try simp only [Act.put, List.setIfInBounds_toArray, List.set_cons_zero, List.set_cons_succ]
          refine wpAnyH_take (i := 2) (oi := ⟨some 64, Op.load 32 (Operand.tmp 13), 32, _, _, some (1, true)⟩) (v := undef) rfl (by kernel_rfl) (by kernel_rfl) (by kernel_rfl) (fun _ _ _ h => h) (Or.inr ⟨by rfl, rfl⟩) hHeld ?z2n2k3
          try simp only [Act.put, List.setIfInBounds_toArray, List.set_cons_zero, List.set_cons_succ]
          refine wpAnyH_take (i := 3) (oi := ⟨some 65, Op.call { callee := Callee.value (Operand.func 15), args := #[Operand.tmp 64], argTypes := #[32] }, 4, _, _, some (1, true)⟩) (v := undef) rfl (by kernel_rfl) (by kernel_rfl) (by kernel_rfl) (fun _ _ _ h => h) (Or.inr ⟨by rfl, rfl⟩) hHeld ?z3n2k4
          try simp only [Act.put, List.setIfInBounds_toArray, List.set_cons_zero, List.set_cons_succ]
          refine wpAnyH_take (i := 4) (oi := ⟨some 66, Op.unOp UnOp.not 4 (Operand.tmp 65), 4, _, _, some (1, true)⟩) (v := undef) rfl (by kernel_rfl) (by kernel_rfl) (by kernel_rfl) (fun _ _ _ h => h) (Or.inr ⟨by rfl, rfl⟩) hHeld ?z4n2k5
          try simp only [Act.put, List.setIfInBounds_toArray, List.set_cons_zero, List.set_cons_succ]
          refine wpAnyH_take (i := 5) (oi := ⟨some 67, Op.move (Operand.tmp 66), 4, _, _, some (1, true)⟩) (v := undef) rfl (by kernel_rfl) (by kernel_rfl) (by kernel_rfl) (fun _ _ _ h => h) (Or.inr ⟨by rfl, rfl⟩) hHeld ?z5n2k6
          try simp only [Act.put, List.setIfInBounds_toArray, List.set_cons_zero, List.set_cons_succ]
          refine wpAnyH_take (i := 6) (oi := ⟨some 68, Op.load 32 (Operand.tmp 13), 32, _, _, some (5, false)⟩) (v := undef) rfl (by kernel_rfl) (by kernel_rfl) (by kernel_rfl) (fun _ _ _ h => h) (Or.inr ⟨by rfl, rfl⟩) hHeld ?z6n2k7
          try simp only [Act.put, List.setIfInBounds_toArray, List.set_cons_zero, List.set_cons_succ]
          refine wpAnyH_take (i := 7) (oi := ⟨some 69, Op.call { callee := Callee.value (Operand.func 20), args := #[Operand.tmp 68], argTypes := #[32] }, 9, _, _, some (5, false)⟩) (v := undef) rfl (by kernel_rfl) (by kernel_rfl) (by kernel_rfl) (fun _ _ _ h => h) (Or.inr ⟨by rfl, rfl⟩) hHeld ?z7n2k8
          try simp only [Act.put, List.setIfInBounds_toArray, List.set_cons_zero, List.set_cons_succ]
          refine wpAnyH_take (i := 8) (oi := ⟨some 70, Op.move (Operand.tmp 12), 42, _, _, some (5, false)⟩) (v := undef) rfl (by kernel_rfl) (by kernel_rfl) (by kernel_rfl) (fun _ _ _ h => h) (Or.inr ⟨by rfl, rfl⟩) hHeld ?z8n2k9
          try simp only [Act.put, List.setIfInBounds_toArray, List.set_cons_zero, List.set_cons_succ]
          refine wpAnyH_take (i := 9) (oi := ⟨some 71, Op.convert 42 9 (Operand.tmp 70), 9, _, _, some (5, false)⟩) (v := undef) rfl (by kernel_rfl) (by kernel_rfl) (by kernel_rfl) (fun _ _ _ h => h) (Or.inr ⟨by rfl, rfl⟩) hHeld ?z9n2k10
          try simp only [Act.put, List.setIfInBounds_toArray, List.set_cons_zero, List.set_cons_succ]
          refine wpAnyH_take (i := 10) (oi := ⟨some 72, Op.binOp BinOp.neq 9 (Operand.tmp 69) (Operand.tmp 71) 9, 4, _, _, some (5, false)⟩) (v := undef) rfl (by kernel_rfl) (by kernel_rfl) (by kernel_rfl) (fun _ _ _ h => h) (Or.inr ⟨by rfl, rfl⟩) hHeld ?z10n2k11
          try simp only [Act.put, List.setIfInBounds_toArray, List.set_cons_zero, List.set_cons_succ]
          refine wpAnyH_take (i := 11) (oi := ⟨some 73, Op.pick (Operand.tmp 67) (Operand.const (Value.bool true)) (Operand.tmp 72), 4, _, _, some (1, true)⟩) (v := undef) rfl (by kernel_rfl) (by kernel_rfl) (by kernel_rfl) (fun _ _ _ h => h) (Or.inr ⟨by rfl, rfl⟩) hHeld ?z11n2k12
          try simp only [Act.put, List.setIfInBounds_toArray, List.set_cons_zero, List.set_cons_succ]
          refine wpAnyH_take (i := 12) (oi := ⟨some 74, Op.pick (Operand.tmp 63) (Operand.tmp 73) (Operand.const (Value.bool false)), 4, _, _, none⟩) (v := ?v12n2k13) rfl (by kernel_rfl) (by kernel_rfl) (by kernel_rfl) (fun _ _ _ h => h) (Or.inl ⟨by rfl, ?y12n2k13⟩) hHeld ?z12n2k13
          case y12n2k13 => intro w hSw; (try dsimp only at hSw); go_simp <;> rfl
          try simp only [Act.put, List.setIfInBounds_toArray, List.set_cons_zero, List.set_cons_succ]
          refine wpAnyH_take (i := 13) (oi := ⟨some 75, Op.move (Operand.tmp 74), 4, _, _, none⟩) (v := ?v13n2k14) rfl (by kernel_rfl) (by kernel_rfl) (by kernel_rfl) (fun _ _ _ h => h) (Or.inl ⟨by rfl, ?y13n2k14⟩) hHeld ?z13n2k14
          case y13n2k14 => intro w hSw; (try dsimp only at hSw); go_simp <;> rfl
          try simp only [Act.put, List.setIfInBounds_toArray, List.set_cons_zero, List.set_cons_succ]
          refine wpAnyH_take (i := 14) (oi := ⟨some 76, Op.move (Operand.tmp 14), 4, _, _, some (13, false)⟩) (v := ?v14n2k15) rfl (by kernel_rfl) (by kernel_rfl) (by kernel_rfl) (fun _ _ _ h => h) (Or.inl ⟨by rfl, ?y14n2k15⟩) hHeld ?z14n2k15
          case y14n2k15 => intro w hSw; (try dsimp only at hSw); go_simp <;> rfl
          try simp only [Act.put, List.setIfInBounds_toArray, List.set_cons_zero, List.set_cons_succ]
          refine wpAnyH_take (i := 15) (oi := ⟨some 77, Op.unOp UnOp.not 4 (Operand.tmp 76), 4, _, _, some (13, false)⟩) (v := ?v15n2k16) rfl (by kernel_rfl) (by kernel_rfl) (by kernel_rfl) (fun _ _ _ h => h) (Or.inl ⟨by rfl, ?y15n2k16⟩) hHeld ?z15n2k16
          case y15n2k16 => intro w hSw; (try dsimp only at hSw); go_simp <;> rfl
          try simp only [Act.put, List.setIfInBounds_toArray, List.set_cons_zero, List.set_cons_succ]
          refine wpAnyH_take (i := 16) (oi := ⟨some 78, Op.move (Operand.tmp 77), 4, _, _, some (13, false)⟩) (v := ?v16n2k17) rfl (by kernel_rfl) (by kernel_rfl) (by kernel_rfl) (fun _ _ _ h => h) (Or.inl ⟨by rfl, ?y16n2k17⟩) hHeld ?z16n2k17
          case y16n2k17 => intro w hSw; (try dsimp only at hSw); go_simp <;> rfl
          try simp only [Act.put, List.setIfInBounds_toArray, List.set_cons_zero, List.set_cons_succ]
          refine wpAnyH_take (i := 17) (oi := ⟨some 79, Op.load 32 (Operand.tmp 13), 32, _, _, some (16, true)⟩) (v := ?v17n2k18) rfl (by kernel_rfl) (by kernel_rfl) (by kernel_rfl) (fun _ _ _ h => h) (Or.inl ⟨by rfl, ?y17n2k18⟩) hHeld ?z17n2k18
          case y17n2k18 => intro w hSw; (try dsimp only at hSw); go_simp <;> rfl
          try simp only [Act.put, List.setIfInBounds_toArray, List.set_cons_zero, List.set_cons_succ]
          refine wpAnyH_take (i := 18) (oi := ⟨some 80, Op.build 32 #[], 32, _, _, some (16, true)⟩) (v := ?v18n2k19) rfl (by kernel_rfl) (by kernel_rfl) (by kernel_rfl) (fun _ _ _ h => h) (Or.inl ⟨by rfl, ?y18n2k19⟩) hHeld ?z18n2k19
          case y18n2k19 => intro w hSw; (try dsimp only at hSw); go_simp <;> rfl
          try simp only [Act.put, List.setIfInBounds_toArray, List.set_cons_zero, List.set_cons_succ]
          refine wpAnyH_take (i := 19) (oi := ⟨some 81, Op.binOp BinOp.neq 32 (Operand.tmp 79) (Operand.tmp 80) 32, 4, _, _, some (16, true)⟩) (v := ?v19n2k20) rfl (by kernel_rfl) (by kernel_rfl) (by kernel_rfl) (fun _ _ _ h => h) (Or.inl ⟨by rfl, ?y19n2k20⟩) hHeld ?z19n2k20
          case y19n2k20 => intro w hSw; (try dsimp only at hSw); go_simp <;> rfl
          try simp only [Act.put, List.setIfInBounds_toArray, List.set_cons_zero, List.set_cons_succ]
          refine wpAnyH_take (i := 20) (oi := ⟨some 82, Op.pick (Operand.tmp 78) (Operand.tmp 81) (Operand.const (Value.bool false)), 4, _, _, some (13, false)⟩) (v := ?v20n2k21) rfl (by kernel_rfl) (by kernel_rfl) (by kernel_rfl) (fun _ _ _ h => h) (Or.inl ⟨by rfl, ?y20n2k21⟩) hHeld ?z20n2k21
          case y20n2k21 => intro w hSw; (try dsimp only at hSw); go_simp <;> rfl
          try simp only [Act.put, List.setIfInBounds_toArray, List.set_cons_zero, List.set_cons_succ]
          refine wpAnyH_take (i := 21) (oi := ⟨some 83, Op.pick (Operand.tmp 75) (Operand.const (Value.bool true)) (Operand.tmp 82), 4, _, _, none⟩) (v := ?v21n2k22) rfl (by kernel_rfl) (by kernel_rfl) (by kernel_rfl) (fun _ _ _ h => h) (Or.inl ⟨by rfl, ?y21n2k22⟩) hHeld ?z21n2k22
          case y21n2k22 => intro w hSw; (try dsimp only at hSw); go_simp <;> rfl
          try simp only [Act.put, List.setIfInBounds_toArray, List.set_cons_zero, List.set_cons_succ]
          refine wpAnyH_done (by kernel_rfl) ?_ _
          refine NoPanic.normal ?_
          go_wp2
          go_roundw
          case rel => exact ⟨i + 1, by omega, by go_num, Lib.hid (K3.out.step (Kept.drew _ _))⟩
          case measure => simp [intOf]; omega
        · obtain ⟨hr, hby⟩ := gotB_some HOK.out
          rw [HE.out] at hr hby
          have hri := ref_right E
          rw [decide_eq_true hr] at hri
          have hbl := hr.bounds
          have hll := E.bytes_length
          have hrb := fun w => ref_bytes E w (by omega)
          rw [hby] at hrb
          obtain ⟨X, hX⟩ : ∃ X, X = str yl := ⟨_, rfl⟩
          rw [← hX] at hrb
          have CV : Hid (∀ w', Kept noBlock w3 w' → (∀ c, (convert 42 9 (.slice ya yn c)).run Try.prog w' = .ok (.string X) w')) := fun w' kk => by
            rw [hX]
            have hl9 := HL3.out.keep kk
            exact fun c => run_str_lies (P := Try.prog) 42 9 5 Try.underlying42 Try.underlying5 Try.underlying9 hl9.lies hl9.len c
          unfold EntryV.val at hri hrb
          clear hX hr hby hbl hll
          refine wp_region_noPanic ?_
          refine wp_region_held_drew (S := fun w' => (w'.cell? ⟨B, 0, none⟩ = some (.int .i64 E.index) ∧ w'.cell? ⟨B, 1, none⟩ = some (.int .i64 E.term) ∧ w'.cell? ⟨B, 2, none⟩ = some (.int .i64 E.cmd.op) ∧ w'.cell? ⟨B, 3, none⟩ = some (.int .i64 E.cmd.client) ∧ w'.cell? ⟨B, 4, none⟩ = some (.int .i64 E.cmd.seq) ∧ w'.cell? ⟨B, 5, none⟩ = some (.string E.cmd.key) ∧ w'.cell? ⟨B, 6, none⟩ = some (.string E.cmd.value) ∧ w'.cell? ⟨B, 7, none⟩ = some (.string E.cmd.old)) ∧ (∀ c, (convert 42 9 (.slice ya yn c)).run Try.prog w' = .ok (.string X) w')) (by kernel_rfl) ⟨HSS.out _ (Kept.drew _ _), CV.out _ (Kept.drew _ _)⟩ (fun hHeld => ?_)
          refine wpAnyH_take (i := 0) (oi := ⟨some 62, Op.move (Operand.tmp 14), 4, _, _, none⟩) (v := ?v0n3k1) rfl (by kernel_rfl) (by kernel_rfl) (by kernel_rfl) (fun _ _ _ h => h) (Or.inl ⟨by rfl, ?y0n3k1⟩) hHeld ?z0n3k1
          case y0n3k1 => intro w hSw; (try dsimp only at hSw); go_simp <;> rfl
          try simp only [Act.put, List.setIfInBounds_toArray, List.set_cons_zero, List.set_cons_succ]
          refine wpAnyH_take (i := 1) (oi := ⟨some 63, Op.move (Operand.tmp 62), 4, _, _, none⟩) (v := ?v1n3k2) rfl (by kernel_rfl) (by kernel_rfl) (by kernel_rfl) (fun _ _ _ h => h) (Or.inl ⟨by rfl, ?y1n3k2⟩) hHeld ?z1n3k2
          case y1n3k2 => intro w hSw; (try dsimp only at hSw); go_simp <;> rfl
          try simp only [Act.put, List.setIfInBounds_toArray, List.set_cons_zero, List.set_cons_succ]
          refine wpAnyH_take (i := 2) (oi := ⟨some 64, Op.load 32 (Operand.tmp 13), 32, _, _, some (1, true)⟩) (v := ?v2n3k3) rfl (by kernel_rfl) (by kernel_rfl) (by kernel_rfl) (fun _ _ _ h => h) (Or.inl ⟨by rfl, ?y2n3k3⟩) hHeld ?z2n3k3
          case y2n3k3 => intro w hSw; (try dsimp only at hSw); go_simp <;> rfl
          try simp only [Act.put, List.setIfInBounds_toArray, List.set_cons_zero, List.set_cons_succ]
          refine wpAnyH_ready (rs := [3]) (by kernel_rfl) (by simp) ?_
          refine AllReadyH.cons (o := ⟨some 65, Op.call { callee := Callee.value (Operand.func 15), args := #[Operand.tmp 64], argTypes := #[32] }, 4, _, _, some (1, true)⟩) rfl (fun K hK => ?_) AllReadyH.nil
          go_simp
          refine (hri _).mono ?_
          rintro e w4 ⟨rfl, k4⟩
          have K4 := Lib.hid ((Kept.drew noBlock w3).step k4)
          clear k4
          dsimp only
          refine hK.out _ _ ⟨HSS.out _ K4.out, CV.out _ K4.out⟩ (fun hHeld => ?_)
          clear hK K
          try simp only [Act.put, List.setIfInBounds_toArray, List.set_cons_zero, List.set_cons_succ]
          refine wpAnyH_take (i := 4) (oi := ⟨some 66, Op.unOp UnOp.not 4 (Operand.tmp 65), 4, _, _, some (1, true)⟩) (v := ?v4n3k4) rfl (by kernel_rfl) (by kernel_rfl) (by kernel_rfl) (fun _ _ _ h => h) (Or.inl ⟨by rfl, ?y4n3k4⟩) hHeld ?z4n3k4
          case y4n3k4 => intro w hSw; (try dsimp only at hSw); go_simp <;> rfl
          try simp only [Act.put, List.setIfInBounds_toArray, List.set_cons_zero, List.set_cons_succ]
          refine wpAnyH_take (i := 5) (oi := ⟨some 67, Op.move (Operand.tmp 66), 4, _, _, some (1, true)⟩) (v := ?v5n3k5) rfl (by kernel_rfl) (by kernel_rfl) (by kernel_rfl) (fun _ _ _ h => h) (Or.inl ⟨by rfl, ?y5n3k5⟩) hHeld ?z5n3k5
          case y5n3k5 => intro w hSw; (try dsimp only at hSw); go_simp <;> rfl
          try simp only [Act.put, List.setIfInBounds_toArray, List.set_cons_zero, List.set_cons_succ]
          refine wpAnyH_take (i := 6) (oi := ⟨some 68, Op.load 32 (Operand.tmp 13), 32, _, _, some (5, false)⟩) (v := ?v6n3k6) rfl (by kernel_rfl) (by kernel_rfl) (by kernel_rfl) (fun _ _ _ h => h) (Or.inl ⟨by rfl, ?y6n3k6⟩) hHeld ?z6n3k6
          case y6n3k6 => intro w hSw; (try dsimp only at hSw); go_simp <;> rfl
          try simp only [Act.put, List.setIfInBounds_toArray, List.set_cons_zero, List.set_cons_succ]
          refine wpAnyH_take (i := 8) (oi := ⟨some 70, Op.move (Operand.tmp 12), 42, _, _, some (5, false)⟩) (v := ?v8n3k7) rfl (by kernel_rfl) (by kernel_rfl) (by kernel_rfl) (fun _ _ _ h => h) (Or.inl ⟨by rfl, ?y8n3k7⟩) hHeld ?z8n3k7
          case y8n3k7 => intro w hSw; (try dsimp only at hSw); go_simp <;> rfl
          try simp only [Act.put, List.setIfInBounds_toArray, List.set_cons_zero, List.set_cons_succ]
          refine wpAnyH_take (i := 9) (oi := ⟨some 71, Op.convert 42 9 (Operand.tmp 70), 9, _, _, some (5, false)⟩) (v := ?v9n3k8) rfl (by kernel_rfl) (by kernel_rfl) (by kernel_rfl) (fun _ _ _ h => h) (Or.inl ⟨by rfl, ?y9n3k8⟩) hHeld ?z9n3k8
          case y9n3k8 => intro w hSw; (try dsimp only at hSw); go_simp <;> rfl
          try simp only [Act.put, List.setIfInBounds_toArray, List.set_cons_zero, List.set_cons_succ]
          refine wpAnyH_ready (rs := [7]) (by kernel_rfl) (by simp) ?_
          refine AllReadyH.cons (o := ⟨some 69, Op.call { callee := Callee.value (Operand.func 20), args := #[Operand.tmp 68], argTypes := #[32] }, 9, _, _, some (5, false)⟩) rfl (fun K hK => ?_) AllReadyH.nil
          go_simp
          refine (hrb _).mono ?_
          rintro e w5 ⟨rfl, k5⟩
          have K5 := Lib.hid (K4.out.step k5)
          clear k5
          dsimp only
          refine hK.out _ _ ⟨HSS.out _ K5.out, CV.out _ K5.out⟩ (fun hHeld => ?_)
          clear hK K
          try simp only [Act.put, List.setIfInBounds_toArray, List.set_cons_zero, List.set_cons_succ]
          refine wpAnyH_take (i := 10) (oi := ⟨some 72, Op.binOp BinOp.neq 9 (Operand.tmp 69) (Operand.tmp 71) 9, 4, _, _, some (5, false)⟩) (v := ?v10n3k9) rfl (by kernel_rfl) (by kernel_rfl) (by kernel_rfl) (fun _ _ _ h => h) (Or.inl ⟨by rfl, ?y10n3k9⟩) hHeld ?z10n3k9
          case y10n3k9 => intro w hSw; (try dsimp only at hSw); go_simp <;> rfl
          try simp only [Act.put, List.setIfInBounds_toArray, List.set_cons_zero, List.set_cons_succ]
          refine wpAnyH_take (i := 11) (oi := ⟨some 73, Op.pick (Operand.tmp 67) (Operand.const (Value.bool true)) (Operand.tmp 72), 4, _, _, some (1, true)⟩) (v := ?v11n3k10) rfl (by kernel_rfl) (by kernel_rfl) (by kernel_rfl) (fun _ _ _ h => h) (Or.inl ⟨by rfl, ?y11n3k10⟩) hHeld ?z11n3k10
          case y11n3k10 => intro w hSw; (try dsimp only at hSw); go_simp <;> rfl
          try simp only [Act.put, List.setIfInBounds_toArray, List.set_cons_zero, List.set_cons_succ]
          refine wpAnyH_take (i := 12) (oi := ⟨some 74, Op.pick (Operand.tmp 63) (Operand.tmp 73) (Operand.const (Value.bool false)), 4, _, _, none⟩) (v := ?v12n3k11) rfl (by kernel_rfl) (by kernel_rfl) (by kernel_rfl) (fun _ _ _ h => h) (Or.inl ⟨by rfl, ?y12n3k11⟩) hHeld ?z12n3k11
          case y12n3k11 => intro w hSw; (try dsimp only at hSw); go_simp <;> rfl
          try simp only [Act.put, List.setIfInBounds_toArray, List.set_cons_zero, List.set_cons_succ]
          refine wpAnyH_take (i := 13) (oi := ⟨some 75, Op.move (Operand.tmp 74), 4, _, _, none⟩) (v := ?v13n3k12) rfl (by kernel_rfl) (by kernel_rfl) (by kernel_rfl) (fun _ _ _ h => h) (Or.inl ⟨by rfl, ?y13n3k12⟩) hHeld ?z13n3k12
          case y13n3k12 => intro w hSw; (try dsimp only at hSw); go_simp <;> rfl
          try simp only [Act.put, List.setIfInBounds_toArray, List.set_cons_zero, List.set_cons_succ]
          refine wpAnyH_take (i := 14) (oi := ⟨some 76, Op.move (Operand.tmp 14), 4, _, _, some (13, false)⟩) (v := ?v14n3k13) rfl (by kernel_rfl) (by kernel_rfl) (by kernel_rfl) (fun _ _ _ h => h) (Or.inl ⟨by rfl, ?y14n3k13⟩) hHeld ?z14n3k13
          case y14n3k13 => intro w hSw; (try dsimp only at hSw); go_simp <;> rfl
          try simp only [Act.put, List.setIfInBounds_toArray, List.set_cons_zero, List.set_cons_succ]
          refine wpAnyH_take (i := 15) (oi := ⟨some 77, Op.unOp UnOp.not 4 (Operand.tmp 76), 4, _, _, some (13, false)⟩) (v := ?v15n3k14) rfl (by kernel_rfl) (by kernel_rfl) (by kernel_rfl) (fun _ _ _ h => h) (Or.inl ⟨by rfl, ?y15n3k14⟩) hHeld ?z15n3k14
          case y15n3k14 => intro w hSw; (try dsimp only at hSw); go_simp <;> rfl
          try simp only [Act.put, List.setIfInBounds_toArray, List.set_cons_zero, List.set_cons_succ]
          refine wpAnyH_take (i := 16) (oi := ⟨some 78, Op.move (Operand.tmp 77), 4, _, _, some (13, false)⟩) (v := ?v16n3k15) rfl (by kernel_rfl) (by kernel_rfl) (by kernel_rfl) (fun _ _ _ h => h) (Or.inl ⟨by rfl, ?y16n3k15⟩) hHeld ?z16n3k15
          case y16n3k15 => intro w hSw; (try dsimp only at hSw); go_simp <;> rfl
          try simp only [Act.put, List.setIfInBounds_toArray, List.set_cons_zero, List.set_cons_succ]
          refine wpAnyH_take (i := 17) (oi := ⟨some 79, Op.load 32 (Operand.tmp 13), 32, _, _, some (16, true)⟩) (v := undef) rfl (by kernel_rfl) (by kernel_rfl) (by kernel_rfl) (fun _ _ _ h => h) (Or.inr ⟨by rfl, rfl⟩) hHeld ?z17n3k16
          try simp only [Act.put, List.setIfInBounds_toArray, List.set_cons_zero, List.set_cons_succ]
          refine wpAnyH_take (i := 18) (oi := ⟨some 80, Op.build 32 #[], 32, _, _, some (16, true)⟩) (v := undef) rfl (by kernel_rfl) (by kernel_rfl) (by kernel_rfl) (fun _ _ _ h => h) (Or.inr ⟨by rfl, rfl⟩) hHeld ?z18n3k17
          try simp only [Act.put, List.setIfInBounds_toArray, List.set_cons_zero, List.set_cons_succ]
          refine wpAnyH_take (i := 19) (oi := ⟨some 81, Op.binOp BinOp.neq 32 (Operand.tmp 79) (Operand.tmp 80) 32, 4, _, _, some (16, true)⟩) (v := undef) rfl (by kernel_rfl) (by kernel_rfl) (by kernel_rfl) (fun _ _ _ h => h) (Or.inr ⟨by rfl, rfl⟩) hHeld ?z19n3k18
          try simp only [Act.put, List.setIfInBounds_toArray, List.set_cons_zero, List.set_cons_succ]
          refine wpAnyH_take (i := 20) (oi := ⟨some 82, Op.pick (Operand.tmp 78) (Operand.tmp 81) (Operand.const (Value.bool false)), 4, _, _, some (13, false)⟩) (v := ?v20n3k19) rfl (by kernel_rfl) (by kernel_rfl) (by kernel_rfl) (fun _ _ _ h => h) (Or.inl ⟨by rfl, ?y20n3k19⟩) hHeld ?z20n3k19
          case y20n3k19 => intro w hSw; (try dsimp only at hSw); go_simp <;> rfl
          try simp only [Act.put, List.setIfInBounds_toArray, List.set_cons_zero, List.set_cons_succ]
          refine wpAnyH_take (i := 21) (oi := ⟨some 83, Op.pick (Operand.tmp 75) (Operand.const (Value.bool true)) (Operand.tmp 82), 4, _, _, none⟩) (v := ?v21n3k20) rfl (by kernel_rfl) (by kernel_rfl) (by kernel_rfl) (fun _ _ _ h => h) (Or.inl ⟨by rfl, ?y21n3k20⟩) hHeld ?z21n3k20
          case y21n3k20 => intro w hSw; (try dsimp only at hSw); go_simp <;> rfl
          try simp only [Act.put, List.setIfInBounds_toArray, List.set_cons_zero, List.set_cons_succ]
          refine wpAnyH_done (by kernel_rfl) ?_ _
          refine NoPanic.normal ?_
          go_wp2
          go_roundw
          case rel => exact ⟨i + 1, by omega, by go_num, Lib.hid (K3.out.step K5.out)⟩
          case measure => simp [intOf]; omega
      · obtain rfl : i = 4 := by omega
        go_wp2
        go_ret
        exact ⟨rfl, HK.out.step HKr.out⟩

end Go.Proofs.Ytgffdobhdkieaaa
