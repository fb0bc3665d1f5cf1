/-
  The walk of StateBytes. No statement is proved here.
-/
import Derived.Test.YtgmjnjbmolalmaaStRound
import Derived.Test.YtgmjnjbmolalmaaL7Lays
import Derived.Test.YtgmjnjbmolalmaaL7Right
import Derived.Test.YtgmjnjbmolalmaaLate
namespace Go.Proofs.Ytgmjnjbmolalmaa
open Go.RowKit Tot

/-- A state that is a value. -/
structure StA where
  s : StV
  A : Option Addr
  c : Nat
  B : Option Addr
  d : Nat
def StA.enc (y : StA) : List Value := [.int .i64 y.s.index, .int .i64 y.s.term, .slice y.A y.s.pairs.length y.c, .slice y.B y.s.sess.length y.d]
theorem StA.enc_len (y : StA) : y.enc.length = 4 := rfl
structure StA.Lie (y : StA) (w : World) : Prop where
  sv : Sv w (fun _ => True) y.s y.A y.c y.B y.d
  small : y.s.bytes.length ≤ 1000000016
  lp : y.s.pairs.length ≤ 1000
  ls : y.s.sess.length ≤ 1000
theorem StA.Lie.keep {y : StA} {w w' : World} (h : y.Lie w) (k : Kept noBlock w w') : y.Lie w' := ⟨h.sv.kept k, h.small, h.lp, h.ls⟩
theorem pairs_small {ps : Prs} {xs : Sns} (h1 : ps.length ≤ 30) (h2 : xs.length ≤ 30) (hp : ∀ p ∈ ps, p.1.size ≤ 2000000 ∧ p.2.1.size ≤ 2000000) (hx : ∀ x ∈ xs, x.2.2.value.size ≤ 2000000) : (rowsB ps xs).length ≤ 1000000000 := by
  have a1 := flatMap_bound prB 4000017 ps (fun p h => by rw [prB_length]; have := hp p h; omega)
  have a2 := flatMap_bound snB 2000032 xs (fun x h => by rw [snB_length]; have := hx x h; omega)
  rw [rowsB_length]
  have : ps.length * 4000017 ≤ 30 * 4000017 := Nat.mul_le_mul_right _ h1
  have : xs.length * 2000032 ≤ 30 * 2000032 := Nat.mul_le_mul_right _ h2
  omega

set_option maxRecDepth 100000 in
set_option maxHeartbeats 4000000 in
theorem bytes7_walk (F : Nat → Prop) (a : Option Addr) (n cp : Nat) (ss : List SayV) (r : StV) (A0 : Option Addr) (c0 : Nat) (B0 : Option Addr) (d0 : Nat) (w : World) (h : Lies w F a (sayCells ss)) (hl : ss.length = n) (hnc : n ≤ cp) (hsv : Sv w F r A0 c0 B0 d0)
    (hp : ∀ p ∈ r.pairs, p.1.size ≤ 2000000 ∧ p.2.1.size ≤ 2000000) (hx : ∀ x ∈ r.sess, x.2.2.value.size ≤ 2000000) :
    Calls Try.prog 7 #[.slice a n cp, stv r A0 c0 B0 d0] w fun e w' => e = .returned (.bool true) ∧ Kept noBlock w w' := by
  have SO := Lib.hid (fun u (k : Kept noBlock w u) => some_any F a n cp ss u (h.keep k (fun _ _ h => h)) hl hnc)
  have xr := someV_right ss
  obtain ⟨s, hs⟩ : ∃ s, s = someV ss := ⟨_, rfl⟩
  rw [← hs] at SO xr
  obtain ⟨n0, hn0⟩ : ∃ n0, n0 = r.pairs.length := ⟨_, rfl⟩
  obtain ⟨m0, hm0⟩ : ∃ m0, m0 = r.sess.length := ⟨_, rfl⟩
  obtain ⟨n1, hn1⟩ : ∃ n1, n1 = min n0 30 := ⟨_, rfl⟩
  obtain ⟨m1, hm1⟩ : ∃ m1, m1 = min m0 30 := ⟨_, rfl⟩
  have q1 : (if (30 : Int) < (n0 : Int) then (30 : Int) else (n0 : Int)) = (n1 : Int) := by split <;> omega
  have q2 : (if (30 : Int) < (m0 : Int) then (30 : Int) else (m0 : Int)) = (m1 : Int) := by split <;> omega
  have i1 : (n1 : Int) ≤ c0 := by have := hsv.cp; omega
  have i2 : (m1 : Int) ≤ d0 := by have := hsv.cs; omega
  have SV : Hid (Sv w (fun _ => True) ⟨r.index, r.term, r.pairs.take n1, r.sess.take m1⟩ A0 c0 B0 d0) :=
    ⟨by show Lies w _ A0 (PR.cells (r.pairs.take n1)); rw [show PR.cells (r.pairs.take n1) = (PR.cells r.pairs).take (n1 * 3) from flat_take PR.enc_len _ _]; exact (hsv.lp.take _).mono (fun _ _ => trivial),
     by show Lies w _ B0 (SN.cells (r.sess.take m1)); rw [show SN.cells (r.sess.take m1) = (SN.cells r.sess).take (m1 * 4) from flat_take SN.enc_len _ _]; exact (hsv.ls.take _).mono (fun _ _ => trivial),
     by show (r.pairs.take n1).length ≤ c0; rw [List.length_take]; omega, by show (r.sess.take m1).length ≤ d0; rw [List.length_take]; omega⟩
  have hs1 := pairs_small (ps := r.pairs.take n1) (xs := r.sess.take m1) (by rw [List.length_take]; omega) (by rw [List.length_take]; omega) (fun p hh => hp p (List.mem_of_mem_take hh)) (fun x hh => hx x (List.mem_of_mem_take hh))
  have hl1 : (r.pairs.take n1).length = n1 := by rw [List.length_take]; omega
  have hl2 : (r.sess.take m1).length = m1 := by rw [List.length_take]; omega
  obtain ⟨P1, hP1⟩ : ∃ P, P = r.pairs.take n1 := ⟨_, rfl⟩
  obtain ⟨X1, hX1⟩ : ∃ X, X = r.sess.take m1 := ⟨_, rfl⟩
  rw [← hP1] at SV hs1 hl1
  rw [← hX1] at SV hs1 hl2
  have hn30 : n1 ≤ 30 := by omega
  have hm30 : m1 ≤ 30 := by omega
  obtain ⟨ri, hri⟩ : ∃ ri, ri = r.index := ⟨_, rfl⟩
  obtain ⟨rt, hrt⟩ : ∃ rt, rt = r.term := ⟨_, rfl⟩
  rw [← hri, ← hrt] at SV
  have HS1 := Lib.hid hs1
  have HL1 := Lib.hid hl1
  have HL2 := Lib.hid hl2
  have XR := Lib.hid xr
  unfold stv at SO ⊢
  rw [← hn0, ← hm0, ← hri, ← hrt]
  clear hP1 hX1 hp hx hn0 hm0 hn1 hm1 hsv hri hrt hs xr h hl hnc hs1 hl1 hl2
  have ka := Kept.alloc noBlock w (.cells #[.int .i64 ri, .int .i64 rt, .slice A0 n0 c0, .slice B0 m0 d0] 33)
  have ha := heap_alloc_new w (.cells #[.int .i64 ri, .int .i64 rt, .slice A0 n0 c0, .slice B0 m0 d0] 33)
  have KA := Lib.hid ka
  have HA := Lib.hid ha
  clear ka ha
  go_enter Try.func7, Try.ntmps7
  go_wp2_with fail
  refine (awake_any _).mono ?_
  rintro e w1 ⟨rfl, k1⟩
  have K1 := Lib.hid (KA.out.step k1)
  have H1 := Lib.hid (k1.blk HA.out (fun h => h))
  obtain ⟨R, hR⟩ : ∃ R, R = w.heap.size := ⟨_, rfl⟩
  have HR := Lib.hid hR
  rw [← hR] at H1 ⊢
  clear k1 KA HA hR
  obtain ⟨b0, b1, b2, b3⟩ := st_cells H1.out
  have hf : ∀ j, w1.frozen? ⟨R, j, none⟩ = false := fun j => frozen_of_row _ _ _ _ _ H1.out
  have f2 := hf 2
  have f3 := hf 3
  clear hf
  go_upto_region 3 with (fail)
  refine wp_region_noPanic ?_
  refine wp_region_any_drew (by kernel_rfl) ?_
  refine wpAny_late (fun w' => w'.cell? ⟨R, 2, none⟩ = some (.slice A0 n0 c0) ∧ w'.cell? ⟨R, 3, none⟩ = some (.slice B0 m0 d0)) 14 ⟨b2, b3⟩ (fun hHeld => ?_)
  refine wpAnyU_take (i := 0) (oi := ⟨some 12, Op.fieldAddr 33 (Operand.tmp 3) 2, 0, _, _, none⟩) (v := ?v0n21k1) rfl (by kernel_rfl) (by kernel_rfl) (by kernel_rfl) (fun _ _ _ h => h) (Or.inl ⟨by rfl, ?y0n21k1⟩) hHeld ?z0n21k1
  case y0n21k1 => intro w hSw; (try dsimp only at hSw); go_simp <;> rfl
  try simp only [Act.put, List.setIfInBounds_toArray, List.set_cons_zero, List.set_cons_succ]
  refine wpAnyU_take (i := 1) (oi := ⟨some 13, Op.load 30 (Operand.tmp 12), 30, _, _, none⟩) (v := ?v1n21k2) rfl (by kernel_rfl) (by kernel_rfl) (by kernel_rfl) (fun _ _ _ h => h) (Or.inl ⟨by rfl, ?y1n21k2⟩) hHeld ?z1n21k2
  case y1n21k2 => intro w hSw; (try dsimp only at hSw); go_simp <;> rfl
  try simp only [Act.put, List.setIfInBounds_toArray, List.set_cons_zero, List.set_cons_succ]
  refine wpAnyU_take (i := 2) (oi := ⟨some 14, Op.fieldAddr 33 (Operand.tmp 3) 2, 0, _, _, none⟩) (v := ?v2n21k3) rfl (by kernel_rfl) (by kernel_rfl) (by kernel_rfl) (fun _ _ _ h => h) (Or.inl ⟨by rfl, ?y2n21k3⟩) hHeld ?z2n21k3
  case y2n21k3 => intro w hSw; (try dsimp only at hSw); go_simp <;> rfl
  try simp only [Act.put, List.setIfInBounds_toArray, List.set_cons_zero, List.set_cons_succ]
  refine wpAnyU_take (i := 3) (oi := ⟨some 15, Op.load 30 (Operand.tmp 14), 30, _, _, none⟩) (v := ?v3n21k4) rfl (by kernel_rfl) (by kernel_rfl) (by kernel_rfl) (fun _ _ _ h => h) (Or.inl ⟨by rfl, ?y3n21k4⟩) hHeld ?z3n21k4
  case y3n21k4 => intro w hSw; (try dsimp only at hSw); go_simp <;> rfl
  try simp only [Act.put, List.setIfInBounds_toArray, List.set_cons_zero, List.set_cons_succ]
  refine wpAnyU_take (i := 4) (oi := ⟨some 16, Op.call { callee := Callee.builtin Builtin.len, args := #[Operand.tmp 15], argTypes := #[30] }, 3, _, _, none⟩) (v := ?v4n21k5) rfl (by kernel_rfl) (by kernel_rfl) (by kernel_rfl) (fun _ _ _ h => h) (Or.inl ⟨by rfl, ?y4n21k5⟩) hHeld ?z4n21k5
  case y4n21k5 => intro w hSw; (try dsimp only at hSw); go_simp <;> rfl
  try simp only [Act.put, List.setIfInBounds_toArray, List.set_cons_zero, List.set_cons_succ]
  refine wpAnyU_take (i := 5) (oi := ⟨some 17, Op.call { callee := Callee.builtin Builtin.min, args := #[Operand.tmp 16, Operand.const (Value.int IntKind.i64 30)], argTypes := #[3, 3] }, 3, _, _, none⟩) (v := ?v5n21k6) rfl (by kernel_rfl) (by kernel_rfl) (by kernel_rfl) (fun _ _ _ h => h) (Or.inl ⟨by rfl, ?y5n21k6⟩) hHeld ?z5n21k6
  case y5n21k6 => intro w hSw; (try dsimp only at hSw); go_simp <;> rfl
  try simp only [Act.put, List.setIfInBounds_toArray, List.set_cons_zero, List.set_cons_succ]
  refine wpAnyU_take (i := 6) (oi := ⟨some 18, Op.slice 30 (Operand.tmp 13) none (some (Operand.tmp 17)) none, 30, _, _, none⟩) (v := ?v6n21k7) rfl (by kernel_rfl) (by kernel_rfl) (by kernel_rfl) (fun _ _ _ h => h) (Or.inl ⟨by rfl, ?y6n21k7⟩) hHeld ?z6n21k7
  case y6n21k7 => intro w hSw; (try dsimp only at hSw); go_simp <;> rfl
  try simp only [Act.put, List.setIfInBounds_toArray, List.set_cons_zero, List.set_cons_succ]
  refine wpAnyU_take (i := 7) (oi := ⟨some 19, Op.fieldAddr 33 (Operand.tmp 3) 3, 0, _, _, none⟩) (v := ?v7n21k8) rfl (by kernel_rfl) (by kernel_rfl) (by kernel_rfl) (fun _ _ _ h => h) (Or.inl ⟨by rfl, ?y7n21k8⟩) hHeld ?z7n21k8
  case y7n21k8 => intro w hSw; (try dsimp only at hSw); go_simp <;> rfl
  try simp only [Act.put, List.setIfInBounds_toArray, List.set_cons_zero, List.set_cons_succ]
  refine wpAnyU_take (i := 8) (oi := ⟨some 20, Op.load 31 (Operand.tmp 19), 31, _, _, none⟩) (v := ?v8n21k9) rfl (by kernel_rfl) (by kernel_rfl) (by kernel_rfl) (fun _ _ _ h => h) (Or.inl ⟨by rfl, ?y8n21k9⟩) hHeld ?z8n21k9
  case y8n21k9 => intro w hSw; (try dsimp only at hSw); go_simp <;> rfl
  try simp only [Act.put, List.setIfInBounds_toArray, List.set_cons_zero, List.set_cons_succ]
  refine wpAnyU_take (i := 9) (oi := ⟨some 21, Op.fieldAddr 33 (Operand.tmp 3) 3, 0, _, _, none⟩) (v := ?v9n21k10) rfl (by kernel_rfl) (by kernel_rfl) (by kernel_rfl) (fun _ _ _ h => h) (Or.inl ⟨by rfl, ?y9n21k10⟩) hHeld ?z9n21k10
  case y9n21k10 => intro w hSw; (try dsimp only at hSw); go_simp <;> rfl
  try simp only [Act.put, List.setIfInBounds_toArray, List.set_cons_zero, List.set_cons_succ]
  refine wpAnyU_take (i := 10) (oi := ⟨some 22, Op.load 31 (Operand.tmp 21), 31, _, _, none⟩) (v := ?v10n21k11) rfl (by kernel_rfl) (by kernel_rfl) (by kernel_rfl) (fun _ _ _ h => h) (Or.inl ⟨by rfl, ?y10n21k11⟩) hHeld ?z10n21k11
  case y10n21k11 => intro w hSw; (try dsimp only at hSw); go_simp <;> rfl
  try simp only [Act.put, List.setIfInBounds_toArray, List.set_cons_zero, List.set_cons_succ]
  refine wpAnyU_take0 (i := 11) (oi := ⟨some 23, Op.call { callee := Callee.builtin Builtin.len, args := #[Operand.tmp 22], argTypes := #[31] }, 3, _, _, none⟩) (v := ?v11n21k12) rfl (by kernel_rfl) (by kernel_rfl) (by kernel_rfl) (fun _ _ _ h => h) (Or.inl ⟨by rfl, ?y11n21k12⟩) ?z11n21k12
  case y11n21k12 => intro w; go_simp <;> rfl
  try simp only [Act.put, List.setIfInBounds_toArray, List.set_cons_zero, List.set_cons_succ]
  refine wpAnyU_take0 (i := 12) (oi := ⟨some 24, Op.call { callee := Callee.builtin Builtin.min, args := #[Operand.tmp 23, Operand.const (Value.int IntKind.i64 30)], argTypes := #[3, 3] }, 3, _, _, none⟩) (v := ?v12n21k13) rfl (by kernel_rfl) (by kernel_rfl) (by kernel_rfl) (fun _ _ _ h => h) (Or.inl ⟨by rfl, ?y12n21k13⟩) ?z12n21k13
  case y12n21k13 => intro w; go_simp <;> rfl
  try simp only [Act.put, List.setIfInBounds_toArray, List.set_cons_zero, List.set_cons_succ]
  refine wpAnyU_take0 (i := 13) (oi := ⟨some 25, Op.slice 31 (Operand.tmp 20) none (some (Operand.tmp 24)) none, 31, _, _, none⟩) (v := ?v13n21k14) rfl (by kernel_rfl) (by kernel_rfl) (by kernel_rfl) (fun _ _ _ h => h) (Or.inl ⟨by rfl, ?y13n21k14⟩) ?z13n21k14
  case y13n21k14 => intro w; go_simp <;> rfl
  try simp only [Act.put, List.setIfInBounds_toArray, List.set_cons_zero, List.set_cons_succ]
  refine wpAnyU_done (by kernel_rfl) (by kernel_rfl) ?_
  simp only [List.drop_succ_cons, List.drop_zero]
  clear hHeld
  go_wp2
  refine NoPanic.normal ?_
  clear b0 b1 b2 b3 f2 f3 q1 q2
  have kz := (Kept.setCell (S := fun i => i = R) w1 (p := ⟨R, 2, none⟩) (by rfl) (.slice A0 n1 c0)).step (Kept.setCell (S := fun i => i = R) (w1.setCell ⟨R, 2, none⟩ (.slice A0 n1 c0)) (p := ⟨R, 3, none⟩) (by rfl) (.slice B0 m1 d0))
  have hz : ((w1.setCell ⟨R, 2, none⟩ (.slice A0 n1 c0)).setCell ⟨R, 3, none⟩ (.slice B0 m1 d0)).heap[R]? = some (.cells #[.int .i64 ri, .int .i64 rt, .slice A0 n1 c0, .slice B0 m1 d0] 33 (0, 0)) := by
    have h2 := heap_setCell_same w1 R 2 _ 33 (.slice A0 n1 c0) H1.out
    have h3 := heap_setCell_same _ R 3 _ 33 (.slice B0 m1 d0) h2
    rw [h3]
    simp
  have kd := Kept.drew noBlock ((w1.setCell ⟨R, 2, none⟩ (.slice A0 n1 c0)).setCell ⟨R, 3, none⟩ (.slice B0 m1 d0))
  have hzd := kd.blk hz (fun h => h)
  have K2 : Hid (Kept noBlock w ((w1.setCell ⟨R, 2, none⟩ (.slice A0 n1 c0)).setCell ⟨R, 3, none⟩ (.slice B0 m1 d0)).drew) :=
    (((K1.out.mono (T := fun i => i = R) (fun _ _ h => h.elim)).step kz).mono (T := noBlock) (fun i hi e => by have := HR.out; omega)).step kd
  generalize ((w1.setCell ⟨R, 2, none⟩ (.slice A0 n1 c0)).setCell ⟨R, 3, none⟩ (.slice B0 m1 d0)).drew = w2 at hzd K2 ⊢
  have HZ := Lib.hid hzd
  clear kz hz kd hzd K1 H1
  go_upto_region 4 with (fail)
  have HC : Hid (∀ w', Kept noBlock w2 w' → (w'.cell? ⟨R, 0, none⟩ = some (.int .i64 ri) ∧ w'.cell? ⟨R, 1, none⟩ = some (.int .i64 rt) ∧ w'.cell? ⟨R, 2, none⟩ = some (.slice A0 n1 c0) ∧ w'.cell? ⟨R, 3, none⟩ = some (.slice B0 m1 d0))) := fun w' k => st_cells (k.blk HZ.out (fun h => h))
  refine wp_region_noPanic ?_
  refine wp_region_held_drew (S := fun w' => w'.cell? ⟨R, 0, none⟩ = some (.int .i64 ri) ∧ w'.cell? ⟨R, 1, none⟩ = some (.int .i64 rt) ∧ w'.cell? ⟨R, 2, none⟩ = some (.slice A0 n1 c0) ∧ w'.cell? ⟨R, 3, none⟩ = some (.slice B0 m1 d0)) (by kernel_rfl) (HC.out _ (Kept.drew _ _)) (fun hHeld => ?_)
  refine wpAnyH_take (i := 0) (oi := ⟨some 28, Op.move (Operand.tmp 0), 22, _, _, none⟩) (v := ?v0n22k1) rfl (by kernel_rfl) (by kernel_rfl) (by kernel_rfl) (fun _ _ _ h => h) (Or.inl ⟨by rfl, ?y0n22k1⟩) hHeld ?z0n22k1
  case y0n22k1 => intro w hSw; (try dsimp only at hSw); go_simp <;> rfl
  try simp only [Act.put, List.setIfInBounds_toArray, List.set_cons_zero, List.set_cons_succ]
  refine wpAnyH_take (i := 2) (oi := ⟨some 30, Op.load 33 (Operand.tmp 3), 33, _, _, none⟩) (v := ?v2n22k2) rfl (by kernel_rfl) (by kernel_rfl) (by kernel_rfl) (fun _ _ _ h => h) (Or.inl ⟨by rfl, ?y2n22k2⟩) hHeld ?z2n22k2
  case y2n22k2 => intro w hSw; (try dsimp only at hSw); go_simp <;> rfl
  try simp only [Act.put, List.setIfInBounds_toArray, List.set_cons_zero, List.set_cons_succ]
  refine wpAnyH_take (i := 5) (oi := ⟨some 33, Op.move (Operand.const (Value.int IntKind.i64 0)), 3, _, _, none⟩) (v := ?v5n22k3) rfl (by kernel_rfl) (by kernel_rfl) (by kernel_rfl) (fun _ _ _ h => h) (Or.inl ⟨by rfl, ?y5n22k3⟩) hHeld ?z5n22k3
  case y5n22k3 => intro w hSw; (try dsimp only at hSw); go_simp <;> rfl
  try simp only [Act.put, List.setIfInBounds_toArray, List.set_cons_zero, List.set_cons_succ]
  refine wpAnyH_ready (rs := [1]) (by kernel_rfl) (by simp) ?_
  refine AllReadyH.cons (o := ⟨some 29, Op.call { callee := Callee.value (Operand.func 18), args := #[Operand.tmp 28], argTypes := #[22] }, 33, _, _, none⟩) rfl (fun K hK => ?_) AllReadyH.nil
  go_simp
  refine (SO.out _ (K2.out.step (Kept.drew _ _))).mono ?_
  rintro e w3 ⟨A3, c3, B3, d3, rfl, sv3, k3⟩
  have K23 := Lib.hid ((Kept.drew noBlock w2).step k3)
  have SV3 := Lib.hid (sv3.mono (G := fun _ => True) (fun _ _ => trivial))
  clear k3 sv3
  dsimp only
  refine hK.out _ _ (HC.out _ K23.out) (fun hHeld => ?_)
  clear hK K
  try simp only [Act.put, List.setIfInBounds_toArray, List.set_cons_zero, List.set_cons_succ]
  refine wpAnyH_ready (rs := [3]) (by kernel_rfl) (by simp) ?_
  refine AllReadyH.cons (o := ⟨some 31, Op.buildSlice 64 2 #[(0, Operand.tmp 29), (1, Operand.tmp 30)], 64, _, _, none⟩) rfl (fun K hK => ?_) AllReadyH.nil
  have la := Lies.new w3 (fun _ => True) (flat StA.enc [⟨s, A3, c3, B3, d3⟩, ⟨⟨ri, rt, P1, X1⟩, A0, c0, B0, d0⟩]) 33 (0, 0) trivial
  have kb := Kept.alloc noBlock w3 (.cells (flat StA.enc [⟨s, A3, c3, B3, d3⟩, ⟨⟨ri, rt, P1, X1⟩, A0, c0, B0, d0⟩]).toArray 33 (0, 0))
  have he : (flat StA.enc [⟨s, A3, c3, B3, d3⟩, ⟨⟨ri, rt, P1, X1⟩, A0, c0, B0, d0⟩]).toArray = #[.int .i64 s.index, .int .i64 s.term, .slice A3 s.pairs.length c3, .slice B3 s.sess.length d3, .int .i64 ri, .int .i64 rt, .slice A0 n1 c0, .slice B0 m1 d0] := by
    show #[Value.int .i64 s.index, .int .i64 s.term, .slice A3 s.pairs.length c3, .slice B3 s.sess.length d3, .int .i64 ri, .int .i64 rt, .slice A0 P1.length c0, .slice B0 X1.length d0] = _
    rw [HL1.out, HL2.out]
  rw [he] at la kb
  have HY : Hid (∀ y ∈ [(⟨s, A3, c3, B3, d3⟩ : StA), ⟨⟨ri, rt, P1, X1⟩, A0, c0, B0, d0⟩], y.Lie (w3.alloc (.cells #[.int .i64 s.index, .int .i64 s.term, .slice A3 s.pairs.length c3, .slice B3 s.sess.length d3, .int .i64 ri, .int .i64 rt, .slice A0 n1 c0, .slice B0 m1 d0] 33))) := fun y hy => by
    simp only [List.mem_cons, List.not_mem_nil, or_false] at hy
    rcases hy with rfl | rfl
    · exact ⟨SV3.out.kept kb, by show s.bytes.length ≤ _; have := right_bytes XR.out; omega, by show s.pairs.length ≤ _; have := XR.out.len; omega, by show s.sess.length ≤ _; have := XR.out.lens; omega⟩
    · exact ⟨(SV.out.kept ((K2.out.step K23.out))).kept kb, by rw [StV.bytes_length]; show 16 + (rowsB P1 X1).length ≤ _; have := HS1.out; omega, by show P1.length ≤ _; have := HL1.out; omega, by show X1.length ≤ _; have := HL2.out; omega⟩
  have LA := Lib.hid la
  have K4 := Lib.hid ((K2.out.step K23.out).step kb)
  have HC4 := Lib.hid (HC.out _ (K23.out.step kb))
  clear la kb he
  go_simp
  refine hK.out _ _ HC4.out (fun hHeld => ?_)
  clear hK K
  try simp only [Act.put, List.setIfInBounds_toArray, List.set_cons_zero, List.set_cons_succ]
  refine wpAnyH_take (i := 4) (oi := ⟨some 32, Op.call { callee := Callee.builtin Builtin.len, args := #[Operand.tmp 31], argTypes := #[64] }, 3, _, _, none⟩) (v := ?v4n22k4) rfl (by kernel_rfl) (by kernel_rfl) (by kernel_rfl) (fun _ _ _ h => h) (Or.inl ⟨by rfl, ?y4n22k4⟩) hHeld ?z4n22k4
  case y4n22k4 => intro w hSw; (try dsimp only at hSw); go_simp <;> rfl
  try simp only [Act.put, List.setIfInBounds_toArray, List.set_cons_zero, List.set_cons_succ]
  refine wpAnyH_done (by kernel_rfl) ?_ _
  refine NoPanic.normal ?_
  obtain ⟨ys, hys⟩ : ∃ ys : List StA, ys = [(⟨s, A3, c3, B3, d3⟩ : StA), ⟨⟨ri, rt, P1, X1⟩, A0, c0, B0, d0⟩] := ⟨_, rfl⟩
  have hyl : ys.length = 2 := by rw [hys]; rfl
  rw [← hys] at LA HY
  obtain ⟨G, hG⟩ : ∃ G, G = w3.heap.size := ⟨_, rfl⟩
  rw [← hG] at LA ⊢
  generalize w3.alloc (.cells #[.int .i64 s.index, .int .i64 s.term, .slice A3 s.pairs.length c3, .slice B3 s.sess.length d3, .int .i64 ri, .int .i64 rt, .slice A0 n1 c0, .slice B0 m1 d0] 33) = w4 at LA HY K4 ⊢
  clear hHeld hys hG HC HC4 HZ SV SV3 K23 K2 XR HS1 HL1 HL2 SO HR i1 i2 hn30 hm30
  have HYL := Lib.hid hyl
  clear hyl
  go_wp2
  go_loopw [33] (fun i wr => ∃ k : Nat, k ≤ 2 ∧ i = .int .i64 (k : Int) ∧ Hid (Kept noBlock w4 wr)) (fun i _ => 2 - (intOf i).toNat)
  case atStart => exact ⟨0, by omega, rfl, Kept.refl _ _⟩
  case round =>
    obtain ⟨k, hk, rfl, KR⟩ := hrel
    by_cases hlt : k < 2
    · obtain ⟨y, hy⟩ : ∃ y, ys[k]? = some y := ⟨_, List.getElem?_eq_getElem (by have := HYL.out; omega)⟩
      obtain ⟨g, o, eg, _, z⟩ := (LA.out.keep KR.out (fun _ _ h => h)).elem StA.enc_len (by omega) hy
      injection eg with eg
      injection eg with eg eo
      subst eg eo
      have yl := (HY.out y (List.mem_of_getElem? hy)).keep KR.out
      have x0 := z 0 _ rfl
      have x1 := z 1 _ rfl
      have x2 := z 2 _ rfl
      have x3 := z 3 _ rfl
      rw [Nat.zero_add] at x0 x1 x2 x3
      rw [Nat.add_zero] at x0
      obtain ⟨t, A, c, B, d⟩ := y
      simp only at x0 x1 x2 x3
      obtain ⟨sv, hbl, hlp, hls⟩ := yl
      simp only at sv hbl hlp hls
      have hk2 : (k : Int) < 2 := by omega
      clear z hy
      obtain ⟨N, hN⟩ : ∃ N, t.bytes.length = N := ⟨_, rfl⟩
      rw [hN] at hbl
      have HN := Lib.hid hN
      have YSV := Lib.hid sv
      have SB := Lib.hid (fun u (hu : Sv u (fun _ => True) t A c B d) => sbytes_any _ t A c B d N u hu HN.out (by omega))
      have BY := Lib.hid (fun u (hu : Sv u (fun _ => True) t A c B d) => lbytes_any _ t A c B d N u hu HN.out (by omega))
      have RI := Lib.hid (fun u (hu : Sv u (fun _ => True) t A c B d) => sright_any _ t A c B d u hu (by omega) (by omega))
      have LR := Lib.hid (fun u (hu : Sv u (fun _ => True) t A c B d) => lright_any _ t A c B d u hu (by omega) (by omega))
      obtain ⟨X, hX⟩ : ∃ X, X = str t.bytes := ⟨_, rfl⟩
      rw [← hX] at BY
      have HX := Lib.hid hX
      unfold stv at SB BY RI LR
      clear hN sv hX
      have kx := Kept.alloc noBlock wr (.cells #[.int .i64 t.index, .int .i64 t.term, .slice A t.pairs.length c, .slice B t.sess.length d] 33)
      have bx := heap_alloc_new wr (.cells #[.int .i64 t.index, .int .i64 t.term, .slice A t.pairs.length c, .slice B t.sess.length d] 33)
      go_upto_region 7 with (fail)
      obtain ⟨P, hP⟩ : ∃ P, P = wr.heap.size := ⟨_, rfl⟩
      rw [← hP] at bx ⊢
      generalize wr.alloc (.cells #[.int .i64 t.index, .int .i64 t.term, .slice A t.pairs.length c, .slice B t.sess.length d] 33) = u1 at kx bx ⊢
      have KU1 := Lib.hid (KR.out.step kx)
      have BX := Lib.hid bx
      have SV1 := Lib.hid (YSV.out.kept kx)
      clear hP kx bx x0 x1 x2 x3 KR
      obtain ⟨x0, x1, x2, x3⟩ := st_cells BX.out
      go_wp2_with fail
      refine (SB.out u1 SV1.out).mono ?_
      rintro en u2 ⟨Q, cq, rfl, o2, k2⟩
      have KU2 := Lib.hid (KU1.out.step k2)
      have BX2 := Lib.hid (k2.blk BX.out (fun h => h))
      have SV2 := Lib.hid (SV1.out.kept k2)
      have LQ := Lib.hid (Lies.of_own (F := fun _ => True) o2 (fun _ _ => trivial))
      have RD := Lib.hid (sread_any (fun _ => True) Q N cq t.bytes u2 LQ.out HN.out (by omega))
      clear x0 x1 x2 x3 k2 o2 KU1 BX SV1 SB
      by_cases hR : t.Right
      · rw [decide_eq_true hR] at RI LR
        obtain ⟨e1, e2⟩ := got_bytes hR
        rw [e1, e2] at RD
        clear e1 e2
        have SM := Lib.hid (fun u A3 c3 B3 d3 (hu : Sv u (fun _ => True) t A c B d) (hv : Sv u (fun _ => True) t A3 c3 B3 d3) => same_any _ _ t t A c B d A3 c3 B3 d3 u hu hv (by rw [HN.out]; omega) (by rw [HN.out]; omega))
        rw [decide_eq_true rfl] at SM
        have LT := Lib.hid (fun u {A3 B3 : Option Addr} {c3 d3 : Nat} (hu : Sv u (fun _ => True) t A3 c3 B3 d3) => lright_any _ t A3 c3 B3 d3 u hu (by omega) (by omega))
        rw [decide_eq_true hR] at LT
        have BT := Lib.hid (fun u {A3 B3 : Option Addr} {c3 d3 : Nat} (hu : Sv u (fun _ => True) t A3 c3 B3 d3) => lbytes_any _ t A3 c3 B3 d3 N u hu HN.out (by omega))
        rw [← HX.out] at BT
        unfold stv at SM LT BT
        clear hR
        unfold stv at RD
        go_wp2_with fail
        refine RD.out.mono ?_
        rintro en u3 ⟨A3, c3, B3, d3, rfl, sv3, k3⟩
        have ka := Kept.alloc noBlock u3 (.cells #[.int .i64 t.index, .int .i64 t.term, .slice A3 t.pairs.length c3, .slice B3 t.sess.length d3] 33)
        have ha := heap_alloc_new u3 (.cells #[.int .i64 t.index, .int .i64 t.term, .slice A3 t.pairs.length c3, .slice B3 t.sess.length d3] 33)
        go_upto_region 9 with (fail)
        obtain ⟨T, hT⟩ : ∃ T, T = u3.heap.size := ⟨_, rfl⟩
        rw [← hT] at ha ⊢
        generalize u3.alloc (.cells #[.int .i64 t.index, .int .i64 t.term, .slice A3 t.pairs.length c3, .slice B3 t.sess.length d3] 33) = u4 at ka ha ⊢
        have KU4 := Lib.hid (KU2.out.step (k3.step ka))
        have SV4 := Lib.hid (SV2.out.kept (k3.step ka))
        have SE4 := Lib.hid ((sv3.mono (G := fun _ => True) (fun _ _ => trivial)).kept ka)
        have LQ4 := Lib.hid (LQ.out.keep (k3.step ka) (fun _ _ h => h))
        have BX4 := Lib.hid ((k3.step ka).blk BX2.out (fun h => h))
        have HT4 := Lib.hid ha
        clear hT ka ha sv3 k3 RD KU2 SV2 LQ BX2
        have HS : Hid (∀ w', Kept noBlock u4 w' → ((w'.cell? ⟨P, 0, none⟩ = some (.int .i64 t.index) ∧ w'.cell? ⟨P, 1, none⟩ = some (.int .i64 t.term) ∧ w'.cell? ⟨P, 2, none⟩ = some (.slice A t.pairs.length c) ∧ w'.cell? ⟨P, 3, none⟩ = some (.slice B t.sess.length d)) ∧ (w'.cell? ⟨T, 0, none⟩ = some (.int .i64 t.index) ∧ w'.cell? ⟨T, 1, none⟩ = some (.int .i64 t.term) ∧ w'.cell? ⟨T, 2, none⟩ = some (.slice A3 t.pairs.length c3) ∧ w'.cell? ⟨T, 3, none⟩ = some (.slice B3 t.sess.length d3))) ∧ (∀ c, (convert 37 9 (.slice Q N c)).run Try.prog w' = .ok (.string X) w')) := fun w' kk => ⟨⟨st_cells (kk.blk BX4.out (fun h => h)), st_cells (kk.blk HT4.out (fun h => h))⟩, fun c => by rw [HX.out]; exact run_str_lies (P := Try.prog) 37 9 5 Try.underlying37 Try.underlying5 Try.underlying9 (LQ4.out.keep kk (fun _ _ h => h)) HN.out c⟩
        refine wp_region_noPanic ?_
        refine wp_region_held_drew (S := fun w' => ((w'.cell? ⟨P, 0, none⟩ = some (.int .i64 t.index) ∧ w'.cell? ⟨P, 1, none⟩ = some (.int .i64 t.term) ∧ w'.cell? ⟨P, 2, none⟩ = some (.slice A t.pairs.length c) ∧ w'.cell? ⟨P, 3, none⟩ = some (.slice B t.sess.length d)) ∧ (w'.cell? ⟨T, 0, none⟩ = some (.int .i64 t.index) ∧ w'.cell? ⟨T, 1, none⟩ = some (.int .i64 t.term) ∧ w'.cell? ⟨T, 2, none⟩ = some (.slice A3 t.pairs.length c3) ∧ w'.cell? ⟨T, 3, none⟩ = some (.slice B3 t.sess.length d3))) ∧ (∀ c, (convert 37 9 (.slice Q N c)).run Try.prog w' = .ok (.string X) w')) (by kernel_rfl) (HS.out _ (Kept.drew _ _)) (fun hHeld => ?_)
        refine wpAnyH_take (i := 0) (oi := ⟨some 44, Op.move (Operand.tmp 7), 37, _, _, none⟩) (v := ?v0n23k1) rfl (by kernel_rfl) (by kernel_rfl) (by kernel_rfl) (fun _ _ _ h => h) (Or.inl ⟨by rfl, ?y0n23k1⟩) hHeld ?z0n23k1
        case y0n23k1 => intro w hSw; (try dsimp only at hSw); go_simp <;> rfl
        try simp only [Act.put, List.setIfInBounds_toArray, List.set_cons_zero, List.set_cons_succ]
        refine wpAnyH_take (i := 1) (oi := ⟨some 45, Op.convert 37 9 (Operand.tmp 44), 9, _, _, none⟩) (v := ?v1n23k2) rfl (by kernel_rfl) (by kernel_rfl) (by kernel_rfl) (fun _ _ _ h => h) (Or.inl ⟨by rfl, ?y1n23k2⟩) hHeld ?z1n23k2
        case y1n23k2 => intro w hSw; (try dsimp only at hSw); go_simp <;> rfl
        try simp only [Act.put, List.setIfInBounds_toArray, List.set_cons_zero, List.set_cons_succ]
        refine wpAnyH_take (i := 2) (oi := ⟨some 46, Op.load 33 (Operand.tmp 6), 33, _, _, none⟩) (v := ?v2n23k3) rfl (by kernel_rfl) (by kernel_rfl) (by kernel_rfl) (fun _ _ _ h => h) (Or.inl ⟨by rfl, ?y2n23k3⟩) hHeld ?z2n23k3
        case y2n23k3 => intro w hSw; (try dsimp only at hSw); go_simp <;> rfl
        try simp only [Act.put, List.setIfInBounds_toArray, List.set_cons_zero, List.set_cons_succ]
        refine wpAnyH_ready (rs := [3]) (by kernel_rfl) (by simp) ?_
        refine AllReadyH.cons (o := ⟨some 47, Op.call { callee := Callee.value (Operand.func 25), args := #[Operand.tmp 46], argTypes := #[33] }, 9, _, _, none⟩) rfl (fun K hK => ?_) AllReadyH.nil
        go_simp
        refine (BY.out _ (SV4.out.kept (Kept.drew _ _))).mono ?_
        rintro en v3 ⟨rfl, k3⟩
        have J3 := Lib.hid ((Kept.drew noBlock u4).step k3)
        clear k3
        dsimp only
        refine hK.out _ _ (HS.out _ J3.out) (fun hHeld => ?_)
        clear hK K
        try simp only [Act.put, List.setIfInBounds_toArray, List.set_cons_zero, List.set_cons_succ]
        refine wpAnyH_take (i := 4) (oi := ⟨some 48, Op.binOp BinOp.neq 9 (Operand.tmp 45) (Operand.tmp 47) 9, 4, _, _, none⟩) (v := ?v4n23k4) rfl (by kernel_rfl) (by kernel_rfl) (by kernel_rfl) (fun _ _ _ h => h) (Or.inl ⟨by rfl, ?y4n23k4⟩) hHeld ?z4n23k4
        case y4n23k4 => intro w hSw; (try dsimp only at hSw); go_simp <;> rfl
        try simp only [Act.put, List.setIfInBounds_toArray, List.set_cons_zero, List.set_cons_succ]
        refine wpAnyH_take (i := 5) (oi := ⟨some 49, Op.move (Operand.tmp 48), 4, _, _, none⟩) (v := ?v5n23k5) rfl (by kernel_rfl) (by kernel_rfl) (by kernel_rfl) (fun _ _ _ h => h) (Or.inl ⟨by rfl, ?y5n23k5⟩) hHeld ?z5n23k5
        case y5n23k5 => intro w hSw; (try dsimp only at hSw); go_simp <;> rfl
        try simp only [Act.put, List.setIfInBounds_toArray, List.set_cons_zero, List.set_cons_succ]
        refine wpAnyH_take (i := 6) (oi := ⟨some 50, Op.load 33 (Operand.tmp 6), 33, _, _, some (5, false)⟩) (v := ?v6n23k6) rfl (by kernel_rfl) (by kernel_rfl) (by kernel_rfl) (fun _ _ _ h => h) (Or.inl ⟨by rfl, ?y6n23k6⟩) hHeld ?z6n23k6
        case y6n23k6 => intro w hSw; (try dsimp only at hSw); go_simp <;> rfl
        try simp only [Act.put, List.setIfInBounds_toArray, List.set_cons_zero, List.set_cons_succ]
        refine wpAnyH_take (i := 8) (oi := ⟨some 52, Op.load 33 (Operand.tmp 6), 33, _, _, some (5, false)⟩) (v := ?v8n23k7) rfl (by kernel_rfl) (by kernel_rfl) (by kernel_rfl) (fun _ _ _ h => h) (Or.inl ⟨by rfl, ?y8n23k7⟩) hHeld ?z8n23k7
        case y8n23k7 => intro w hSw; (try dsimp only at hSw); go_simp <;> rfl
        try simp only [Act.put, List.setIfInBounds_toArray, List.set_cons_zero, List.set_cons_succ]
        refine wpAnyH_ready (rs := [7]) (by kernel_rfl) (by simp) ?_
        refine AllReadyH.cons (o := ⟨some 51, Op.call { callee := Callee.value (Operand.func 16), args := #[Operand.tmp 50], argTypes := #[33] }, 4, _, _, some (5, false)⟩) rfl (fun K hK => ?_) AllReadyH.nil
        go_simp
        refine (RI.out _ (SV4.out.kept J3.out)).mono ?_
        rintro en v7 ⟨rfl, k7⟩
        have J7 := Lib.hid (J3.out.step k7)
        clear k7
        dsimp only
        refine hK.out _ _ (HS.out _ J7.out) (fun hHeld => ?_)
        clear hK K
        try simp only [Act.put, List.setIfInBounds_toArray, List.set_cons_zero, List.set_cons_succ]
        refine wpAnyH_ready (rs := [9]) (by kernel_rfl) (by simp) ?_
        refine AllReadyH.cons (o := ⟨some 53, Op.call { callee := Callee.value (Operand.func 26), args := #[Operand.tmp 52], argTypes := #[33] }, 4, _, _, some (5, false)⟩) rfl (fun K hK => ?_) AllReadyH.nil
        go_simp
        refine (LR.out _ (SV4.out.kept J7.out)).mono ?_
        rintro en v9 ⟨rfl, k9⟩
        have J9 := Lib.hid (J7.out.step k9)
        clear k9
        dsimp only
        refine hK.out _ _ (HS.out _ J9.out) (fun hHeld => ?_)
        clear hK K
        try simp only [Act.put, List.setIfInBounds_toArray, List.set_cons_zero, List.set_cons_succ]
        refine wpAnyH_take (i := 10) (oi := ⟨some 54, Op.binOp BinOp.neq 4 (Operand.tmp 51) (Operand.tmp 53) 4, 4, _, _, some (5, false)⟩) (v := ?v10n23k8) rfl (by kernel_rfl) (by kernel_rfl) (by kernel_rfl) (fun _ _ _ h => h) (Or.inl ⟨by rfl, ?y10n23k8⟩) hHeld ?z10n23k8
        case y10n23k8 => intro w hSw; (try dsimp only at hSw); go_simp <;> rfl
        try simp only [Act.put, List.setIfInBounds_toArray, List.set_cons_zero, List.set_cons_succ]
        refine wpAnyH_take (i := 11) (oi := ⟨some 55, Op.pick (Operand.tmp 49) (Operand.const (Value.bool true)) (Operand.tmp 54), 4, _, _, none⟩) (v := ?v11n23k9) rfl (by kernel_rfl) (by kernel_rfl) (by kernel_rfl) (fun _ _ _ h => h) (Or.inl ⟨by rfl, ?y11n23k9⟩) hHeld ?z11n23k9
        case y11n23k9 => intro w hSw; (try dsimp only at hSw); go_simp <;> rfl
        try simp only [Act.put, List.setIfInBounds_toArray, List.set_cons_zero, List.set_cons_succ]
        refine wpAnyH_take (i := 12) (oi := ⟨some 56, Op.move (Operand.tmp 55), 4, _, _, none⟩) (v := ?v12n23k10) rfl (by kernel_rfl) (by kernel_rfl) (by kernel_rfl) (fun _ _ _ h => h) (Or.inl ⟨by rfl, ?y12n23k10⟩) hHeld ?z12n23k10
        case y12n23k10 => intro w hSw; (try dsimp only at hSw); go_simp <;> rfl
        try simp only [Act.put, List.setIfInBounds_toArray, List.set_cons_zero, List.set_cons_succ]
        refine wpAnyH_take (i := 13) (oi := ⟨some 57, Op.load 33 (Operand.tmp 6), 33, _, _, some (12, false)⟩) (v := ?v13n23k11) rfl (by kernel_rfl) (by kernel_rfl) (by kernel_rfl) (fun _ _ _ h => h) (Or.inl ⟨by rfl, ?y13n23k11⟩) hHeld ?z13n23k11
        case y13n23k11 => intro w hSw; (try dsimp only at hSw); go_simp <;> rfl
        try simp only [Act.put, List.setIfInBounds_toArray, List.set_cons_zero, List.set_cons_succ]
        refine wpAnyH_ready (rs := [14]) (by kernel_rfl) (by simp) ?_
        refine AllReadyH.cons (o := ⟨some 58, Op.call { callee := Callee.value (Operand.func 26), args := #[Operand.tmp 57], argTypes := #[33] }, 4, _, _, some (12, false)⟩) rfl (fun K hK => ?_) AllReadyH.nil
        go_simp
        refine (LR.out _ (SV4.out.kept J9.out)).mono ?_
        rintro en v14 ⟨rfl, k14⟩
        have J14 := Lib.hid (J9.out.step k14)
        clear k14
        dsimp only
        refine hK.out _ _ (HS.out _ J14.out) (fun hHeld => ?_)
        clear hK K
        try simp only [Act.put, List.setIfInBounds_toArray, List.set_cons_zero, List.set_cons_succ]
        refine wpAnyH_take (i := 15) (oi := ⟨some 59, Op.move (Operand.tmp 58), 4, _, _, some (12, false)⟩) (v := ?v15n23k12) rfl (by kernel_rfl) (by kernel_rfl) (by kernel_rfl) (fun _ _ _ h => h) (Or.inl ⟨by rfl, ?y15n23k12⟩) hHeld ?z15n23k12
        case y15n23k12 => intro w hSw; (try dsimp only at hSw); go_simp <;> rfl
        try simp only [Act.put, List.setIfInBounds_toArray, List.set_cons_zero, List.set_cons_succ]
        refine wpAnyH_take (i := 16) (oi := ⟨some 60, Op.move (Operand.tmp 9), 4, _, _, some (15, true)⟩) (v := ?v16n23k13) rfl (by kernel_rfl) (by kernel_rfl) (by kernel_rfl) (fun _ _ _ h => h) (Or.inl ⟨by rfl, ?y16n23k13⟩) hHeld ?z16n23k13
        case y16n23k13 => intro w hSw; (try dsimp only at hSw); go_simp <;> rfl
        try simp only [Act.put, List.setIfInBounds_toArray, List.set_cons_zero, List.set_cons_succ]
        refine wpAnyH_take (i := 17) (oi := ⟨some 61, Op.unOp UnOp.not 4 (Operand.tmp 60), 4, _, _, some (15, true)⟩) (v := ?v17n23k14) rfl (by kernel_rfl) (by kernel_rfl) (by kernel_rfl) (fun _ _ _ h => h) (Or.inl ⟨by rfl, ?y17n23k14⟩) hHeld ?z17n23k14
        case y17n23k14 => intro w hSw; (try dsimp only at hSw); go_simp <;> rfl
        try simp only [Act.put, List.setIfInBounds_toArray, List.set_cons_zero, List.set_cons_succ]
        refine wpAnyH_take (i := 18) (oi := ⟨some 62, Op.move (Operand.tmp 61), 4, _, _, some (15, true)⟩) (v := ?v18n23k15) rfl (by kernel_rfl) (by kernel_rfl) (by kernel_rfl) (fun _ _ _ h => h) (Or.inl ⟨by rfl, ?y18n23k15⟩) hHeld ?z18n23k15
        case y18n23k15 => intro w hSw; (try dsimp only at hSw); go_simp <;> rfl
        try simp only [Act.put, List.setIfInBounds_toArray, List.set_cons_zero, List.set_cons_succ]
        refine wpAnyH_take (i := 19) (oi := ⟨some 63, Op.load 33 (Operand.tmp 6), 33, _, _, some (18, false)⟩) (v := ?v19n23k16) rfl (by kernel_rfl) (by kernel_rfl) (by kernel_rfl) (fun _ _ _ h => h) (Or.inl ⟨by rfl, ?y19n23k16⟩) hHeld ?z19n23k16
        case y19n23k16 => intro w hSw; (try dsimp only at hSw); go_simp <;> rfl
        try simp only [Act.put, List.setIfInBounds_toArray, List.set_cons_zero, List.set_cons_succ]
        refine wpAnyH_take (i := 20) (oi := ⟨some 64, Op.load 33 (Operand.tmp 8), 33, _, _, some (18, false)⟩) (v := ?v20n23k17) rfl (by kernel_rfl) (by kernel_rfl) (by kernel_rfl) (fun _ _ _ h => h) (Or.inl ⟨by rfl, ?y20n23k17⟩) hHeld ?z20n23k17
        case y20n23k17 => intro w hSw; (try dsimp only at hSw); go_simp <;> rfl
        try simp only [Act.put, List.setIfInBounds_toArray, List.set_cons_zero, List.set_cons_succ]
        refine wpAnyH_ready (rs := [21]) (by kernel_rfl) (by simp) ?_
        refine AllReadyH.cons (o := ⟨some 65, Op.call { callee := Callee.value (Operand.func 20), args := #[Operand.tmp 63, Operand.tmp 64], argTypes := #[33, 33] }, 4, _, _, some (18, false)⟩) rfl (fun K hK => ?_) AllReadyH.nil
        go_simp
        refine (SM.out _ A3 c3 B3 d3 (SV4.out.kept J14.out) (SE4.out.kept J14.out)).mono ?_
        rintro en v21 ⟨rfl, k21⟩
        have J21 := Lib.hid (J14.out.step k21)
        clear k21
        dsimp only
        refine hK.out _ _ (HS.out _ J21.out) (fun hHeld => ?_)
        clear hK K
        try simp only [Act.put, List.setIfInBounds_toArray, List.set_cons_zero, List.set_cons_succ]
        refine wpAnyH_take (i := 22) (oi := ⟨some 66, Op.unOp UnOp.not 4 (Operand.tmp 65), 4, _, _, some (18, false)⟩) (v := ?v22n23k18) rfl (by kernel_rfl) (by kernel_rfl) (by kernel_rfl) (fun _ _ _ h => h) (Or.inl ⟨by rfl, ?y22n23k18⟩) hHeld ?z22n23k18
        case y22n23k18 => intro w hSw; (try dsimp only at hSw); go_simp <;> rfl
        try simp only [Act.put, List.setIfInBounds_toArray, List.set_cons_zero, List.set_cons_succ]
        refine wpAnyH_take (i := 23) (oi := ⟨some 67, Op.pick (Operand.tmp 62) (Operand.const (Value.bool true)) (Operand.tmp 66), 4, _, _, some (15, true)⟩) (v := ?v23n23k19) rfl (by kernel_rfl) (by kernel_rfl) (by kernel_rfl) (fun _ _ _ h => h) (Or.inl ⟨by rfl, ?y23n23k19⟩) hHeld ?z23n23k19
        case y23n23k19 => intro w hSw; (try dsimp only at hSw); go_simp <;> rfl
        try simp only [Act.put, List.setIfInBounds_toArray, List.set_cons_zero, List.set_cons_succ]
        refine wpAnyH_take (i := 24) (oi := ⟨some 68, Op.pick (Operand.tmp 59) (Operand.tmp 67) (Operand.const (Value.bool false)), 4, _, _, some (12, false)⟩) (v := ?v24n23k20) rfl (by kernel_rfl) (by kernel_rfl) (by kernel_rfl) (fun _ _ _ h => h) (Or.inl ⟨by rfl, ?y24n23k20⟩) hHeld ?z24n23k20
        case y24n23k20 => intro w hSw; (try dsimp only at hSw); go_simp <;> rfl
        try simp only [Act.put, List.setIfInBounds_toArray, List.set_cons_zero, List.set_cons_succ]
        refine wpAnyH_take (i := 25) (oi := ⟨some 69, Op.pick (Operand.tmp 56) (Operand.const (Value.bool true)) (Operand.tmp 68), 4, _, _, none⟩) (v := ?v25n23k21) rfl (by kernel_rfl) (by kernel_rfl) (by kernel_rfl) (fun _ _ _ h => h) (Or.inl ⟨by rfl, ?y25n23k21⟩) hHeld ?z25n23k21
        case y25n23k21 => intro w hSw; (try dsimp only at hSw); go_simp <;> rfl
        try simp only [Act.put, List.setIfInBounds_toArray, List.set_cons_zero, List.set_cons_succ]
        refine wpAnyH_take (i := 26) (oi := ⟨some 70, Op.move (Operand.tmp 69), 4, _, _, none⟩) (v := ?v26n23k22) rfl (by kernel_rfl) (by kernel_rfl) (by kernel_rfl) (fun _ _ _ h => h) (Or.inl ⟨by rfl, ?y26n23k22⟩) hHeld ?z26n23k22
        case y26n23k22 => intro w hSw; (try dsimp only at hSw); go_simp <;> rfl
        try simp only [Act.put, List.setIfInBounds_toArray, List.set_cons_zero, List.set_cons_succ]
        refine wpAnyH_take (i := 27) (oi := ⟨some 71, Op.move (Operand.tmp 9), 4, _, _, some (26, false)⟩) (v := ?v27n23k23) rfl (by kernel_rfl) (by kernel_rfl) (by kernel_rfl) (fun _ _ _ h => h) (Or.inl ⟨by rfl, ?y27n23k23⟩) hHeld ?z27n23k23
        case y27n23k23 => intro w hSw; (try dsimp only at hSw); go_simp <;> rfl
        try simp only [Act.put, List.setIfInBounds_toArray, List.set_cons_zero, List.set_cons_succ]
        refine wpAnyH_take (i := 28) (oi := ⟨some 72, Op.move (Operand.tmp 71), 4, _, _, some (26, false)⟩) (v := ?v28n23k24) rfl (by kernel_rfl) (by kernel_rfl) (by kernel_rfl) (fun _ _ _ h => h) (Or.inl ⟨by rfl, ?y28n23k24⟩) hHeld ?z28n23k24
        case y28n23k24 => intro w hSw; (try dsimp only at hSw); go_simp <;> rfl
        try simp only [Act.put, List.setIfInBounds_toArray, List.set_cons_zero, List.set_cons_succ]
        refine wpAnyH_take (i := 29) (oi := ⟨some 73, Op.load 33 (Operand.tmp 8), 33, _, _, some (28, true)⟩) (v := ?v29n23k25) rfl (by kernel_rfl) (by kernel_rfl) (by kernel_rfl) (fun _ _ _ h => h) (Or.inl ⟨by rfl, ?y29n23k25⟩) hHeld ?z29n23k25
        case y29n23k25 => intro w hSw; (try dsimp only at hSw); go_simp <;> rfl
        try simp only [Act.put, List.setIfInBounds_toArray, List.set_cons_zero, List.set_cons_succ]
        refine wpAnyH_ready (rs := [30]) (by kernel_rfl) (by simp) ?_
        refine AllReadyH.cons (o := ⟨some 74, Op.call { callee := Callee.value (Operand.func 26), args := #[Operand.tmp 73], argTypes := #[33] }, 4, _, _, some (28, true)⟩) rfl (fun K hK => ?_) AllReadyH.nil
        go_simp
        refine (LT.out _ (SE4.out.kept J21.out)).mono ?_
        rintro en v30 ⟨rfl, k30⟩
        have J30 := Lib.hid (J21.out.step k30)
        clear k30
        dsimp only
        refine hK.out _ _ (HS.out _ J30.out) (fun hHeld => ?_)
        clear hK K
        try simp only [Act.put, List.setIfInBounds_toArray, List.set_cons_zero, List.set_cons_succ]
        refine wpAnyH_take (i := 31) (oi := ⟨some 75, Op.unOp UnOp.not 4 (Operand.tmp 74), 4, _, _, some (28, true)⟩) (v := ?v31n23k26) rfl (by kernel_rfl) (by kernel_rfl) (by kernel_rfl) (fun _ _ _ h => h) (Or.inl ⟨by rfl, ?y31n23k26⟩) hHeld ?z31n23k26
        case y31n23k26 => intro w hSw; (try dsimp only at hSw); go_simp <;> rfl
        try simp only [Act.put, List.setIfInBounds_toArray, List.set_cons_zero, List.set_cons_succ]
        refine wpAnyH_take (i := 32) (oi := ⟨some 76, Op.move (Operand.tmp 75), 4, _, _, some (28, true)⟩) (v := ?v32n23k27) rfl (by kernel_rfl) (by kernel_rfl) (by kernel_rfl) (fun _ _ _ h => h) (Or.inl ⟨by rfl, ?y32n23k27⟩) hHeld ?z32n23k27
        case y32n23k27 => intro w hSw; (try dsimp only at hSw); go_simp <;> rfl
        try simp only [Act.put, List.setIfInBounds_toArray, List.set_cons_zero, List.set_cons_succ]
        refine wpAnyH_take (i := 33) (oi := ⟨some 77, Op.load 33 (Operand.tmp 8), 33, _, _, some (32, false)⟩) (v := ?v33n23k28) rfl (by kernel_rfl) (by kernel_rfl) (by kernel_rfl) (fun _ _ _ h => h) (Or.inl ⟨by rfl, ?y33n23k28⟩) hHeld ?z33n23k28
        case y33n23k28 => intro w hSw; (try dsimp only at hSw); go_simp <;> rfl
        try simp only [Act.put, List.setIfInBounds_toArray, List.set_cons_zero, List.set_cons_succ]
        refine wpAnyH_take (i := 35) (oi := ⟨some 79, Op.move (Operand.tmp 7), 37, _, _, some (32, false)⟩) (v := ?v35n23k29) rfl (by kernel_rfl) (by kernel_rfl) (by kernel_rfl) (fun _ _ _ h => h) (Or.inl ⟨by rfl, ?y35n23k29⟩) hHeld ?z35n23k29
        case y35n23k29 => intro w hSw; (try dsimp only at hSw); go_simp <;> rfl
        try simp only [Act.put, List.setIfInBounds_toArray, List.set_cons_zero, List.set_cons_succ]
        refine wpAnyH_take (i := 36) (oi := ⟨some 80, Op.convert 37 9 (Operand.tmp 79), 9, _, _, some (32, false)⟩) (v := ?v36n23k30) rfl (by kernel_rfl) (by kernel_rfl) (by kernel_rfl) (fun _ _ _ h => h) (Or.inl ⟨by rfl, ?y36n23k30⟩) hHeld ?z36n23k30
        case y36n23k30 => intro w hSw; (try dsimp only at hSw); go_simp <;> rfl
        try simp only [Act.put, List.setIfInBounds_toArray, List.set_cons_zero, List.set_cons_succ]
        refine wpAnyH_ready (rs := [34]) (by kernel_rfl) (by simp) ?_
        refine AllReadyH.cons (o := ⟨some 78, Op.call { callee := Callee.value (Operand.func 25), args := #[Operand.tmp 77], argTypes := #[33] }, 9, _, _, some (32, false)⟩) rfl (fun K hK => ?_) AllReadyH.nil
        go_simp
        refine (BT.out _ (SE4.out.kept J30.out)).mono ?_
        rintro en v34 ⟨rfl, k34⟩
        have J34 := Lib.hid (J30.out.step k34)
        clear k34
        dsimp only
        refine hK.out _ _ (HS.out _ J34.out) (fun hHeld => ?_)
        clear hK K
        try simp only [Act.put, List.setIfInBounds_toArray, List.set_cons_zero, List.set_cons_succ]
        refine wpAnyH_take (i := 37) (oi := ⟨some 81, Op.binOp BinOp.neq 9 (Operand.tmp 78) (Operand.tmp 80) 9, 4, _, _, some (32, false)⟩) (v := ?v37n23k31) rfl (by kernel_rfl) (by kernel_rfl) (by kernel_rfl) (fun _ _ _ h => h) (Or.inl ⟨by rfl, ?y37n23k31⟩) hHeld ?z37n23k31
        case y37n23k31 => intro w hSw; (try dsimp only at hSw); go_simp <;> rfl
        try simp only [Act.put, List.setIfInBounds_toArray, List.set_cons_zero, List.set_cons_succ]
        refine wpAnyH_take (i := 38) (oi := ⟨some 82, Op.pick (Operand.tmp 76) (Operand.const (Value.bool true)) (Operand.tmp 81), 4, _, _, some (28, true)⟩) (v := ?v38n23k32) rfl (by kernel_rfl) (by kernel_rfl) (by kernel_rfl) (fun _ _ _ h => h) (Or.inl ⟨by rfl, ?y38n23k32⟩) hHeld ?z38n23k32
        case y38n23k32 => intro w hSw; (try dsimp only at hSw); go_simp <;> rfl
        try simp only [Act.put, List.setIfInBounds_toArray, List.set_cons_zero, List.set_cons_succ]
        refine wpAnyH_take (i := 39) (oi := ⟨some 83, Op.pick (Operand.tmp 72) (Operand.tmp 82) (Operand.const (Value.bool false)), 4, _, _, some (26, false)⟩) (v := ?v39n23k33) rfl (by kernel_rfl) (by kernel_rfl) (by kernel_rfl) (fun _ _ _ h => h) (Or.inl ⟨by rfl, ?y39n23k33⟩) hHeld ?z39n23k33
        case y39n23k33 => intro w hSw; (try dsimp only at hSw); go_simp <;> rfl
        try simp only [Act.put, List.setIfInBounds_toArray, List.set_cons_zero, List.set_cons_succ]
        refine wpAnyH_take (i := 40) (oi := ⟨some 84, Op.pick (Operand.tmp 70) (Operand.const (Value.bool true)) (Operand.tmp 83), 4, _, _, none⟩) (v := ?v40n23k34) rfl (by kernel_rfl) (by kernel_rfl) (by kernel_rfl) (fun _ _ _ h => h) (Or.inl ⟨by rfl, ?y40n23k34⟩) hHeld ?z40n23k34
        case y40n23k34 => intro w hSw; (try dsimp only at hSw); go_simp <;> rfl
        try simp only [Act.put, List.setIfInBounds_toArray, List.set_cons_zero, List.set_cons_succ]
        refine wpAnyH_done (by kernel_rfl) ?_ _
        refine NoPanic.normal ?_
        have KE := Lib.hid (KU4.out.step J34.out)
        clear hHeld HS
        go_wp2
        go_roundw
        case rel => exact ⟨k + 1, by omega, by go_num, KE⟩
        case measure => simp [intOf]; omega
      · rw [decide_eq_false hR] at RI LR
        clear hR
        obtain ⟨ok, hok⟩ : ∃ ok, gotT t.bytes = ok := ⟨_, rfl⟩
        obtain ⟨E, hE⟩ : ∃ E, gotS t.bytes = E := ⟨_, rfl⟩
        rw [hok, hE] at RD
        cases ok
        · have hE0 : E = noState := by rw [← hE]; exact gotT_false hok
          subst hE0
          clear hok hE
          unfold stv noState at RD
          simp only [List.length_nil] at RD
          go_wp2_with fail
          refine RD.out.mono ?_
          rintro en u3 ⟨A3, c3, B3, d3, rfl, sv3, k3⟩
          have ka := Kept.alloc noBlock u3 (.cells #[.int .i64 0, .int .i64 0, .slice A3 0 c3, .slice B3 0 d3] 33)
          have ha := heap_alloc_new u3 (.cells #[.int .i64 0, .int .i64 0, .slice A3 0 c3, .slice B3 0 d3] 33)
          go_upto_region 9 with (fail)
          obtain ⟨T, hT⟩ : ∃ T, T = u3.heap.size := ⟨_, rfl⟩
          rw [← hT] at ha ⊢
          generalize u3.alloc (.cells #[.int .i64 0, .int .i64 0, .slice A3 0 c3, .slice B3 0 d3] 33) = u4 at ka ha ⊢
          have KU4 := Lib.hid (KU2.out.step (k3.step ka))
          have SV4 := Lib.hid (SV2.out.kept (k3.step ka))
          have LQ4 := Lib.hid (LQ.out.keep (k3.step ka) (fun _ _ h => h))
          have BX4 := Lib.hid ((k3.step ka).blk BX2.out (fun h => h))
          have HT4 := Lib.hid ha
          clear hT ka ha sv3 k3 RD KU2 SV2 LQ BX2
          have HS : Hid (∀ w', Kept noBlock u4 w' → ((w'.cell? ⟨P, 0, none⟩ = some (.int .i64 t.index) ∧ w'.cell? ⟨P, 1, none⟩ = some (.int .i64 t.term) ∧ w'.cell? ⟨P, 2, none⟩ = some (.slice A t.pairs.length c) ∧ w'.cell? ⟨P, 3, none⟩ = some (.slice B t.sess.length d)) ∧ (w'.cell? ⟨T, 0, none⟩ = some (.int .i64 0) ∧ w'.cell? ⟨T, 1, none⟩ = some (.int .i64 0) ∧ w'.cell? ⟨T, 2, none⟩ = some (.slice A3 0 c3) ∧ w'.cell? ⟨T, 3, none⟩ = some (.slice B3 0 d3))) ∧ (∀ c, (convert 37 9 (.slice Q N c)).run Try.prog w' = .ok (.string X) w')) := fun w' kk => ⟨⟨st_cells (kk.blk BX4.out (fun h => h)), st_cells (kk.blk HT4.out (fun h => h))⟩, fun c => by rw [HX.out]; exact run_str_lies (P := Try.prog) 37 9 5 Try.underlying37 Try.underlying5 Try.underlying9 (LQ4.out.keep kk (fun _ _ h => h)) HN.out c⟩
          refine wp_region_noPanic ?_
          refine wp_region_held_drew (S := fun w' => ((w'.cell? ⟨P, 0, none⟩ = some (.int .i64 t.index) ∧ w'.cell? ⟨P, 1, none⟩ = some (.int .i64 t.term) ∧ w'.cell? ⟨P, 2, none⟩ = some (.slice A t.pairs.length c) ∧ w'.cell? ⟨P, 3, none⟩ = some (.slice B t.sess.length d)) ∧ (w'.cell? ⟨T, 0, none⟩ = some (.int .i64 0) ∧ w'.cell? ⟨T, 1, none⟩ = some (.int .i64 0) ∧ w'.cell? ⟨T, 2, none⟩ = some (.slice A3 0 c3) ∧ w'.cell? ⟨T, 3, none⟩ = some (.slice B3 0 d3))) ∧ (∀ c, (convert 37 9 (.slice Q N c)).run Try.prog w' = .ok (.string X) w')) (by kernel_rfl) (HS.out _ (Kept.drew _ _)) (fun hHeld => ?_)
          refine wpAnyH_take (i := 0) (oi := ⟨some 44, Op.move (Operand.tmp 7), 37, _, _, none⟩) (v := ?v0n24k1) rfl (by kernel_rfl) (by kernel_rfl) (by kernel_rfl) (fun _ _ _ h => h) (Or.inl ⟨by rfl, ?y0n24k1⟩) hHeld ?z0n24k1
          case y0n24k1 => intro w hSw; (try dsimp only at hSw); go_simp <;> rfl
          try simp only [Act.put, List.setIfInBounds_toArray, List.set_cons_zero, List.set_cons_succ]
          refine wpAnyH_take (i := 1) (oi := ⟨some 45, Op.convert 37 9 (Operand.tmp 44), 9, _, _, none⟩) (v := ?v1n24k2) rfl (by kernel_rfl) (by kernel_rfl) (by kernel_rfl) (fun _ _ _ h => h) (Or.inl ⟨by rfl, ?y1n24k2⟩) hHeld ?z1n24k2
          case y1n24k2 => intro w hSw; (try dsimp only at hSw); go_simp <;> rfl
          try simp only [Act.put, List.setIfInBounds_toArray, List.set_cons_zero, List.set_cons_succ]
          refine wpAnyH_take (i := 2) (oi := ⟨some 46, Op.load 33 (Operand.tmp 6), 33, _, _, none⟩) (v := ?v2n24k3) rfl (by kernel_rfl) (by kernel_rfl) (by kernel_rfl) (fun _ _ _ h => h) (Or.inl ⟨by rfl, ?y2n24k3⟩) hHeld ?z2n24k3
          case y2n24k3 => intro w hSw; (try dsimp only at hSw); go_simp <;> rfl
          try simp only [Act.put, List.setIfInBounds_toArray, List.set_cons_zero, List.set_cons_succ]
          refine wpAnyH_ready (rs := [3]) (by kernel_rfl) (by simp) ?_
          refine AllReadyH.cons (o := ⟨some 47, Op.call { callee := Callee.value (Operand.func 25), args := #[Operand.tmp 46], argTypes := #[33] }, 9, _, _, none⟩) rfl (fun K hK => ?_) AllReadyH.nil
          go_simp
          refine (BY.out _ (SV4.out.kept (Kept.drew _ _))).mono ?_
          rintro en v3 ⟨rfl, k3⟩
          have J3 := Lib.hid ((Kept.drew noBlock u4).step k3)
          clear k3
          dsimp only
          refine hK.out _ _ (HS.out _ J3.out) (fun hHeld => ?_)
          clear hK K
          try simp only [Act.put, List.setIfInBounds_toArray, List.set_cons_zero, List.set_cons_succ]
          refine wpAnyH_take (i := 4) (oi := ⟨some 48, Op.binOp BinOp.neq 9 (Operand.tmp 45) (Operand.tmp 47) 9, 4, _, _, none⟩) (v := ?v4n24k4) rfl (by kernel_rfl) (by kernel_rfl) (by kernel_rfl) (fun _ _ _ h => h) (Or.inl ⟨by rfl, ?y4n24k4⟩) hHeld ?z4n24k4
          case y4n24k4 => intro w hSw; (try dsimp only at hSw); go_simp <;> rfl
          try simp only [Act.put, List.setIfInBounds_toArray, List.set_cons_zero, List.set_cons_succ]
          refine wpAnyH_take (i := 5) (oi := ⟨some 49, Op.move (Operand.tmp 48), 4, _, _, none⟩) (v := ?v5n24k5) rfl (by kernel_rfl) (by kernel_rfl) (by kernel_rfl) (fun _ _ _ h => h) (Or.inl ⟨by rfl, ?y5n24k5⟩) hHeld ?z5n24k5
          case y5n24k5 => intro w hSw; (try dsimp only at hSw); go_simp <;> rfl
          try simp only [Act.put, List.setIfInBounds_toArray, List.set_cons_zero, List.set_cons_succ]
          refine wpAnyH_take (i := 6) (oi := ⟨some 50, Op.load 33 (Operand.tmp 6), 33, _, _, some (5, false)⟩) (v := ?v6n24k6) rfl (by kernel_rfl) (by kernel_rfl) (by kernel_rfl) (fun _ _ _ h => h) (Or.inl ⟨by rfl, ?y6n24k6⟩) hHeld ?z6n24k6
          case y6n24k6 => intro w hSw; (try dsimp only at hSw); go_simp <;> rfl
          try simp only [Act.put, List.setIfInBounds_toArray, List.set_cons_zero, List.set_cons_succ]
          refine wpAnyH_take (i := 8) (oi := ⟨some 52, Op.load 33 (Operand.tmp 6), 33, _, _, some (5, false)⟩) (v := ?v8n24k7) rfl (by kernel_rfl) (by kernel_rfl) (by kernel_rfl) (fun _ _ _ h => h) (Or.inl ⟨by rfl, ?y8n24k7⟩) hHeld ?z8n24k7
          case y8n24k7 => intro w hSw; (try dsimp only at hSw); go_simp <;> rfl
          try simp only [Act.put, List.setIfInBounds_toArray, List.set_cons_zero, List.set_cons_succ]
          refine wpAnyH_ready (rs := [7]) (by kernel_rfl) (by simp) ?_
          refine AllReadyH.cons (o := ⟨some 51, Op.call { callee := Callee.value (Operand.func 16), args := #[Operand.tmp 50], argTypes := #[33] }, 4, _, _, some (5, false)⟩) rfl (fun K hK => ?_) AllReadyH.nil
          go_simp
          refine (RI.out _ (SV4.out.kept J3.out)).mono ?_
          rintro en v7 ⟨rfl, k7⟩
          have J7 := Lib.hid (J3.out.step k7)
          clear k7
          dsimp only
          refine hK.out _ _ (HS.out _ J7.out) (fun hHeld => ?_)
          clear hK K
          try simp only [Act.put, List.setIfInBounds_toArray, List.set_cons_zero, List.set_cons_succ]
          refine wpAnyH_ready (rs := [9]) (by kernel_rfl) (by simp) ?_
          refine AllReadyH.cons (o := ⟨some 53, Op.call { callee := Callee.value (Operand.func 26), args := #[Operand.tmp 52], argTypes := #[33] }, 4, _, _, some (5, false)⟩) rfl (fun K hK => ?_) AllReadyH.nil
          go_simp
          refine (LR.out _ (SV4.out.kept J7.out)).mono ?_
          rintro en v9 ⟨rfl, k9⟩
          have J9 := Lib.hid (J7.out.step k9)
          clear k9
          dsimp only
          refine hK.out _ _ (HS.out _ J9.out) (fun hHeld => ?_)
          clear hK K
          try simp only [Act.put, List.setIfInBounds_toArray, List.set_cons_zero, List.set_cons_succ]
          refine wpAnyH_take (i := 10) (oi := ⟨some 54, Op.binOp BinOp.neq 4 (Operand.tmp 51) (Operand.tmp 53) 4, 4, _, _, some (5, false)⟩) (v := ?v10n24k8) rfl (by kernel_rfl) (by kernel_rfl) (by kernel_rfl) (fun _ _ _ h => h) (Or.inl ⟨by rfl, ?y10n24k8⟩) hHeld ?z10n24k8
          case y10n24k8 => intro w hSw; (try dsimp only at hSw); go_simp <;> rfl
          try simp only [Act.put, List.setIfInBounds_toArray, List.set_cons_zero, List.set_cons_succ]
          refine wpAnyH_take (i := 11) (oi := ⟨some 55, Op.pick (Operand.tmp 49) (Operand.const (Value.bool true)) (Operand.tmp 54), 4, _, _, none⟩) (v := ?v11n24k9) rfl (by kernel_rfl) (by kernel_rfl) (by kernel_rfl) (fun _ _ _ h => h) (Or.inl ⟨by rfl, ?y11n24k9⟩) hHeld ?z11n24k9
          case y11n24k9 => intro w hSw; (try dsimp only at hSw); go_simp <;> rfl
          try simp only [Act.put, List.setIfInBounds_toArray, List.set_cons_zero, List.set_cons_succ]
          refine wpAnyH_take (i := 12) (oi := ⟨some 56, Op.move (Operand.tmp 55), 4, _, _, none⟩) (v := ?v12n24k10) rfl (by kernel_rfl) (by kernel_rfl) (by kernel_rfl) (fun _ _ _ h => h) (Or.inl ⟨by rfl, ?y12n24k10⟩) hHeld ?z12n24k10
          case y12n24k10 => intro w hSw; (try dsimp only at hSw); go_simp <;> rfl
          try simp only [Act.put, List.setIfInBounds_toArray, List.set_cons_zero, List.set_cons_succ]
          refine wpAnyH_take (i := 13) (oi := ⟨some 57, Op.load 33 (Operand.tmp 6), 33, _, _, some (12, false)⟩) (v := ?v13n24k11) rfl (by kernel_rfl) (by kernel_rfl) (by kernel_rfl) (fun _ _ _ h => h) (Or.inl ⟨by rfl, ?y13n24k11⟩) hHeld ?z13n24k11
          case y13n24k11 => intro w hSw; (try dsimp only at hSw); go_simp <;> rfl
          try simp only [Act.put, List.setIfInBounds_toArray, List.set_cons_zero, List.set_cons_succ]
          refine wpAnyH_ready (rs := [14]) (by kernel_rfl) (by simp) ?_
          refine AllReadyH.cons (o := ⟨some 58, Op.call { callee := Callee.value (Operand.func 26), args := #[Operand.tmp 57], argTypes := #[33] }, 4, _, _, some (12, false)⟩) rfl (fun K hK => ?_) AllReadyH.nil
          go_simp
          refine (LR.out _ (SV4.out.kept J9.out)).mono ?_
          rintro en v14 ⟨rfl, k14⟩
          have J14 := Lib.hid (J9.out.step k14)
          clear k14
          dsimp only
          refine hK.out _ _ (HS.out _ J14.out) (fun hHeld => ?_)
          clear hK K
          try simp only [Act.put, List.setIfInBounds_toArray, List.set_cons_zero, List.set_cons_succ]
          refine wpAnyH_take (i := 15) (oi := ⟨some 59, Op.move (Operand.tmp 58), 4, _, _, some (12, false)⟩) (v := ?v15n24k12) rfl (by kernel_rfl) (by kernel_rfl) (by kernel_rfl) (fun _ _ _ h => h) (Or.inl ⟨by rfl, ?y15n24k12⟩) hHeld ?z15n24k12
          case y15n24k12 => intro w hSw; (try dsimp only at hSw); go_simp <;> rfl
          try simp only [Act.put, List.setIfInBounds_toArray, List.set_cons_zero, List.set_cons_succ]
          refine wpAnyH_take (i := 16) (oi := ⟨some 60, Op.move (Operand.tmp 9), 4, _, _, some (15, true)⟩) (v := undef) rfl (by kernel_rfl) (by kernel_rfl) (by kernel_rfl) (fun _ _ _ h => h) (Or.inr ⟨by rfl, rfl⟩) hHeld ?z16n24k13
          try simp only [Act.put, List.setIfInBounds_toArray, List.set_cons_zero, List.set_cons_succ]
          refine wpAnyH_take (i := 17) (oi := ⟨some 61, Op.unOp UnOp.not 4 (Operand.tmp 60), 4, _, _, some (15, true)⟩) (v := undef) rfl (by kernel_rfl) (by kernel_rfl) (by kernel_rfl) (fun _ _ _ h => h) (Or.inr ⟨by rfl, rfl⟩) hHeld ?z17n24k14
          try simp only [Act.put, List.setIfInBounds_toArray, List.set_cons_zero, List.set_cons_succ]
          refine wpAnyH_take (i := 18) (oi := ⟨some 62, Op.move (Operand.tmp 61), 4, _, _, some (15, true)⟩) (v := undef) rfl (by kernel_rfl) (by kernel_rfl) (by kernel_rfl) (fun _ _ _ h => h) (Or.inr ⟨by rfl, rfl⟩) hHeld ?z18n24k15
          try simp only [Act.put, List.setIfInBounds_toArray, List.set_cons_zero, List.set_cons_succ]
          refine wpAnyH_take (i := 19) (oi := ⟨some 63, Op.load 33 (Operand.tmp 6), 33, _, _, some (18, false)⟩) (v := undef) rfl (by kernel_rfl) (by kernel_rfl) (by kernel_rfl) (fun _ _ _ h => h) (Or.inr ⟨by rfl, rfl⟩) hHeld ?z19n24k16
          try simp only [Act.put, List.setIfInBounds_toArray, List.set_cons_zero, List.set_cons_succ]
          refine wpAnyH_take (i := 20) (oi := ⟨some 64, Op.load 33 (Operand.tmp 8), 33, _, _, some (18, false)⟩) (v := undef) rfl (by kernel_rfl) (by kernel_rfl) (by kernel_rfl) (fun _ _ _ h => h) (Or.inr ⟨by rfl, rfl⟩) hHeld ?z20n24k17
          try simp only [Act.put, List.setIfInBounds_toArray, List.set_cons_zero, List.set_cons_succ]
          refine wpAnyH_take (i := 21) (oi := ⟨some 65, Op.call { callee := Callee.value (Operand.func 20), args := #[Operand.tmp 63, Operand.tmp 64], argTypes := #[33, 33] }, 4, _, _, some (18, false)⟩) (v := undef) rfl (by kernel_rfl) (by kernel_rfl) (by kernel_rfl) (fun _ _ _ h => h) (Or.inr ⟨by rfl, rfl⟩) hHeld ?z21n24k18
          try simp only [Act.put, List.setIfInBounds_toArray, List.set_cons_zero, List.set_cons_succ]
          refine wpAnyH_take (i := 22) (oi := ⟨some 66, Op.unOp UnOp.not 4 (Operand.tmp 65), 4, _, _, some (18, false)⟩) (v := undef) rfl (by kernel_rfl) (by kernel_rfl) (by kernel_rfl) (fun _ _ _ h => h) (Or.inr ⟨by rfl, rfl⟩) hHeld ?z22n24k19
          try simp only [Act.put, List.setIfInBounds_toArray, List.set_cons_zero, List.set_cons_succ]
          refine wpAnyH_take (i := 23) (oi := ⟨some 67, Op.pick (Operand.tmp 62) (Operand.const (Value.bool true)) (Operand.tmp 66), 4, _, _, some (15, true)⟩) (v := undef) rfl (by kernel_rfl) (by kernel_rfl) (by kernel_rfl) (fun _ _ _ h => h) (Or.inr ⟨by rfl, rfl⟩) hHeld ?z23n24k20
          try simp only [Act.put, List.setIfInBounds_toArray, List.set_cons_zero, List.set_cons_succ]
          refine wpAnyH_take (i := 24) (oi := ⟨some 68, Op.pick (Operand.tmp 59) (Operand.tmp 67) (Operand.const (Value.bool false)), 4, _, _, some (12, false)⟩) (v := ?v24n24k21) rfl (by kernel_rfl) (by kernel_rfl) (by kernel_rfl) (fun _ _ _ h => h) (Or.inl ⟨by rfl, ?y24n24k21⟩) hHeld ?z24n24k21
          case y24n24k21 => intro w hSw; (try dsimp only at hSw); go_simp <;> rfl
          try simp only [Act.put, List.setIfInBounds_toArray, List.set_cons_zero, List.set_cons_succ]
          refine wpAnyH_take (i := 25) (oi := ⟨some 69, Op.pick (Operand.tmp 56) (Operand.const (Value.bool true)) (Operand.tmp 68), 4, _, _, none⟩) (v := ?v25n24k22) rfl (by kernel_rfl) (by kernel_rfl) (by kernel_rfl) (fun _ _ _ h => h) (Or.inl ⟨by rfl, ?y25n24k22⟩) hHeld ?z25n24k22
          case y25n24k22 => intro w hSw; (try dsimp only at hSw); go_simp <;> rfl
          try simp only [Act.put, List.setIfInBounds_toArray, List.set_cons_zero, List.set_cons_succ]
          refine wpAnyH_take (i := 26) (oi := ⟨some 70, Op.move (Operand.tmp 69), 4, _, _, none⟩) (v := ?v26n24k23) rfl (by kernel_rfl) (by kernel_rfl) (by kernel_rfl) (fun _ _ _ h => h) (Or.inl ⟨by rfl, ?y26n24k23⟩) hHeld ?z26n24k23
          case y26n24k23 => intro w hSw; (try dsimp only at hSw); go_simp <;> rfl
          try simp only [Act.put, List.setIfInBounds_toArray, List.set_cons_zero, List.set_cons_succ]
          refine wpAnyH_take (i := 27) (oi := ⟨some 71, Op.move (Operand.tmp 9), 4, _, _, some (26, false)⟩) (v := ?v27n24k24) rfl (by kernel_rfl) (by kernel_rfl) (by kernel_rfl) (fun _ _ _ h => h) (Or.inl ⟨by rfl, ?y27n24k24⟩) hHeld ?z27n24k24
          case y27n24k24 => intro w hSw; (try dsimp only at hSw); go_simp <;> rfl
          try simp only [Act.put, List.setIfInBounds_toArray, List.set_cons_zero, List.set_cons_succ]
          refine wpAnyH_take (i := 28) (oi := ⟨some 72, Op.move (Operand.tmp 71), 4, _, _, some (26, false)⟩) (v := ?v28n24k25) rfl (by kernel_rfl) (by kernel_rfl) (by kernel_rfl) (fun _ _ _ h => h) (Or.inl ⟨by rfl, ?y28n24k25⟩) hHeld ?z28n24k25
          case y28n24k25 => intro w hSw; (try dsimp only at hSw); go_simp <;> rfl
          try simp only [Act.put, List.setIfInBounds_toArray, List.set_cons_zero, List.set_cons_succ]
          refine wpAnyH_take (i := 29) (oi := ⟨some 73, Op.load 33 (Operand.tmp 8), 33, _, _, some (28, true)⟩) (v := undef) rfl (by kernel_rfl) (by kernel_rfl) (by kernel_rfl) (fun _ _ _ h => h) (Or.inr ⟨by rfl, rfl⟩) hHeld ?z29n24k26
          try simp only [Act.put, List.setIfInBounds_toArray, List.set_cons_zero, List.set_cons_succ]
          refine wpAnyH_take (i := 30) (oi := ⟨some 74, Op.call { callee := Callee.value (Operand.func 26), args := #[Operand.tmp 73], argTypes := #[33] }, 4, _, _, some (28, true)⟩) (v := undef) rfl (by kernel_rfl) (by kernel_rfl) (by kernel_rfl) (fun _ _ _ h => h) (Or.inr ⟨by rfl, rfl⟩) hHeld ?z30n24k27
          try simp only [Act.put, List.setIfInBounds_toArray, List.set_cons_zero, List.set_cons_succ]
          refine wpAnyH_take (i := 31) (oi := ⟨some 75, Op.unOp UnOp.not 4 (Operand.tmp 74), 4, _, _, some (28, true)⟩) (v := undef) rfl (by kernel_rfl) (by kernel_rfl) (by kernel_rfl) (fun _ _ _ h => h) (Or.inr ⟨by rfl, rfl⟩) hHeld ?z31n24k28
          try simp only [Act.put, List.setIfInBounds_toArray, List.set_cons_zero, List.set_cons_succ]
          refine wpAnyH_take (i := 32) (oi := ⟨some 76, Op.move (Operand.tmp 75), 4, _, _, some (28, true)⟩) (v := undef) rfl (by kernel_rfl) (by kernel_rfl) (by kernel_rfl) (fun _ _ _ h => h) (Or.inr ⟨by rfl, rfl⟩) hHeld ?z32n24k29
          try simp only [Act.put, List.setIfInBounds_toArray, List.set_cons_zero, List.set_cons_succ]
          refine wpAnyH_take (i := 33) (oi := ⟨some 77, Op.load 33 (Operand.tmp 8), 33, _, _, some (32, false)⟩) (v := undef) rfl (by kernel_rfl) (by kernel_rfl) (by kernel_rfl) (fun _ _ _ h => h) (Or.inr ⟨by rfl, rfl⟩) hHeld ?z33n24k30
          try simp only [Act.put, List.setIfInBounds_toArray, List.set_cons_zero, List.set_cons_succ]
          refine wpAnyH_take (i := 34) (oi := ⟨some 78, Op.call { callee := Callee.value (Operand.func 25), args := #[Operand.tmp 77], argTypes := #[33] }, 9, _, _, some (32, false)⟩) (v := undef) rfl (by kernel_rfl) (by kernel_rfl) (by kernel_rfl) (fun _ _ _ h => h) (Or.inr ⟨by rfl, rfl⟩) hHeld ?z34n24k31
          try simp only [Act.put, List.setIfInBounds_toArray, List.set_cons_zero, List.set_cons_succ]
          refine wpAnyH_take (i := 35) (oi := ⟨some 79, Op.move (Operand.tmp 7), 37, _, _, some (32, false)⟩) (v := undef) rfl (by kernel_rfl) (by kernel_rfl) (by kernel_rfl) (fun _ _ _ h => h) (Or.inr ⟨by rfl, rfl⟩) hHeld ?z35n24k32
          try simp only [Act.put, List.setIfInBounds_toArray, List.set_cons_zero, List.set_cons_succ]
          refine wpAnyH_take (i := 36) (oi := ⟨some 80, Op.convert 37 9 (Operand.tmp 79), 9, _, _, some (32, false)⟩) (v := undef) rfl (by kernel_rfl) (by kernel_rfl) (by kernel_rfl) (fun _ _ _ h => h) (Or.inr ⟨by rfl, rfl⟩) hHeld ?z36n24k33
          try simp only [Act.put, List.setIfInBounds_toArray, List.set_cons_zero, List.set_cons_succ]
          refine wpAnyH_take (i := 37) (oi := ⟨some 81, Op.binOp BinOp.neq 9 (Operand.tmp 78) (Operand.tmp 80) 9, 4, _, _, some (32, false)⟩) (v := undef) rfl (by kernel_rfl) (by kernel_rfl) (by kernel_rfl) (fun _ _ _ h => h) (Or.inr ⟨by rfl, rfl⟩) hHeld ?z37n24k34
          try simp only [Act.put, List.setIfInBounds_toArray, List.set_cons_zero, List.set_cons_succ]
          refine wpAnyH_take (i := 38) (oi := ⟨some 82, Op.pick (Operand.tmp 76) (Operand.const (Value.bool true)) (Operand.tmp 81), 4, _, _, some (28, true)⟩) (v := undef) rfl (by kernel_rfl) (by kernel_rfl) (by kernel_rfl) (fun _ _ _ h => h) (Or.inr ⟨by rfl, rfl⟩) hHeld ?z38n24k35
          try simp only [Act.put, List.setIfInBounds_toArray, List.set_cons_zero, List.set_cons_succ]
          refine wpAnyH_take (i := 39) (oi := ⟨some 83, Op.pick (Operand.tmp 72) (Operand.tmp 82) (Operand.const (Value.bool false)), 4, _, _, some (26, false)⟩) (v := ?v39n24k36) rfl (by kernel_rfl) (by kernel_rfl) (by kernel_rfl) (fun _ _ _ h => h) (Or.inl ⟨by rfl, ?y39n24k36⟩) hHeld ?z39n24k36
          case y39n24k36 => intro w hSw; (try dsimp only at hSw); go_simp <;> rfl
          try simp only [Act.put, List.setIfInBounds_toArray, List.set_cons_zero, List.set_cons_succ]
          refine wpAnyH_take (i := 40) (oi := ⟨some 84, Op.pick (Operand.tmp 70) (Operand.const (Value.bool true)) (Operand.tmp 83), 4, _, _, none⟩) (v := ?v40n24k37) rfl (by kernel_rfl) (by kernel_rfl) (by kernel_rfl) (fun _ _ _ h => h) (Or.inl ⟨by rfl, ?y40n24k37⟩) hHeld ?z40n24k37
          case y40n24k37 => intro w hSw; (try dsimp only at hSw); go_simp <;> rfl
          try simp only [Act.put, List.setIfInBounds_toArray, List.set_cons_zero, List.set_cons_succ]
          refine wpAnyH_done (by kernel_rfl) ?_ _
          refine NoPanic.normal ?_
          have KE := Lib.hid (KU4.out.step J14.out)
          clear hHeld HS
          go_wp2
          go_roundw
          case rel => exact ⟨k + 1, by omega, by go_num, KE⟩
          case measure => simp [intOf]; omega
        · obtain ⟨hr, hby⟩ := gotT_true hok
          rw [hE] at hr hby
          have hln := hr.len
          have hln2 := hr.lens
          have LT := Lib.hid (fun u {A3 B3 : Option Addr} {c3 d3 : Nat} (hu : Sv u (fun _ => True) E A3 c3 B3 d3) => lright_any _ E A3 c3 B3 d3 u hu (by omega) (by omega))
          rw [decide_eq_true hr] at LT
          have BT := Lib.hid (fun u {A3 B3 : Option Addr} {c3 d3 : Nat} (hu : Sv u (fun _ => True) E A3 c3 B3 d3) => lbytes_any _ E A3 c3 B3 d3 N u hu (by rw [hby]; exact HN.out) (by omega))
          rw [hby, ← HX.out] at BT
          unfold stv at LT BT
          clear hok hE hr hby hln hln2
          unfold stv at RD
          go_wp2_with fail
          refine RD.out.mono ?_
          rintro en u3 ⟨A3, c3, B3, d3, rfl, sv3, k3⟩
          have ka := Kept.alloc noBlock u3 (.cells #[.int .i64 E.index, .int .i64 E.term, .slice A3 E.pairs.length c3, .slice B3 E.sess.length d3] 33)
          have ha := heap_alloc_new u3 (.cells #[.int .i64 E.index, .int .i64 E.term, .slice A3 E.pairs.length c3, .slice B3 E.sess.length d3] 33)
          go_upto_region 9 with (fail)
          obtain ⟨T, hT⟩ : ∃ T, T = u3.heap.size := ⟨_, rfl⟩
          rw [← hT] at ha ⊢
          generalize u3.alloc (.cells #[.int .i64 E.index, .int .i64 E.term, .slice A3 E.pairs.length c3, .slice B3 E.sess.length d3] 33) = u4 at ka ha ⊢
          have KU4 := Lib.hid (KU2.out.step (k3.step ka))
          have SV4 := Lib.hid (SV2.out.kept (k3.step ka))
          have SE4 := Lib.hid ((sv3.mono (G := fun _ => True) (fun _ _ => trivial)).kept ka)
          have LQ4 := Lib.hid (LQ.out.keep (k3.step ka) (fun _ _ h => h))
          have BX4 := Lib.hid ((k3.step ka).blk BX2.out (fun h => h))
          have HT4 := Lib.hid ha
          clear hT ka ha sv3 k3 RD KU2 SV2 LQ BX2
          have HS : Hid (∀ w', Kept noBlock u4 w' → ((w'.cell? ⟨P, 0, none⟩ = some (.int .i64 t.index) ∧ w'.cell? ⟨P, 1, none⟩ = some (.int .i64 t.term) ∧ w'.cell? ⟨P, 2, none⟩ = some (.slice A t.pairs.length c) ∧ w'.cell? ⟨P, 3, none⟩ = some (.slice B t.sess.length d)) ∧ (w'.cell? ⟨T, 0, none⟩ = some (.int .i64 E.index) ∧ w'.cell? ⟨T, 1, none⟩ = some (.int .i64 E.term) ∧ w'.cell? ⟨T, 2, none⟩ = some (.slice A3 E.pairs.length c3) ∧ w'.cell? ⟨T, 3, none⟩ = some (.slice B3 E.sess.length d3))) ∧ (∀ c, (convert 37 9 (.slice Q N c)).run Try.prog w' = .ok (.string X) w')) := fun w' kk => ⟨⟨st_cells (kk.blk BX4.out (fun h => h)), st_cells (kk.blk HT4.out (fun h => h))⟩, fun c => by rw [HX.out]; exact run_str_lies (P := Try.prog) 37 9 5 Try.underlying37 Try.underlying5 Try.underlying9 (LQ4.out.keep kk (fun _ _ h => h)) HN.out c⟩
          refine wp_region_noPanic ?_
          refine wp_region_held_drew (S := fun w' => ((w'.cell? ⟨P, 0, none⟩ = some (.int .i64 t.index) ∧ w'.cell? ⟨P, 1, none⟩ = some (.int .i64 t.term) ∧ w'.cell? ⟨P, 2, none⟩ = some (.slice A t.pairs.length c) ∧ w'.cell? ⟨P, 3, none⟩ = some (.slice B t.sess.length d)) ∧ (w'.cell? ⟨T, 0, none⟩ = some (.int .i64 E.index) ∧ w'.cell? ⟨T, 1, none⟩ = some (.int .i64 E.term) ∧ w'.cell? ⟨T, 2, none⟩ = some (.slice A3 E.pairs.length c3) ∧ w'.cell? ⟨T, 3, none⟩ = some (.slice B3 E.sess.length d3))) ∧ (∀ c, (convert 37 9 (.slice Q N c)).run Try.prog w' = .ok (.string X) w')) (by kernel_rfl) (HS.out _ (Kept.drew _ _)) (fun hHeld => ?_)
          refine wpAnyH_take (i := 0) (oi := ⟨some 44, Op.move (Operand.tmp 7), 37, _, _, none⟩) (v := ?v0n25k1) rfl (by kernel_rfl) (by kernel_rfl) (by kernel_rfl) (fun _ _ _ h => h) (Or.inl ⟨by rfl, ?y0n25k1⟩) hHeld ?z0n25k1
          case y0n25k1 => intro w hSw; (try dsimp only at hSw); go_simp <;> rfl
          try simp only [Act.put, List.setIfInBounds_toArray, List.set_cons_zero, List.set_cons_succ]
          refine wpAnyH_take (i := 1) (oi := ⟨some 45, Op.convert 37 9 (Operand.tmp 44), 9, _, _, none⟩) (v := ?v1n25k2) rfl (by kernel_rfl) (by kernel_rfl) (by kernel_rfl) (fun _ _ _ h => h) (Or.inl ⟨by rfl, ?y1n25k2⟩) hHeld ?z1n25k2
          case y1n25k2 => intro w hSw; (try dsimp only at hSw); go_simp <;> rfl
          try simp only [Act.put, List.setIfInBounds_toArray, List.set_cons_zero, List.set_cons_succ]
          refine wpAnyH_take (i := 2) (oi := ⟨some 46, Op.load 33 (Operand.tmp 6), 33, _, _, none⟩) (v := ?v2n25k3) rfl (by kernel_rfl) (by kernel_rfl) (by kernel_rfl) (fun _ _ _ h => h) (Or.inl ⟨by rfl, ?y2n25k3⟩) hHeld ?z2n25k3
          case y2n25k3 => intro w hSw; (try dsimp only at hSw); go_simp <;> rfl
          try simp only [Act.put, List.setIfInBounds_toArray, List.set_cons_zero, List.set_cons_succ]
          refine wpAnyH_ready (rs := [3]) (by kernel_rfl) (by simp) ?_
          refine AllReadyH.cons (o := ⟨some 47, Op.call { callee := Callee.value (Operand.func 25), args := #[Operand.tmp 46], argTypes := #[33] }, 9, _, _, none⟩) rfl (fun K hK => ?_) AllReadyH.nil
          go_simp
          refine (BY.out _ (SV4.out.kept (Kept.drew _ _))).mono ?_
          rintro en v3 ⟨rfl, k3⟩
          have J3 := Lib.hid ((Kept.drew noBlock u4).step k3)
          clear k3
          dsimp only
          refine hK.out _ _ (HS.out _ J3.out) (fun hHeld => ?_)
          clear hK K
          try simp only [Act.put, List.setIfInBounds_toArray, List.set_cons_zero, List.set_cons_succ]
          refine wpAnyH_take (i := 4) (oi := ⟨some 48, Op.binOp BinOp.neq 9 (Operand.tmp 45) (Operand.tmp 47) 9, 4, _, _, none⟩) (v := ?v4n25k4) rfl (by kernel_rfl) (by kernel_rfl) (by kernel_rfl) (fun _ _ _ h => h) (Or.inl ⟨by rfl, ?y4n25k4⟩) hHeld ?z4n25k4
          case y4n25k4 => intro w hSw; (try dsimp only at hSw); go_simp <;> rfl
          try simp only [Act.put, List.setIfInBounds_toArray, List.set_cons_zero, List.set_cons_succ]
          refine wpAnyH_take (i := 5) (oi := ⟨some 49, Op.move (Operand.tmp 48), 4, _, _, none⟩) (v := ?v5n25k5) rfl (by kernel_rfl) (by kernel_rfl) (by kernel_rfl) (fun _ _ _ h => h) (Or.inl ⟨by rfl, ?y5n25k5⟩) hHeld ?z5n25k5
          case y5n25k5 => intro w hSw; (try dsimp only at hSw); go_simp <;> rfl
          try simp only [Act.put, List.setIfInBounds_toArray, List.set_cons_zero, List.set_cons_succ]
          refine wpAnyH_take (i := 6) (oi := ⟨some 50, Op.load 33 (Operand.tmp 6), 33, _, _, some (5, false)⟩) (v := ?v6n25k6) rfl (by kernel_rfl) (by kernel_rfl) (by kernel_rfl) (fun _ _ _ h => h) (Or.inl ⟨by rfl, ?y6n25k6⟩) hHeld ?z6n25k6
          case y6n25k6 => intro w hSw; (try dsimp only at hSw); go_simp <;> rfl
          try simp only [Act.put, List.setIfInBounds_toArray, List.set_cons_zero, List.set_cons_succ]
          refine wpAnyH_take (i := 8) (oi := ⟨some 52, Op.load 33 (Operand.tmp 6), 33, _, _, some (5, false)⟩) (v := ?v8n25k7) rfl (by kernel_rfl) (by kernel_rfl) (by kernel_rfl) (fun _ _ _ h => h) (Or.inl ⟨by rfl, ?y8n25k7⟩) hHeld ?z8n25k7
          case y8n25k7 => intro w hSw; (try dsimp only at hSw); go_simp <;> rfl
          try simp only [Act.put, List.setIfInBounds_toArray, List.set_cons_zero, List.set_cons_succ]
          refine wpAnyH_ready (rs := [7]) (by kernel_rfl) (by simp) ?_
          refine AllReadyH.cons (o := ⟨some 51, Op.call { callee := Callee.value (Operand.func 16), args := #[Operand.tmp 50], argTypes := #[33] }, 4, _, _, some (5, false)⟩) rfl (fun K hK => ?_) AllReadyH.nil
          go_simp
          refine (RI.out _ (SV4.out.kept J3.out)).mono ?_
          rintro en v7 ⟨rfl, k7⟩
          have J7 := Lib.hid (J3.out.step k7)
          clear k7
          dsimp only
          refine hK.out _ _ (HS.out _ J7.out) (fun hHeld => ?_)
          clear hK K
          try simp only [Act.put, List.setIfInBounds_toArray, List.set_cons_zero, List.set_cons_succ]
          refine wpAnyH_ready (rs := [9]) (by kernel_rfl) (by simp) ?_
          refine AllReadyH.cons (o := ⟨some 53, Op.call { callee := Callee.value (Operand.func 26), args := #[Operand.tmp 52], argTypes := #[33] }, 4, _, _, some (5, false)⟩) rfl (fun K hK => ?_) AllReadyH.nil
          go_simp
          refine (LR.out _ (SV4.out.kept J7.out)).mono ?_
          rintro en v9 ⟨rfl, k9⟩
          have J9 := Lib.hid (J7.out.step k9)
          clear k9
          dsimp only
          refine hK.out _ _ (HS.out _ J9.out) (fun hHeld => ?_)
          clear hK K
          try simp only [Act.put, List.setIfInBounds_toArray, List.set_cons_zero, List.set_cons_succ]
          refine wpAnyH_take (i := 10) (oi := ⟨some 54, Op.binOp BinOp.neq 4 (Operand.tmp 51) (Operand.tmp 53) 4, 4, _, _, some (5, false)⟩) (v := ?v10n25k8) rfl (by kernel_rfl) (by kernel_rfl) (by kernel_rfl) (fun _ _ _ h => h) (Or.inl ⟨by rfl, ?y10n25k8⟩) hHeld ?z10n25k8
          case y10n25k8 => intro w hSw; (try dsimp only at hSw); go_simp <;> rfl
          try simp only [Act.put, List.setIfInBounds_toArray, List.set_cons_zero, List.set_cons_succ]
          refine wpAnyH_take (i := 11) (oi := ⟨some 55, Op.pick (Operand.tmp 49) (Operand.const (Value.bool true)) (Operand.tmp 54), 4, _, _, none⟩) (v := ?v11n25k9) rfl (by kernel_rfl) (by kernel_rfl) (by kernel_rfl) (fun _ _ _ h => h) (Or.inl ⟨by rfl, ?y11n25k9⟩) hHeld ?z11n25k9
          case y11n25k9 => intro w hSw; (try dsimp only at hSw); go_simp <;> rfl
          try simp only [Act.put, List.setIfInBounds_toArray, List.set_cons_zero, List.set_cons_succ]
          refine wpAnyH_take (i := 12) (oi := ⟨some 56, Op.move (Operand.tmp 55), 4, _, _, none⟩) (v := ?v12n25k10) rfl (by kernel_rfl) (by kernel_rfl) (by kernel_rfl) (fun _ _ _ h => h) (Or.inl ⟨by rfl, ?y12n25k10⟩) hHeld ?z12n25k10
          case y12n25k10 => intro w hSw; (try dsimp only at hSw); go_simp <;> rfl
          try simp only [Act.put, List.setIfInBounds_toArray, List.set_cons_zero, List.set_cons_succ]
          refine wpAnyH_take (i := 13) (oi := ⟨some 57, Op.load 33 (Operand.tmp 6), 33, _, _, some (12, false)⟩) (v := ?v13n25k11) rfl (by kernel_rfl) (by kernel_rfl) (by kernel_rfl) (fun _ _ _ h => h) (Or.inl ⟨by rfl, ?y13n25k11⟩) hHeld ?z13n25k11
          case y13n25k11 => intro w hSw; (try dsimp only at hSw); go_simp <;> rfl
          try simp only [Act.put, List.setIfInBounds_toArray, List.set_cons_zero, List.set_cons_succ]
          refine wpAnyH_ready (rs := [14]) (by kernel_rfl) (by simp) ?_
          refine AllReadyH.cons (o := ⟨some 58, Op.call { callee := Callee.value (Operand.func 26), args := #[Operand.tmp 57], argTypes := #[33] }, 4, _, _, some (12, false)⟩) rfl (fun K hK => ?_) AllReadyH.nil
          go_simp
          refine (LR.out _ (SV4.out.kept J9.out)).mono ?_
          rintro en v14 ⟨rfl, k14⟩
          have J14 := Lib.hid (J9.out.step k14)
          clear k14
          dsimp only
          refine hK.out _ _ (HS.out _ J14.out) (fun hHeld => ?_)
          clear hK K
          try simp only [Act.put, List.setIfInBounds_toArray, List.set_cons_zero, List.set_cons_succ]
          refine wpAnyH_take (i := 15) (oi := ⟨some 59, Op.move (Operand.tmp 58), 4, _, _, some (12, false)⟩) (v := ?v15n25k12) rfl (by kernel_rfl) (by kernel_rfl) (by kernel_rfl) (fun _ _ _ h => h) (Or.inl ⟨by rfl, ?y15n25k12⟩) hHeld ?z15n25k12
          case y15n25k12 => intro w hSw; (try dsimp only at hSw); go_simp <;> rfl
          try simp only [Act.put, List.setIfInBounds_toArray, List.set_cons_zero, List.set_cons_succ]
          refine wpAnyH_take (i := 16) (oi := ⟨some 60, Op.move (Operand.tmp 9), 4, _, _, some (15, true)⟩) (v := undef) rfl (by kernel_rfl) (by kernel_rfl) (by kernel_rfl) (fun _ _ _ h => h) (Or.inr ⟨by rfl, rfl⟩) hHeld ?z16n25k13
          try simp only [Act.put, List.setIfInBounds_toArray, List.set_cons_zero, List.set_cons_succ]
          refine wpAnyH_take (i := 17) (oi := ⟨some 61, Op.unOp UnOp.not 4 (Operand.tmp 60), 4, _, _, some (15, true)⟩) (v := undef) rfl (by kernel_rfl) (by kernel_rfl) (by kernel_rfl) (fun _ _ _ h => h) (Or.inr ⟨by rfl, rfl⟩) hHeld ?z17n25k14
          try simp only [Act.put, List.setIfInBounds_toArray, List.set_cons_zero, List.set_cons_succ]
          refine wpAnyH_take (i := 18) (oi := ⟨some 62, Op.move (Operand.tmp 61), 4, _, _, some (15, true)⟩) (v := undef) rfl (by kernel_rfl) (by kernel_rfl) (by kernel_rfl) (fun _ _ _ h => h) (Or.inr ⟨by rfl, rfl⟩) hHeld ?z18n25k15
          try simp only [Act.put, List.setIfInBounds_toArray, List.set_cons_zero, List.set_cons_succ]
          refine wpAnyH_take (i := 19) (oi := ⟨some 63, Op.load 33 (Operand.tmp 6), 33, _, _, some (18, false)⟩) (v := undef) rfl (by kernel_rfl) (by kernel_rfl) (by kernel_rfl) (fun _ _ _ h => h) (Or.inr ⟨by rfl, rfl⟩) hHeld ?z19n25k16
          try simp only [Act.put, List.setIfInBounds_toArray, List.set_cons_zero, List.set_cons_succ]
          refine wpAnyH_take (i := 20) (oi := ⟨some 64, Op.load 33 (Operand.tmp 8), 33, _, _, some (18, false)⟩) (v := undef) rfl (by kernel_rfl) (by kernel_rfl) (by kernel_rfl) (fun _ _ _ h => h) (Or.inr ⟨by rfl, rfl⟩) hHeld ?z20n25k17
          try simp only [Act.put, List.setIfInBounds_toArray, List.set_cons_zero, List.set_cons_succ]
          refine wpAnyH_take (i := 21) (oi := ⟨some 65, Op.call { callee := Callee.value (Operand.func 20), args := #[Operand.tmp 63, Operand.tmp 64], argTypes := #[33, 33] }, 4, _, _, some (18, false)⟩) (v := undef) rfl (by kernel_rfl) (by kernel_rfl) (by kernel_rfl) (fun _ _ _ h => h) (Or.inr ⟨by rfl, rfl⟩) hHeld ?z21n25k18
          try simp only [Act.put, List.setIfInBounds_toArray, List.set_cons_zero, List.set_cons_succ]
          refine wpAnyH_take (i := 22) (oi := ⟨some 66, Op.unOp UnOp.not 4 (Operand.tmp 65), 4, _, _, some (18, false)⟩) (v := undef) rfl (by kernel_rfl) (by kernel_rfl) (by kernel_rfl) (fun _ _ _ h => h) (Or.inr ⟨by rfl, rfl⟩) hHeld ?z22n25k19
          try simp only [Act.put, List.setIfInBounds_toArray, List.set_cons_zero, List.set_cons_succ]
          refine wpAnyH_take (i := 23) (oi := ⟨some 67, Op.pick (Operand.tmp 62) (Operand.const (Value.bool true)) (Operand.tmp 66), 4, _, _, some (15, true)⟩) (v := undef) rfl (by kernel_rfl) (by kernel_rfl) (by kernel_rfl) (fun _ _ _ h => h) (Or.inr ⟨by rfl, rfl⟩) hHeld ?z23n25k20
          try simp only [Act.put, List.setIfInBounds_toArray, List.set_cons_zero, List.set_cons_succ]
          refine wpAnyH_take (i := 24) (oi := ⟨some 68, Op.pick (Operand.tmp 59) (Operand.tmp 67) (Operand.const (Value.bool false)), 4, _, _, some (12, false)⟩) (v := ?v24n25k21) rfl (by kernel_rfl) (by kernel_rfl) (by kernel_rfl) (fun _ _ _ h => h) (Or.inl ⟨by rfl, ?y24n25k21⟩) hHeld ?z24n25k21
          case y24n25k21 => intro w hSw; (try dsimp only at hSw); go_simp <;> rfl
          try simp only [Act.put, List.setIfInBounds_toArray, List.set_cons_zero, List.set_cons_succ]
          refine wpAnyH_take (i := 25) (oi := ⟨some 69, Op.pick (Operand.tmp 56) (Operand.const (Value.bool true)) (Operand.tmp 68), 4, _, _, none⟩) (v := ?v25n25k22) rfl (by kernel_rfl) (by kernel_rfl) (by kernel_rfl) (fun _ _ _ h => h) (Or.inl ⟨by rfl, ?y25n25k22⟩) hHeld ?z25n25k22
          case y25n25k22 => intro w hSw; (try dsimp only at hSw); go_simp <;> rfl
          try simp only [Act.put, List.setIfInBounds_toArray, List.set_cons_zero, List.set_cons_succ]
          refine wpAnyH_take (i := 26) (oi := ⟨some 70, Op.move (Operand.tmp 69), 4, _, _, none⟩) (v := ?v26n25k23) rfl (by kernel_rfl) (by kernel_rfl) (by kernel_rfl) (fun _ _ _ h => h) (Or.inl ⟨by rfl, ?y26n25k23⟩) hHeld ?z26n25k23
          case y26n25k23 => intro w hSw; (try dsimp only at hSw); go_simp <;> rfl
          try simp only [Act.put, List.setIfInBounds_toArray, List.set_cons_zero, List.set_cons_succ]
          refine wpAnyH_take (i := 27) (oi := ⟨some 71, Op.move (Operand.tmp 9), 4, _, _, some (26, false)⟩) (v := ?v27n25k24) rfl (by kernel_rfl) (by kernel_rfl) (by kernel_rfl) (fun _ _ _ h => h) (Or.inl ⟨by rfl, ?y27n25k24⟩) hHeld ?z27n25k24
          case y27n25k24 => intro w hSw; (try dsimp only at hSw); go_simp <;> rfl
          try simp only [Act.put, List.setIfInBounds_toArray, List.set_cons_zero, List.set_cons_succ]
          refine wpAnyH_take (i := 28) (oi := ⟨some 72, Op.move (Operand.tmp 71), 4, _, _, some (26, false)⟩) (v := ?v28n25k25) rfl (by kernel_rfl) (by kernel_rfl) (by kernel_rfl) (fun _ _ _ h => h) (Or.inl ⟨by rfl, ?y28n25k25⟩) hHeld ?z28n25k25
          case y28n25k25 => intro w hSw; (try dsimp only at hSw); go_simp <;> rfl
          try simp only [Act.put, List.setIfInBounds_toArray, List.set_cons_zero, List.set_cons_succ]
          refine wpAnyH_take (i := 29) (oi := ⟨some 73, Op.load 33 (Operand.tmp 8), 33, _, _, some (28, true)⟩) (v := ?v29n25k26) rfl (by kernel_rfl) (by kernel_rfl) (by kernel_rfl) (fun _ _ _ h => h) (Or.inl ⟨by rfl, ?y29n25k26⟩) hHeld ?z29n25k26
          case y29n25k26 => intro w hSw; (try dsimp only at hSw); go_simp <;> rfl
          try simp only [Act.put, List.setIfInBounds_toArray, List.set_cons_zero, List.set_cons_succ]
          refine wpAnyH_ready (rs := [30]) (by kernel_rfl) (by simp) ?_
          refine AllReadyH.cons (o := ⟨some 74, Op.call { callee := Callee.value (Operand.func 26), args := #[Operand.tmp 73], argTypes := #[33] }, 4, _, _, some (28, true)⟩) rfl (fun K hK => ?_) AllReadyH.nil
          go_simp
          refine (LT.out _ (SE4.out.kept J14.out)).mono ?_
          rintro en v30 ⟨rfl, k30⟩
          have J30 := Lib.hid (J14.out.step k30)
          clear k30
          dsimp only
          refine hK.out _ _ (HS.out _ J30.out) (fun hHeld => ?_)
          clear hK K
          try simp only [Act.put, List.setIfInBounds_toArray, List.set_cons_zero, List.set_cons_succ]
          refine wpAnyH_take (i := 31) (oi := ⟨some 75, Op.unOp UnOp.not 4 (Operand.tmp 74), 4, _, _, some (28, true)⟩) (v := ?v31n25k27) rfl (by kernel_rfl) (by kernel_rfl) (by kernel_rfl) (fun _ _ _ h => h) (Or.inl ⟨by rfl, ?y31n25k27⟩) hHeld ?z31n25k27
          case y31n25k27 => intro w hSw; (try dsimp only at hSw); go_simp <;> rfl
          try simp only [Act.put, List.setIfInBounds_toArray, List.set_cons_zero, List.set_cons_succ]
          refine wpAnyH_take (i := 32) (oi := ⟨some 76, Op.move (Operand.tmp 75), 4, _, _, some (28, true)⟩) (v := ?v32n25k28) rfl (by kernel_rfl) (by kernel_rfl) (by kernel_rfl) (fun _ _ _ h => h) (Or.inl ⟨by rfl, ?y32n25k28⟩) hHeld ?z32n25k28
          case y32n25k28 => intro w hSw; (try dsimp only at hSw); go_simp <;> rfl
          try simp only [Act.put, List.setIfInBounds_toArray, List.set_cons_zero, List.set_cons_succ]
          refine wpAnyH_take (i := 33) (oi := ⟨some 77, Op.load 33 (Operand.tmp 8), 33, _, _, some (32, false)⟩) (v := ?v33n25k29) rfl (by kernel_rfl) (by kernel_rfl) (by kernel_rfl) (fun _ _ _ h => h) (Or.inl ⟨by rfl, ?y33n25k29⟩) hHeld ?z33n25k29
          case y33n25k29 => intro w hSw; (try dsimp only at hSw); go_simp <;> rfl
          try simp only [Act.put, List.setIfInBounds_toArray, List.set_cons_zero, List.set_cons_succ]
          refine wpAnyH_take (i := 35) (oi := ⟨some 79, Op.move (Operand.tmp 7), 37, _, _, some (32, false)⟩) (v := ?v35n25k30) rfl (by kernel_rfl) (by kernel_rfl) (by kernel_rfl) (fun _ _ _ h => h) (Or.inl ⟨by rfl, ?y35n25k30⟩) hHeld ?z35n25k30
          case y35n25k30 => intro w hSw; (try dsimp only at hSw); go_simp <;> rfl
          try simp only [Act.put, List.setIfInBounds_toArray, List.set_cons_zero, List.set_cons_succ]
          refine wpAnyH_take (i := 36) (oi := ⟨some 80, Op.convert 37 9 (Operand.tmp 79), 9, _, _, some (32, false)⟩) (v := ?v36n25k31) rfl (by kernel_rfl) (by kernel_rfl) (by kernel_rfl) (fun _ _ _ h => h) (Or.inl ⟨by rfl, ?y36n25k31⟩) hHeld ?z36n25k31
          case y36n25k31 => intro w hSw; (try dsimp only at hSw); go_simp <;> rfl
          try simp only [Act.put, List.setIfInBounds_toArray, List.set_cons_zero, List.set_cons_succ]
          refine wpAnyH_ready (rs := [34]) (by kernel_rfl) (by simp) ?_
          refine AllReadyH.cons (o := ⟨some 78, Op.call { callee := Callee.value (Operand.func 25), args := #[Operand.tmp 77], argTypes := #[33] }, 9, _, _, some (32, false)⟩) rfl (fun K hK => ?_) AllReadyH.nil
          go_simp
          refine (BT.out _ (SE4.out.kept J30.out)).mono ?_
          rintro en v34 ⟨rfl, k34⟩
          have J34 := Lib.hid (J30.out.step k34)
          clear k34
          dsimp only
          refine hK.out _ _ (HS.out _ J34.out) (fun hHeld => ?_)
          clear hK K
          try simp only [Act.put, List.setIfInBounds_toArray, List.set_cons_zero, List.set_cons_succ]
          refine wpAnyH_take (i := 37) (oi := ⟨some 81, Op.binOp BinOp.neq 9 (Operand.tmp 78) (Operand.tmp 80) 9, 4, _, _, some (32, false)⟩) (v := ?v37n25k32) rfl (by kernel_rfl) (by kernel_rfl) (by kernel_rfl) (fun _ _ _ h => h) (Or.inl ⟨by rfl, ?y37n25k32⟩) hHeld ?z37n25k32
          case y37n25k32 => intro w hSw; (try dsimp only at hSw); go_simp <;> rfl
          try simp only [Act.put, List.setIfInBounds_toArray, List.set_cons_zero, List.set_cons_succ]
          refine wpAnyH_take (i := 38) (oi := ⟨some 82, Op.pick (Operand.tmp 76) (Operand.const (Value.bool true)) (Operand.tmp 81), 4, _, _, some (28, true)⟩) (v := ?v38n25k33) rfl (by kernel_rfl) (by kernel_rfl) (by kernel_rfl) (fun _ _ _ h => h) (Or.inl ⟨by rfl, ?y38n25k33⟩) hHeld ?z38n25k33
          case y38n25k33 => intro w hSw; (try dsimp only at hSw); go_simp <;> rfl
          try simp only [Act.put, List.setIfInBounds_toArray, List.set_cons_zero, List.set_cons_succ]
          refine wpAnyH_take (i := 39) (oi := ⟨some 83, Op.pick (Operand.tmp 72) (Operand.tmp 82) (Operand.const (Value.bool false)), 4, _, _, some (26, false)⟩) (v := ?v39n25k34) rfl (by kernel_rfl) (by kernel_rfl) (by kernel_rfl) (fun _ _ _ h => h) (Or.inl ⟨by rfl, ?y39n25k34⟩) hHeld ?z39n25k34
          case y39n25k34 => intro w hSw; (try dsimp only at hSw); go_simp <;> rfl
          try simp only [Act.put, List.setIfInBounds_toArray, List.set_cons_zero, List.set_cons_succ]
          refine wpAnyH_take (i := 40) (oi := ⟨some 84, Op.pick (Operand.tmp 70) (Operand.const (Value.bool true)) (Operand.tmp 83), 4, _, _, none⟩) (v := ?v40n25k35) rfl (by kernel_rfl) (by kernel_rfl) (by kernel_rfl) (fun _ _ _ h => h) (Or.inl ⟨by rfl, ?y40n25k35⟩) hHeld ?z40n25k35
          case y40n25k35 => intro w hSw; (try dsimp only at hSw); go_simp <;> rfl
          try simp only [Act.put, List.setIfInBounds_toArray, List.set_cons_zero, List.set_cons_succ]
          refine wpAnyH_done (by kernel_rfl) ?_ _
          refine NoPanic.normal ?_
          have KE := Lib.hid (KU4.out.step J34.out)
          clear hHeld HS
          go_wp2
          go_roundw
          case rel => exact ⟨k + 1, by omega, by go_num, KE⟩
          case measure => simp [intOf]; omega
    · obtain rfl : k = 2 := by omega
      go_wp2
      go_ret
      exact ⟨rfl, K4.out.step KR.out⟩
end Go.Proofs.Ytgmjnjbmolalmaa
