/-
  The walk of StateRows. No statement is proved here.
-/
import Derived.Test.YtgmjnjbmolalmaaStRound
import Derived.Test.YtgmjnjbmolalmaaL7Lays
import Derived.Test.YtgmjnjbmolalmaaL7Rows
import Derived.Test.YtgmjnjbmolalmaaL7Pens
import Derived.Test.YtgmjnjbmolalmaaL7Once
namespace Go.Proofs.Ytgmjnjbmolalmaa
open Go.RowKit Tot

theorem prcells_take (ps : Prs) (n : Nat) : PR.cells (ps.take n) = (PR.cells ps).take (n * 3) := flat_take PR.enc_len ps n
theorem sncells_take (xs : Sns) (n : Nat) : SN.cells (xs.take n) = (SN.cells xs).take (n * 4) := flat_take SN.enc_len xs n
/-- Rows of up to 30 with texts of bounded size have bounded bytes. -/
theorem rows_small {ps : Prs} {xs : Sns} (h1 : ps.length ≤ 30) (h2 : xs.length ≤ 30) (hp : ∀ p ∈ ps, p.1.size ≤ 2000000 ∧ p.2.1.size ≤ 2000000) (hx : ∀ x ∈ xs, x.2.2.value.size ≤ 2000000) : (rowsB ps xs).length ≤ 1000000000 := by
  have a1 := flatMap_bound prB 4000017 ps (fun p h => by rw [prB_length]; have := hp p h; omega)
  have a2 := flatMap_bound snB 2000032 xs (fun x h => by rw [snB_length]; have := hx x h; omega)
  rw [rowsB_length]
  have : ps.length * 4000017 ≤ 30 * 4000017 := Nat.mul_le_mul_right _ h1
  have : xs.length * 2000032 ≤ 30 * 2000032 := Nat.mul_le_mul_right _ h2
  omega

set_option maxRecDepth 100000 in
set_option maxHeartbeats 2000000 in
theorem rows7_walk (a : Option Addr) (n c : Nat) (b : Option Addr) (m d : Nat) (ps : Prs) (xs : Sns) (most : UInt8) (w : World) (h : Lies w (fun i => i < w.heap.size) a (PR.cells ps)) (hl : ps.length = n) (hc : n ≤ c)
    (h2 : Lies w (fun i => i < w.heap.size) b (SN.cells xs)) (hl2 : xs.length = m) (hd : m ≤ d) (hp : ∀ p ∈ ps, p.1.size ≤ 2000000 ∧ p.2.1.size ≤ 2000000) (hx : ∀ x ∈ xs, Fit x.1 ∧ Fit x.2.1 ∧ Fit x.2.2.err ∧ x.2.2.value.size ≤ 2000000) :
    Calls Try.prog 9 #[.slice a n c, .slice b m d, .int .u8 (most.toNat : Int)] w fun e w' => e = .returned (.bool true) ∧ Kept noBlock w w' := by
  obtain ⟨n1, hn1⟩ : ∃ n1, n1 = min n 30 := ⟨_, rfl⟩
  obtain ⟨m1, hm1⟩ : ∃ m1, m1 = min m 30 := ⟨_, rfl⟩
  have q1 : (if (30 : Int) < (n : Int) then (30 : Int) else (n : Int)) = (n1 : Int) := by split <;> omega
  have q2 : (if (30 : Int) < (m : Int) then (30 : Int) else (m : Int)) = (m1 : Int) := by split <;> omega
  have i1 : (n1 : Int) ≤ c := by omega
  have i2 : (m1 : Int) ≤ d := by omega
  have hn30 : n1 ≤ 30 := by omega
  have hm30 : m1 ≤ 30 := by omega
  obtain ⟨P, hP⟩ : ∃ P, P = ps.take n1 := ⟨_, rfl⟩
  obtain ⟨X, hX⟩ : ∃ X, X = xs.take m1 := ⟨_, rfl⟩
  have hPl : P.length = n1 := by rw [hP, List.length_take]; omega
  have hXl : X.length = m1 := by rw [hX, List.length_take]; omega
  have hPp : ∀ p ∈ P, p.1.size ≤ 2000000 ∧ p.2.1.size ≤ 2000000 := fun p hh => hp p (by rw [hP] at hh; exact List.mem_of_mem_take hh)
  have hXx : ∀ x ∈ X, Fit x.1 ∧ Fit x.2.1 ∧ Fit x.2.2.err ∧ x.2.2.value.size ≤ 2000000 := fun x hh => hx x (by rw [hX] at hh; exact List.mem_of_mem_take hh)
  have LA : Hid (∀ u, Kept noBlock w u → Lies u (fun i => i < w.heap.size) a (PR.cells P)) := fun u k => by
    rw [hP, prcells_take]
    exact (h.keep k (fun _ _ h => h)).take _
  have LB : Hid (∀ u, Kept noBlock w u → Lies u (fun i => i < w.heap.size) b (SN.cells X)) := fun u k => by
    rw [hX, sncells_take]
    exact (h2.keep k (fun _ _ h => h)).take _
  have hsm := rows_small (by omega) (by omega) hPp (fun x hh => (hXx x hh).2.2.2)
  obtain ⟨r1, r2, r3⟩ := rows_round P X [] (fun p hh => ⟨by have := hPp p hh; omega, by have := hPp p hh; omega⟩) (fun x hh => ⟨(hXx x hh).1, (hXx x hh).2.1, (hXx x hh).2.2.1, by have := (hXx x hh).2.2.2; omega⟩) (by omega) (by omega)
  rw [List.append_nil] at r1 r2 r3
  have hnc : n1 ≤ c := by omega
  have hmd : m1 ≤ d := by omega
  have HPL := Lib.hid hPl
  have HXL := Lib.hid hXl
  clear hP hX hPp hXx hp hx h h2 hl hl2 hc hd hn1 hm1
  have PUT : Hid (∀ w1 bk, Pen w1 w1 bk [] → Kept noBlock w w1 → w.heap.size ≤ bk → _) := fun w1 bk hpen k hb => put_any (fun i => i < w.heap.size) w1 bk [] a n1 c b m1 d P X w1 hpen (LA.out w1 k) (LB.out w1 k) (fun i hi e => by omega) hPl hXl hnc hmd (by rw [List.length_nil]; omega)
  have LAY : Hid (∀ w1 bk, Pen w1 w1 bk [] → Lies w1 (fun i => i < w.heap.size) a (PR.cells P) → Lies w1 (fun i => i < w.heap.size) b (SN.cells X) → w.heap.size ≤ bk → _) := fun w1 bk hpen la lb hb => lays_any (fun i => i < w.heap.size) w1 bk [] a n1 c b m1 d P X w1 hpen la lb (fun i hi e => by omega) hPl hXl hnc hmd (by rw [List.length_nil]; omega)
  simp only [List.nil_append] at PUT LAY
  have RR := Lib.hid (fun G bk u (hu : Rd u G bk (rowsB P X) false) => readrows_any G bk (rowsB P X) false u hu (by omega))
  simp only [r1, r2, r3, hPl, hXl] at RR
  obtain ⟨Y, hY⟩ : ∃ Y, Y = rowsB P X := ⟨_, rfl⟩
  obtain ⟨N, hN⟩ : ∃ N, Y.length = N := ⟨_, rfl⟩
  rw [← hY] at PUT LAY RR hsm
  rw [hN] at hsm
  clear r1 r2 r3 hY
  obtain ⟨T, hT⟩ : ∃ T, T = most.toNat % 40 := ⟨_, rfl⟩
  have t1 : ((most.toNat : Int)).tmod 40 = (T : Int) := by rw [hT]; exact tmod_nat _ 40
  have hT40 : T < 40 := by omega
  have hwT : IntKind.i64.wrap (T : Int) = (T : Int) := wrap_nat T (by omega)
  clear hT
  obtain ⟨ro, hro⟩ : ∃ ro, ro = decide (RowsOk P X (T : Int)) := ⟨_, rfl⟩
  have R1 : Hid (∀ u, Kept noBlock w u → Calls Try.prog 33 #[.slice a n1 c, .slice b m1 d, .int .i64 (T : Int)] u (Says u ro)) := fun u k => by
    rw [hro]
    exact rows_any (fun i => i < w.heap.size) a n1 c b m1 d P X (T : Int) u (LA.out u k) hPl hnc (by omega) (LB.out u k) hXl hmd (by omega)
  have R2 : Hid (∀ u, Kept noBlock w u → Calls Try.prog 34 #[.slice a n1 c, .slice b m1 d, .int .i64 (T : Int)] u (Says u ro)) := fun u k => by
    rw [hro]
    exact lrows_any (fun i => i < w.heap.size) a n1 c b m1 d P X (T : Int) u (LA.out u k) hPl hnc (by omega) (LB.out u k) hXl hmd (by omega)
  have HN := Lib.hid hN
  obtain ⟨SX, hSX⟩ : ∃ SX, SX = str Y := ⟨_, rfl⟩
  have CV : Hid (∀ G A u, Lies u G A (Y.map bv) → ∀ c, (convert 37 9 (.slice A N c)).run Try.prog u = .ok (.string SX) u) := fun G A u hl c => by
    rw [hSX]
    exact run_str_lies (P := Try.prog) 37 9 5 Try.underlying37 Try.underlying5 Try.underlying9 hl HN.out c
  have PNE := fun u p => pair_neq u p p
  simp only [pairSame_self] at PNE
  unfold PR.val at PNE
  have SNE := fun u p => sess_neq u p p
  simp only [sessSame_self] at SNE
  unfold SN.val at SNE
  have HPNE := Lib.hid PNE
  have HSNE := Lib.hid SNE
  clear hro hN hPl hXl hSX PNE SNE
  go_enter Try.func9, Try.ntmps9
  go_wp2_with fail
  refine (awake_any w).mono ?_
  rintro e w1 ⟨rfl, k1⟩
  go_wp2_with fail
  refine wp_region_noPanic ?_
  refine wp_region_held_drew (S := fun _ => True) (by kernel_rfl) trivial (fun hHeld => ?_)
  refine wpAnyH_take (i := 0) (oi := ⟨some 16, Op.move (Operand.tmp 0), 30, _, _, none⟩) (v := ?v0n23k1) rfl (by kernel_rfl) (by kernel_rfl) (by kernel_rfl) (fun _ _ _ h => h) (Or.inl ⟨by rfl, ?y0n23k1⟩) hHeld ?z0n23k1
  case y0n23k1 => intro w hSw; (try dsimp only at hSw); go_simp <;> rfl
  try simp only [Act.put, List.setIfInBounds_toArray, List.set_cons_zero, List.set_cons_succ]
  refine wpAnyH_take (i := 1) (oi := ⟨some 17, Op.move (Operand.tmp 0), 30, _, _, none⟩) (v := ?v1n23k2) rfl (by kernel_rfl) (by kernel_rfl) (by kernel_rfl) (fun _ _ _ h => h) (Or.inl ⟨by rfl, ?y1n23k2⟩) hHeld ?z1n23k2
  case y1n23k2 => intro w hSw; (try dsimp only at hSw); go_simp <;> rfl
  try simp only [Act.put, List.setIfInBounds_toArray, List.set_cons_zero, List.set_cons_succ]
  refine wpAnyH_take (i := 2) (oi := ⟨some 18, Op.call { callee := Callee.builtin Builtin.len, args := #[Operand.tmp 17], argTypes := #[30] }, 3, _, _, none⟩) (v := ?v2n23k3) rfl (by kernel_rfl) (by kernel_rfl) (by kernel_rfl) (fun _ _ _ h => h) (Or.inl ⟨by rfl, ?y2n23k3⟩) hHeld ?z2n23k3
  case y2n23k3 => intro w hSw; (try dsimp only at hSw); go_simp <;> rfl
  try simp only [Act.put, List.setIfInBounds_toArray, List.set_cons_zero, List.set_cons_succ]
  refine wpAnyH_take (i := 3) (oi := ⟨some 19, Op.call { callee := Callee.builtin Builtin.min, args := #[Operand.tmp 18, Operand.const (Value.int IntKind.i64 30)], argTypes := #[3, 3] }, 3, _, _, none⟩) (v := ?v3n23k4) rfl (by kernel_rfl) (by kernel_rfl) (by kernel_rfl) (fun _ _ _ h => h) (Or.inl ⟨by rfl, ?y3n23k4⟩) hHeld ?z3n23k4
  case y3n23k4 => intro w hSw; (try dsimp only at hSw); go_simp <;> rfl
  try simp only [Act.put, List.setIfInBounds_toArray, List.set_cons_zero, List.set_cons_succ]
  refine wpAnyH_take (i := 4) (oi := ⟨some 20, Op.slice 30 (Operand.tmp 16) none (some (Operand.tmp 19)) none, 30, _, _, none⟩) (v := ?v4n23k5) rfl (by kernel_rfl) (by kernel_rfl) (by kernel_rfl) (fun _ _ _ h => h) (Or.inl ⟨by rfl, ?y4n23k5⟩) hHeld ?z4n23k5
  case y4n23k5 => intro w hSw; (try dsimp only at hSw); go_simp <;> rfl
  try simp only [Act.put, List.setIfInBounds_toArray, List.set_cons_zero, List.set_cons_succ]
  refine wpAnyH_take (i := 5) (oi := ⟨some 21, Op.move (Operand.tmp 1), 31, _, _, none⟩) (v := ?v5n23k6) rfl (by kernel_rfl) (by kernel_rfl) (by kernel_rfl) (fun _ _ _ h => h) (Or.inl ⟨by rfl, ?y5n23k6⟩) hHeld ?z5n23k6
  case y5n23k6 => intro w hSw; (try dsimp only at hSw); go_simp <;> rfl
  try simp only [Act.put, List.setIfInBounds_toArray, List.set_cons_zero, List.set_cons_succ]
  refine wpAnyH_take (i := 6) (oi := ⟨some 22, Op.move (Operand.tmp 1), 31, _, _, none⟩) (v := ?v6n23k7) rfl (by kernel_rfl) (by kernel_rfl) (by kernel_rfl) (fun _ _ _ h => h) (Or.inl ⟨by rfl, ?y6n23k7⟩) hHeld ?z6n23k7
  case y6n23k7 => intro w hSw; (try dsimp only at hSw); go_simp <;> rfl
  try simp only [Act.put, List.setIfInBounds_toArray, List.set_cons_zero, List.set_cons_succ]
  refine wpAnyH_take (i := 7) (oi := ⟨some 23, Op.call { callee := Callee.builtin Builtin.len, args := #[Operand.tmp 22], argTypes := #[31] }, 3, _, _, none⟩) (v := ?v7n23k8) rfl (by kernel_rfl) (by kernel_rfl) (by kernel_rfl) (fun _ _ _ h => h) (Or.inl ⟨by rfl, ?y7n23k8⟩) hHeld ?z7n23k8
  case y7n23k8 => intro w hSw; (try dsimp only at hSw); go_simp <;> rfl
  try simp only [Act.put, List.setIfInBounds_toArray, List.set_cons_zero, List.set_cons_succ]
  refine wpAnyH_take (i := 8) (oi := ⟨some 24, Op.call { callee := Callee.builtin Builtin.min, args := #[Operand.tmp 23, Operand.const (Value.int IntKind.i64 30)], argTypes := #[3, 3] }, 3, _, _, none⟩) (v := ?v8n23k9) rfl (by kernel_rfl) (by kernel_rfl) (by kernel_rfl) (fun _ _ _ h => h) (Or.inl ⟨by rfl, ?y8n23k9⟩) hHeld ?z8n23k9
  case y8n23k9 => intro w hSw; (try dsimp only at hSw); go_simp <;> rfl
  try simp only [Act.put, List.setIfInBounds_toArray, List.set_cons_zero, List.set_cons_succ]
  refine wpAnyH_take (i := 9) (oi := ⟨some 25, Op.slice 31 (Operand.tmp 21) none (some (Operand.tmp 24)) none, 31, _, _, none⟩) (v := ?v9n23k10) rfl (by kernel_rfl) (by kernel_rfl) (by kernel_rfl) (fun _ _ _ h => h) (Or.inl ⟨by rfl, ?y9n23k10⟩) hHeld ?z9n23k10
  case y9n23k10 => intro w hSw; (try dsimp only at hSw); go_simp <;> rfl
  try simp only [Act.put, List.setIfInBounds_toArray, List.set_cons_zero, List.set_cons_succ]
  refine wpAnyH_take (i := 10) (oi := ⟨some 0, Op.assign (Operand.tmp 20), 30, _, _, none⟩) (v := ?v10n23k11) rfl (by kernel_rfl) (by kernel_rfl) (by kernel_rfl) (fun _ _ _ h => h) (Or.inl ⟨by rfl, ?y10n23k11⟩) hHeld ?z10n23k11
  case y10n23k11 => intro w hSw; (try dsimp only at hSw); go_simp <;> rfl
  try simp only [Act.put, List.setIfInBounds_toArray, List.set_cons_zero]
  refine wpAnyH_take (i := 11) (oi := ⟨some 1, Op.assign (Operand.tmp 25), 31, _, _, none⟩) (v := ?v11n23k12) rfl (by kernel_rfl) (by kernel_rfl) (by kernel_rfl) (fun _ _ _ h => h) (Or.inl ⟨by rfl, ?y11n23k12⟩) hHeld ?z11n23k12
  case y11n23k12 => intro w hSw; (try dsimp only at hSw); go_simp <;> rfl
  try simp only [Act.put, List.setIfInBounds_toArray, List.set_cons_zero, List.set_cons_succ]
  refine wpAnyH_done (by kernel_rfl) ?_ _
  refine NoPanic.normal ?_
  have k2 := k1.step (Kept.drew noBlock w1)
  generalize w1.drew = w2 at k2 hHeld ⊢
  clear k1 hHeld q1 q2
  go_upto_region 5 with (fail)
  obtain ⟨pa, pb, kp, zp⟩ := two_pens w2
  generalize (w2.alloc (.cells #[.slice none 0 0] 75)).alloc (.cells #[.slice none 0 0] 75) = w3 at pa pb kp zp ⊢
  have K3 := Lib.hid (k2.step kp)
  obtain ⟨b0, hb0⟩ : ∃ b0, b0 = w2.heap.size := ⟨_, rfl⟩
  have hw0 : w.heap.size ≤ b0 := by rw [hb0]; exact k2.size
  rw [← hb0] at pa pb zp ⊢
  have HB0 := Lib.hid hb0
  have PB := Lib.hid pb
  clear k2 kp hb0 pb
  have PUT1 := Lib.hid (PUT.out w3 b0 pa K3.out hw0)
  clear PUT
  go_wp2_with fail
  refine PUT1.out.mono ?_
  rintro e w4 ⟨rfl, p4⟩
  have P4 := Lib.hid p4
  have LAY1 := Lib.hid (LAY.out w4 (b0 + 1) (p4.other PB.out (by omega)) ((LA.out w3 K3.out).keep p4.1 (fun i hi e => by omega)) ((LB.out w3 K3.out).keep p4.1 (fun i hi e => by omega)) (by omega))
  clear PUT1 LAY p4 PB
  go_wp2_with fail
  refine LAY1.out.mono ?_
  rintro e w5 ⟨rfl, p5⟩
  obtain ⟨F0, F1, W0, W1, k5⟩ := Pen.both K3.out P4.out p5 (by omega) hw0 (by omega) (by omega)
  have HW0 := Lib.hid W0
  have HW1 := Lib.hid W1
  have K5 := Lib.hid k5
  clear LAY1 p5 P4 K3 W0 W1 k5 zp pa
  have B5 := Lib.hid (wbytes_n b0 F0 Y N w5 HW0.out HN.out (by omega))
  go_wp2_with fail
  refine B5.out.mono ?_
  rintro e w6 ⟨A6, c6, rfl, o6, k6⟩
  have OF := Lib.hid (of_any (fun _ => True) A6 N c6 Y w6 (Lies.of_own o6 (fun _ _ => trivial)) HN.out (by omega))
  have K6 := Lib.hid k6
  clear o6 k6 B5
  go_wp2_with fail
  refine OF.out.mono ?_
  rintro e w7 ⟨b7, rfl, r7, k7⟩
  have hb7 := r7.foot.1
  have R7 := Lib.hid (RR.out _ b7 w7 r7)
  have K7 := Lib.hid (K6.out.step k7)
  have Z67 := Lib.hid k7.size
  have Z56 := Lib.hid K6.out.size
  clear OF RR k7 K6 r7
  go_upto_region 9 with (fail)
  refine R7.out.mono ?_
  rintro e w8 ⟨A8, c8, B8, d8, rfl, o8, s8, r8, k8⟩
  have hc8 : n1 ≤ c8 := by obtain ⟨_, _, e, hle⟩ := own_form o8; injection e with _ _ e; omega
  have hd8 : m1 ≤ d8 := by obtain ⟨_, _, e, hle⟩ := own_form s8; injection e with _ _ e; omega
  have K8 : Hid (Kept noBlock w w8) := by
    have := Z56.out
    have := K5.out.size
    exact (((K5.out.step K7.out).mono (T := fun i => w.heap.size ≤ i) (fun _ _ h => h.elim)).trans k8 (fun i _ h => by omega)).mono (fun i hi h => by omega)
  have V0 : Hid (Wr w8 F0 b0 Y) := (HW0.out.keep K7.out (fun _ _ h => h)).keep k8 (fun i hi e => by have := HW0.out.lt i hi; have := Z56.out; omega)
  have V1 : Hid (Wr w8 F1 (b0 + 1) Y) := (HW1.out.keep K7.out (fun _ _ h => h)).keep k8 (fun i hi e => by have := HW1.out.lt i hi; have := Z56.out; omega)
  have RD8 := Lib.hid r8
  have LQ := Lib.hid (Lies.of_rows (F := fun _ => True) o8 (fun _ _ => trivial))
  have LY := Lib.hid (Lies.of_rows (F := fun _ => True) s8 (fun _ _ => trivial))
  clear o8 s8 r8 k8 R7 HW0 HW1 K5 K7 Z67 Z56 hb7
  go_upto_region 9 with (fail)
  have D8 : Hid (Kept noBlock w8 w8.drew) := Kept.drew _ _
  refine wp_region_noPanic ?_
  refine wp_region_held_drew (S := fun _ => True) (by kernel_rfl) trivial (fun hHeld => ?_)
  refine wpAnyH_take (i := 0) (oi := ⟨some 46, Op.move (Operand.tmp 7), 73, _, _, none⟩) (v := ?v0n24k1) rfl (by kernel_rfl) (by kernel_rfl) (by kernel_rfl) (fun _ _ _ h => h) (Or.inl ⟨by rfl, ?y0n24k1⟩) hHeld ?z0n24k1
  case y0n24k1 => intro w hSw; (try dsimp only at hSw); go_simp <;> rfl
  try simp only [Act.put, List.setIfInBounds_toArray, List.set_cons_zero, List.set_cons_succ]
  refine wpAnyH_take (i := 3) (oi := ⟨some 49, Op.move (Operand.tmp 8), 73, _, _, none⟩) (v := ?v3n24k2) rfl (by kernel_rfl) (by kernel_rfl) (by kernel_rfl) (fun _ _ _ h => h) (Or.inl ⟨by rfl, ?y3n24k2⟩) hHeld ?z3n24k2
  case y3n24k2 => intro w hSw; (try dsimp only at hSw); go_simp <;> rfl
  try simp only [Act.put, List.setIfInBounds_toArray, List.set_cons_zero, List.set_cons_succ]
  refine wpAnyH_ready (rs := [1]) (by kernel_rfl) (by simp) ?_
  refine AllReadyH.cons (o := ⟨some 47, Op.call { callee := Callee.value (Operand.func 30), args := #[Operand.tmp 46], argTypes := #[73] }, 37, _, _, none⟩) rfl (fun K hK => ?_) AllReadyH.nil
  go_simp
  refine (wbytes_n b0 F0 Y N _ (V0.out.keep D8.out (fun _ _ h => h)) HN.out (by omega)).mono ?_
  rintro e u1 ⟨A1, c1, rfl, o1, k1⟩
  have J1 := Lib.hid (D8.out.step k1)
  have L1 := Lib.hid (Lies.of_own (F := fun _ => True) o1 (fun _ _ => trivial))
  clear o1 k1
  dsimp only
  refine hK.out _ _ trivial (fun hHeld => ?_)
  clear hK K
  try simp only [Act.put, List.setIfInBounds_toArray, List.set_cons_zero, List.set_cons_succ]
  refine wpAnyH_more (S2 := fun w' => ∀ c, (convert 37 9 (.slice A1 N c)).run Try.prog w' = .ok (.string SX) w') (fun _ _ => trivial) ?_
  clear hHeld
  have hHeld : (fun w' => ∀ c, (convert 37 9 (.slice A1 N c)).run Try.prog w' = .ok (.string SX) w') _ := (CV.out _ A1 _ L1.out)
  refine wpAnyH_take (i := 2) (oi := ⟨some 48, Op.convert 37 9 (Operand.tmp 47), 9, _, _, none⟩) (v := ?v2n24k3) rfl (by kernel_rfl) (by kernel_rfl) (by kernel_rfl) (fun _ _ _ h => h) (Or.inl ⟨by rfl, ?y2n24k3⟩) hHeld ?z2n24k3
  case y2n24k3 => intro w hSw; (try dsimp only at hSw); go_simp <;> rfl
  try simp only [Act.put, List.setIfInBounds_toArray, List.set_cons_zero, List.set_cons_succ]
  refine wpAnyH_ready (rs := [4]) (by kernel_rfl) (by simp) ?_
  refine AllReadyH.cons (o := ⟨some 50, Op.call { callee := Callee.value (Operand.func 30), args := #[Operand.tmp 49], argTypes := #[73] }, 37, _, _, none⟩) rfl (fun K hK => ?_) AllReadyH.nil
  go_simp
  refine (wbytes_n (b0 + 1) F1 Y N _ (V1.out.keep J1.out (fun _ _ h => h)) HN.out (by omega)).mono ?_
  rintro e u4 ⟨A4, c4, rfl, o4, k4⟩
  have J4 := Lib.hid (J1.out.step k4)
  have L14 := Lib.hid (L1.out.keep k4 (fun _ _ h => h))
  have L4 := Lib.hid (Lies.of_own (F := fun _ => True) o4 (fun _ _ => trivial))
  clear o4 k4
  dsimp only
  refine hK.out _ _ (CV.out _ A1 _ L14.out) (fun hHeld => ?_)
  clear hK K
  try simp only [Act.put, List.setIfInBounds_toArray, List.set_cons_zero, List.set_cons_succ]
  refine wpAnyH_more (S2 := fun w' => (∀ c, (convert 37 9 (.slice A1 N c)).run Try.prog w' = .ok (.string SX) w') ∧ (∀ c, (convert 37 9 (.slice A4 N c)).run Try.prog w' = .ok (.string SX) w')) (fun _ h => h.1) ?_
  clear hHeld
  have hHeld : (fun w' => (∀ c, (convert 37 9 (.slice A1 N c)).run Try.prog w' = .ok (.string SX) w') ∧ (∀ c, (convert 37 9 (.slice A4 N c)).run Try.prog w' = .ok (.string SX) w')) _ := ⟨CV.out _ A1 _ L14.out, CV.out _ A4 _ L4.out⟩
  refine wpAnyH_take (i := 5) (oi := ⟨some 51, Op.convert 37 9 (Operand.tmp 50), 9, _, _, none⟩) (v := ?v5n24k4) rfl (by kernel_rfl) (by kernel_rfl) (by kernel_rfl) (fun _ _ _ h => h) (Or.inl ⟨by rfl, ?y5n24k4⟩) hHeld ?z5n24k4
  case y5n24k4 => intro w hSw; (try dsimp only at hSw); go_simp <;> rfl
  try simp only [Act.put, List.setIfInBounds_toArray, List.set_cons_zero, List.set_cons_succ]
  refine wpAnyH_take (i := 6) (oi := ⟨some 52, Op.binOp BinOp.neq 9 (Operand.tmp 48) (Operand.tmp 51) 9, 4, _, _, none⟩) (v := ?v6n24k5) rfl (by kernel_rfl) (by kernel_rfl) (by kernel_rfl) (fun _ _ _ h => h) (Or.inl ⟨by rfl, ?y6n24k5⟩) hHeld ?z6n24k5
  case y6n24k5 => intro w hSw; (try dsimp only at hSw); go_simp <;> rfl
  try simp only [Act.put, List.setIfInBounds_toArray, List.set_cons_zero, List.set_cons_succ]
  refine wpAnyH_take (i := 7) (oi := ⟨some 53, Op.move (Operand.tmp 52), 4, _, _, none⟩) (v := ?v7n24k6) rfl (by kernel_rfl) (by kernel_rfl) (by kernel_rfl) (fun _ _ _ h => h) (Or.inl ⟨by rfl, ?y7n24k6⟩) hHeld ?z7n24k6
  case y7n24k6 => intro w hSw; (try dsimp only at hSw); go_simp <;> rfl
  try simp only [Act.put, List.setIfInBounds_toArray, List.set_cons_zero, List.set_cons_succ]
  refine wpAnyH_take (i := 8) (oi := ⟨some 54, Op.move (Operand.tmp 9), 77, _, _, some (7, false)⟩) (v := ?v8n24k7) rfl (by kernel_rfl) (by kernel_rfl) (by kernel_rfl) (fun _ _ _ h => h) (Or.inl ⟨by rfl, ?y8n24k7⟩) hHeld ?z8n24k7
  case y8n24k7 => intro w hSw; (try dsimp only at hSw); go_simp <;> rfl
  try simp only [Act.put, List.setIfInBounds_toArray, List.set_cons_zero, List.set_cons_succ]
  refine wpAnyH_ready (rs := [9]) (by kernel_rfl) (by simp) ?_
  refine AllReadyH.cons (o := ⟨some 55, Op.call { callee := Callee.value (Operand.func 32), args := #[Operand.tmp 54], argTypes := #[77] }, 4, _, _, some (7, false)⟩) rfl (fun K hK => ?_) AllReadyH.nil
  go_simp
  refine (rdone_any b7 _ _ _ _ (RD8.out.keep J4.out (fun _ _ h => h))).mono ?_
  rintro e u9 ⟨rfl, rfl⟩
  dsimp only
  refine hK.out _ _ ⟨CV.out _ A1 _ L14.out, CV.out _ A4 _ L4.out⟩ (fun hHeld => ?_)
  clear hK K
  try simp only [Act.put, List.setIfInBounds_toArray, List.set_cons_zero, List.set_cons_succ]
  refine wpAnyH_take (i := 10) (oi := ⟨some 56, Op.unOp UnOp.not 4 (Operand.tmp 55), 4, _, _, some (7, false)⟩) (v := ?v10n24k8) rfl (by kernel_rfl) (by kernel_rfl) (by kernel_rfl) (fun _ _ _ h => h) (Or.inl ⟨by rfl, ?y10n24k8⟩) hHeld ?z10n24k8
  case y10n24k8 => intro w hSw; (try dsimp only at hSw); go_simp <;> rfl
  try simp only [Act.put, List.setIfInBounds_toArray, List.set_cons_zero, List.set_cons_succ]
  refine wpAnyH_take (i := 11) (oi := ⟨some 57, Op.pick (Operand.tmp 53) (Operand.const (Value.bool true)) (Operand.tmp 56), 4, _, _, none⟩) (v := ?v11n24k9) rfl (by kernel_rfl) (by kernel_rfl) (by kernel_rfl) (fun _ _ _ h => h) (Or.inl ⟨by rfl, ?y11n24k9⟩) hHeld ?z11n24k9
  case y11n24k9 => intro w hSw; (try dsimp only at hSw); go_simp <;> rfl
  try simp only [Act.put, List.setIfInBounds_toArray, List.set_cons_zero, List.set_cons_succ]
  refine wpAnyH_take (i := 12) (oi := ⟨some 58, Op.move (Operand.tmp 57), 4, _, _, none⟩) (v := ?v12n24k10) rfl (by kernel_rfl) (by kernel_rfl) (by kernel_rfl) (fun _ _ _ h => h) (Or.inl ⟨by rfl, ?y12n24k10⟩) hHeld ?z12n24k10
  case y12n24k10 => intro w hSw; (try dsimp only at hSw); go_simp <;> rfl
  try simp only [Act.put, List.setIfInBounds_toArray, List.set_cons_zero, List.set_cons_succ]
  refine wpAnyH_take (i := 13) (oi := ⟨some 59, Op.move (Operand.tmp 10), 30, _, _, some (12, false)⟩) (v := ?v13n24k11) rfl (by kernel_rfl) (by kernel_rfl) (by kernel_rfl) (fun _ _ _ h => h) (Or.inl ⟨by rfl, ?y13n24k11⟩) hHeld ?z13n24k11
  case y13n24k11 => intro w hSw; (try dsimp only at hSw); go_simp <;> rfl
  try simp only [Act.put, List.setIfInBounds_toArray, List.set_cons_zero, List.set_cons_succ]
  refine wpAnyH_take (i := 14) (oi := ⟨some 60, Op.call { callee := Callee.builtin Builtin.len, args := #[Operand.tmp 59], argTypes := #[30] }, 3, _, _, some (12, false)⟩) (v := ?v14n24k12) rfl (by kernel_rfl) (by kernel_rfl) (by kernel_rfl) (fun _ _ _ h => h) (Or.inl ⟨by rfl, ?y14n24k12⟩) hHeld ?z14n24k12
  case y14n24k12 => intro w hSw; (try dsimp only at hSw); go_simp <;> rfl
  try simp only [Act.put, List.setIfInBounds_toArray, List.set_cons_zero, List.set_cons_succ]
  refine wpAnyH_take (i := 15) (oi := ⟨some 61, Op.move (Operand.tmp 0), 30, _, _, some (12, false)⟩) (v := ?v15n24k13) rfl (by kernel_rfl) (by kernel_rfl) (by kernel_rfl) (fun _ _ _ h => h) (Or.inl ⟨by rfl, ?y15n24k13⟩) hHeld ?z15n24k13
  case y15n24k13 => intro w hSw; (try dsimp only at hSw); go_simp <;> rfl
  try simp only [Act.put, List.setIfInBounds_toArray, List.set_cons_zero, List.set_cons_succ]
  refine wpAnyH_take (i := 16) (oi := ⟨some 62, Op.call { callee := Callee.builtin Builtin.len, args := #[Operand.tmp 61], argTypes := #[30] }, 3, _, _, some (12, false)⟩) (v := ?v16n24k14) rfl (by kernel_rfl) (by kernel_rfl) (by kernel_rfl) (fun _ _ _ h => h) (Or.inl ⟨by rfl, ?y16n24k14⟩) hHeld ?z16n24k14
  case y16n24k14 => intro w hSw; (try dsimp only at hSw); go_simp <;> rfl
  try simp only [Act.put, List.setIfInBounds_toArray, List.set_cons_zero, List.set_cons_succ]
  refine wpAnyH_take (i := 17) (oi := ⟨some 63, Op.binOp BinOp.neq 3 (Operand.tmp 60) (Operand.tmp 62) 3, 4, _, _, some (12, false)⟩) (v := ?v17n24k15) rfl (by kernel_rfl) (by kernel_rfl) (by kernel_rfl) (fun _ _ _ h => h) (Or.inl ⟨by rfl, ?y17n24k15⟩) hHeld ?z17n24k15
  case y17n24k15 => intro w hSw; (try dsimp only at hSw); go_simp <;> rfl
  try simp only [Act.put, List.setIfInBounds_toArray, List.set_cons_zero, List.set_cons_succ]
  refine wpAnyH_take (i := 18) (oi := ⟨some 64, Op.pick (Operand.tmp 58) (Operand.const (Value.bool true)) (Operand.tmp 63), 4, _, _, none⟩) (v := ?v18n24k16) rfl (by kernel_rfl) (by kernel_rfl) (by kernel_rfl) (fun _ _ _ h => h) (Or.inl ⟨by rfl, ?y18n24k16⟩) hHeld ?z18n24k16
  case y18n24k16 => intro w hSw; (try dsimp only at hSw); go_simp <;> rfl
  try simp only [Act.put, List.setIfInBounds_toArray, List.set_cons_zero, List.set_cons_succ]
  refine wpAnyH_take (i := 19) (oi := ⟨some 65, Op.move (Operand.tmp 64), 4, _, _, none⟩) (v := ?v19n24k17) rfl (by kernel_rfl) (by kernel_rfl) (by kernel_rfl) (fun _ _ _ h => h) (Or.inl ⟨by rfl, ?y19n24k17⟩) hHeld ?z19n24k17
  case y19n24k17 => intro w hSw; (try dsimp only at hSw); go_simp <;> rfl
  try simp only [Act.put, List.setIfInBounds_toArray, List.set_cons_zero, List.set_cons_succ]
  refine wpAnyH_take (i := 20) (oi := ⟨some 66, Op.move (Operand.tmp 11), 31, _, _, some (19, false)⟩) (v := ?v20n24k18) rfl (by kernel_rfl) (by kernel_rfl) (by kernel_rfl) (fun _ _ _ h => h) (Or.inl ⟨by rfl, ?y20n24k18⟩) hHeld ?z20n24k18
  case y20n24k18 => intro w hSw; (try dsimp only at hSw); go_simp <;> rfl
  try simp only [Act.put, List.setIfInBounds_toArray, List.set_cons_zero, List.set_cons_succ]
  refine wpAnyH_take (i := 21) (oi := ⟨some 67, Op.call { callee := Callee.builtin Builtin.len, args := #[Operand.tmp 66], argTypes := #[31] }, 3, _, _, some (19, false)⟩) (v := ?v21n24k19) rfl (by kernel_rfl) (by kernel_rfl) (by kernel_rfl) (fun _ _ _ h => h) (Or.inl ⟨by rfl, ?y21n24k19⟩) hHeld ?z21n24k19
  case y21n24k19 => intro w hSw; (try dsimp only at hSw); go_simp <;> rfl
  try simp only [Act.put, List.setIfInBounds_toArray, List.set_cons_zero, List.set_cons_succ]
  refine wpAnyH_take (i := 22) (oi := ⟨some 68, Op.move (Operand.tmp 1), 31, _, _, some (19, false)⟩) (v := ?v22n24k20) rfl (by kernel_rfl) (by kernel_rfl) (by kernel_rfl) (fun _ _ _ h => h) (Or.inl ⟨by rfl, ?y22n24k20⟩) hHeld ?z22n24k20
  case y22n24k20 => intro w hSw; (try dsimp only at hSw); go_simp <;> rfl
  try simp only [Act.put, List.setIfInBounds_toArray, List.set_cons_zero, List.set_cons_succ]
  refine wpAnyH_take (i := 23) (oi := ⟨some 69, Op.call { callee := Callee.builtin Builtin.len, args := #[Operand.tmp 68], argTypes := #[31] }, 3, _, _, some (19, false)⟩) (v := ?v23n24k21) rfl (by kernel_rfl) (by kernel_rfl) (by kernel_rfl) (fun _ _ _ h => h) (Or.inl ⟨by rfl, ?y23n24k21⟩) hHeld ?z23n24k21
  case y23n24k21 => intro w hSw; (try dsimp only at hSw); go_simp <;> rfl
  try simp only [Act.put, List.setIfInBounds_toArray, List.set_cons_zero, List.set_cons_succ]
  refine wpAnyH_take (i := 24) (oi := ⟨some 70, Op.binOp BinOp.neq 3 (Operand.tmp 67) (Operand.tmp 69) 3, 4, _, _, some (19, false)⟩) (v := ?v24n24k22) rfl (by kernel_rfl) (by kernel_rfl) (by kernel_rfl) (fun _ _ _ h => h) (Or.inl ⟨by rfl, ?y24n24k22⟩) hHeld ?z24n24k22
  case y24n24k22 => intro w hSw; (try dsimp only at hSw); go_simp <;> rfl
  try simp only [Act.put, List.setIfInBounds_toArray, List.set_cons_zero, List.set_cons_succ]
  refine wpAnyH_take (i := 25) (oi := ⟨some 71, Op.pick (Operand.tmp 65) (Operand.const (Value.bool true)) (Operand.tmp 70), 4, _, _, none⟩) (v := ?v25n24k23) rfl (by kernel_rfl) (by kernel_rfl) (by kernel_rfl) (fun _ _ _ h => h) (Or.inl ⟨by rfl, ?y25n24k23⟩) hHeld ?z25n24k23
  case y25n24k23 => intro w hSw; (try dsimp only at hSw); go_simp <;> rfl
  try simp only [Act.put, List.setIfInBounds_toArray, List.set_cons_zero, List.set_cons_succ]
  refine wpAnyH_take (i := 26) (oi := ⟨some 72, Op.move (Operand.tmp 71), 4, _, _, none⟩) (v := ?v26n24k24) rfl (by kernel_rfl) (by kernel_rfl) (by kernel_rfl) (fun _ _ _ h => h) (Or.inl ⟨by rfl, ?y26n24k24⟩) hHeld ?z26n24k24
  case y26n24k24 => intro w hSw; (try dsimp only at hSw); go_simp <;> rfl
  try simp only [Act.put, List.setIfInBounds_toArray, List.set_cons_zero, List.set_cons_succ]
  refine wpAnyH_take (i := 27) (oi := ⟨some 73, Op.move (Operand.tmp 0), 30, _, _, some (26, false)⟩) (v := ?v27n24k25) rfl (by kernel_rfl) (by kernel_rfl) (by kernel_rfl) (fun _ _ _ h => h) (Or.inl ⟨by rfl, ?y27n24k25⟩) hHeld ?z27n24k25
  case y27n24k25 => intro w hSw; (try dsimp only at hSw); go_simp <;> rfl
  try simp only [Act.put, List.setIfInBounds_toArray, List.set_cons_zero, List.set_cons_succ]
  refine wpAnyH_take (i := 28) (oi := ⟨some 74, Op.move (Operand.tmp 1), 31, _, _, some (26, false)⟩) (v := ?v28n24k26) rfl (by kernel_rfl) (by kernel_rfl) (by kernel_rfl) (fun _ _ _ h => h) (Or.inl ⟨by rfl, ?y28n24k26⟩) hHeld ?z28n24k26
  case y28n24k26 => intro w hSw; (try dsimp only at hSw); go_simp <;> rfl
  try simp only [Act.put, List.setIfInBounds_toArray, List.set_cons_zero, List.set_cons_succ]
  refine wpAnyH_take (i := 29) (oi := ⟨some 75, Op.move (Operand.tmp 2), 5, _, _, some (26, false)⟩) (v := ?v29n24k27) rfl (by kernel_rfl) (by kernel_rfl) (by kernel_rfl) (fun _ _ _ h => h) (Or.inl ⟨by rfl, ?y29n24k27⟩) hHeld ?z29n24k27
  case y29n24k27 => intro w hSw; (try dsimp only at hSw); go_simp <;> rfl
  try simp only [Act.put, List.setIfInBounds_toArray, List.set_cons_zero, List.set_cons_succ]
  refine wpAnyH_take (i := 30) (oi := ⟨some 76, Op.binOp BinOp.rem 5 (Operand.tmp 75) (Operand.const (Value.int IntKind.u8 40)) 5, 5, _, _, some (26, false)⟩) (v := ?v30n24k28) rfl (by kernel_rfl) (by kernel_rfl) (by kernel_rfl) (fun _ _ _ h => h) (Or.inl ⟨by rfl, ?y30n24k28⟩) hHeld ?z30n24k28
  case y30n24k28 => intro w hSw; (try dsimp only at hSw); go_simp <;> rfl
  try simp only [Act.put, List.setIfInBounds_toArray, List.set_cons_zero, List.set_cons_succ]
  refine wpAnyH_take (i := 31) (oi := ⟨some 77, Op.convert 5 3 (Operand.tmp 76), 3, _, _, some (26, false)⟩) (v := ?v31n24k29) rfl (by kernel_rfl) (by kernel_rfl) (by kernel_rfl) (fun _ _ _ h => h) (Or.inl ⟨by rfl, ?y31n24k29⟩) hHeld ?z31n24k29
  case y31n24k29 => intro w hSw; (try dsimp only at hSw); go_simp <;> rfl
  try simp only [Act.put, List.setIfInBounds_toArray, List.set_cons_zero, List.set_cons_succ]
  refine wpAnyH_take (i := 33) (oi := ⟨some 79, Op.move (Operand.tmp 0), 30, _, _, some (26, false)⟩) (v := ?v33n24k30) rfl (by kernel_rfl) (by kernel_rfl) (by kernel_rfl) (fun _ _ _ h => h) (Or.inl ⟨by rfl, ?y33n24k30⟩) hHeld ?z33n24k30
  case y33n24k30 => intro w hSw; (try dsimp only at hSw); go_simp <;> rfl
  try simp only [Act.put, List.setIfInBounds_toArray, List.set_cons_zero, List.set_cons_succ]
  refine wpAnyH_take (i := 34) (oi := ⟨some 80, Op.move (Operand.tmp 1), 31, _, _, some (26, false)⟩) (v := ?v34n24k31) rfl (by kernel_rfl) (by kernel_rfl) (by kernel_rfl) (fun _ _ _ h => h) (Or.inl ⟨by rfl, ?y34n24k31⟩) hHeld ?z34n24k31
  case y34n24k31 => intro w hSw; (try dsimp only at hSw); go_simp <;> rfl
  try simp only [Act.put, List.setIfInBounds_toArray, List.set_cons_zero, List.set_cons_succ]
  refine wpAnyH_take (i := 35) (oi := ⟨some 81, Op.move (Operand.tmp 2), 5, _, _, some (26, false)⟩) (v := ?v35n24k32) rfl (by kernel_rfl) (by kernel_rfl) (by kernel_rfl) (fun _ _ _ h => h) (Or.inl ⟨by rfl, ?y35n24k32⟩) hHeld ?z35n24k32
  case y35n24k32 => intro w hSw; (try dsimp only at hSw); go_simp <;> rfl
  try simp only [Act.put, List.setIfInBounds_toArray, List.set_cons_zero, List.set_cons_succ]
  refine wpAnyH_take (i := 36) (oi := ⟨some 82, Op.binOp BinOp.rem 5 (Operand.tmp 81) (Operand.const (Value.int IntKind.u8 40)) 5, 5, _, _, some (26, false)⟩) (v := ?v36n24k33) rfl (by kernel_rfl) (by kernel_rfl) (by kernel_rfl) (fun _ _ _ h => h) (Or.inl ⟨by rfl, ?y36n24k33⟩) hHeld ?z36n24k33
  case y36n24k33 => intro w hSw; (try dsimp only at hSw); go_simp <;> rfl
  try simp only [Act.put, List.setIfInBounds_toArray, List.set_cons_zero, List.set_cons_succ]
  refine wpAnyH_take (i := 37) (oi := ⟨some 83, Op.convert 5 3 (Operand.tmp 82), 3, _, _, some (26, false)⟩) (v := ?v37n24k34) rfl (by kernel_rfl) (by kernel_rfl) (by kernel_rfl) (fun _ _ _ h => h) (Or.inl ⟨by rfl, ?y37n24k34⟩) hHeld ?z37n24k34
  case y37n24k34 => intro w hSw; (try dsimp only at hSw); go_simp <;> rfl
  try simp only [Act.put, List.setIfInBounds_toArray, List.set_cons_zero, List.set_cons_succ]
  refine wpAnyH_ready (rs := [32]) (by kernel_rfl) (by simp) ?_
  refine AllReadyH.cons (o := ⟨some 78, Op.call { callee := Callee.value (Operand.func 33), args := #[Operand.tmp 73, Operand.tmp 74, Operand.tmp 77], argTypes := #[30, 31, 3] }, 4, _, _, some (26, false)⟩) rfl (fun K hK => ?_) AllReadyH.nil
  go_simp
  refine (R1.out _ (K8.out.step J4.out)).mono ?_
  rintro e u32 ⟨rfl, k32⟩
  have J32 := Lib.hid (J4.out.step k32)
  have L1b := Lib.hid (L14.out.keep k32 (fun _ _ h => h))
  have L4b := Lib.hid (L4.out.keep k32 (fun _ _ h => h))
  clear k32
  dsimp only
  refine hK.out _ _ ⟨CV.out _ A1 _ L1b.out, CV.out _ A4 _ L4b.out⟩ (fun hHeld => ?_)
  clear hK K
  try simp only [Act.put, List.setIfInBounds_toArray, List.set_cons_zero, List.set_cons_succ]
  refine wpAnyH_ready (rs := [38]) (by kernel_rfl) (by simp) ?_
  refine AllReadyH.cons (o := ⟨some 84, Op.call { callee := Callee.value (Operand.func 34), args := #[Operand.tmp 79, Operand.tmp 80, Operand.tmp 83], argTypes := #[30, 31, 3] }, 4, _, _, some (26, false)⟩) rfl (fun K hK => ?_) AllReadyH.nil
  go_simp
  refine (R2.out _ (K8.out.step J32.out)).mono ?_
  rintro e u38 ⟨rfl, k38⟩
  have J38 := Lib.hid (J32.out.step k38)
  have L1c := Lib.hid (L1b.out.keep k38 (fun _ _ h => h))
  have L4c := Lib.hid (L4b.out.keep k38 (fun _ _ h => h))
  clear k38
  dsimp only
  refine hK.out _ _ ⟨CV.out _ A1 _ L1c.out, CV.out _ A4 _ L4c.out⟩ (fun hHeld => ?_)
  clear hK K
  try simp only [Act.put, List.setIfInBounds_toArray, List.set_cons_zero, List.set_cons_succ]
  refine wpAnyH_take (i := 39) (oi := ⟨some 85, Op.binOp BinOp.neq 4 (Operand.tmp 78) (Operand.tmp 84) 4, 4, _, _, some (26, false)⟩) (v := ?v39n24k35) rfl (by kernel_rfl) (by kernel_rfl) (by kernel_rfl) (fun _ _ _ h => h) (Or.inl ⟨by rfl, ?y39n24k35⟩) hHeld ?z39n24k35
  case y39n24k35 => intro w hSw; (try dsimp only at hSw); go_simp <;> rfl
  try simp only [Act.put, List.setIfInBounds_toArray, List.set_cons_zero, List.set_cons_succ]
  refine wpAnyH_take (i := 40) (oi := ⟨some 86, Op.pick (Operand.tmp 72) (Operand.const (Value.bool true)) (Operand.tmp 85), 4, _, _, none⟩) (v := ?v40n24k36) rfl (by kernel_rfl) (by kernel_rfl) (by kernel_rfl) (fun _ _ _ h => h) (Or.inl ⟨by rfl, ?y40n24k36⟩) hHeld ?z40n24k36
  case y40n24k36 => intro w hSw; (try dsimp only at hSw); go_simp <;> rfl
  try simp only [Act.put, List.setIfInBounds_toArray, List.set_cons_zero, List.set_cons_succ]
  refine wpAnyH_done (by kernel_rfl) ?_ _
  refine NoPanic.normal ?_
  have K9 := Lib.hid (K8.out.step J38.out)
  have LQ9 := Lib.hid (LQ.out.keep J38.out (fun _ _ h => h))
  have LY9 := Lib.hid (LY.out.keep J38.out (fun _ _ h => h))
  clear hHeld J1 J4 J32 J38 L1 L14 L1b L1c L4 L4b L4c V0 V1 RD8 LQ LY K8 D8 t1 hwT R1 R2 CV
  go_wp2
  go_loopw [89] (fun i wr => ∃ k : Nat, k ≤ n1 ∧ i = .int .i64 (k : Int) ∧ Hid (Kept noBlock u38 wr)) (fun i _ => n1 - (intOf i).toNat)
  case atStart => exact ⟨0, by omega, rfl, Kept.refl _ _⟩
  case round =>
    obtain ⟨j, hj, rfl, KJ⟩ := hrel
    by_cases hlt : j < n1
    · obtain ⟨p, hp⟩ : ∃ p, P[j]? = some p := ⟨_, List.getElem?_eq_getElem (by rw [HPL.out]; exact hlt)⟩
      obtain ⟨g1, o1, rfl, _, z1⟩ := (LQ9.out.keep KJ.out (fun _ _ h => h)).elem PR.enc_len (by omega) hp
      obtain ⟨g2, o2, rfl, _, z2⟩ := ((LA.out _ (K9.out.step KJ.out))).elem PR.enc_len (by omega) hp
      have x0 := z1 0 _ rfl
      have x1 := z1 1 _ rfl
      have x2 := z1 2 _ rfl
      have v0 := z2 0 _ rfl
      have v1 := z2 1 _ rfl
      have v2 := z2 2 _ rfl
      rw [Nat.add_zero] at x0 v0
      have PN := fun u => HPNE.out u p
      obtain ⟨pk, pv, pg⟩ := p
      simp only at x0 x1 x2 v0 v1 v2 PN
      have hjn : (j : Int) < (n1 : Int) := by omega
      clear z1 z2 hp
      go_upto_region 14 with (fail)
      go_quiet (fail)
      have kq := Kept.drewN noBlock wr nq
      generalize wr.drewN nq = v at kq ⊢
      have KV := Lib.hid (KJ.out.step kq)
      clear kq x0 x1 x2 v0 v1 v2
      go_wp2
      go_roundw
      case rel => exact ⟨j + 1, by omega, by go_num, KV⟩
      case measure => simp [intOf]; omega
    · obtain rfl : j = n1 := by omega
      go_wp2
      go_loopw [104] (fun i wr2 => ∃ k : Nat, k ≤ m1 ∧ i = .int .i64 (k : Int) ∧ Hid (Kept noBlock u38 wr2)) (fun i _ => m1 - (intOf i).toNat)
      case atStart => exact ⟨0, by omega, rfl, KJ⟩
      case round =>
        obtain ⟨i, hi, rfl, KI⟩ := hrel
        by_cases hlt2 : i < m1
        · obtain ⟨p, hp⟩ : ∃ p, X[i]? = some p := ⟨_, List.getElem?_eq_getElem (by rw [HXL.out]; exact hlt2)⟩
          obtain ⟨g1, o1, rfl, _, z1⟩ := (LY9.out.keep KI.out (fun _ _ h => h)).elem SN.enc_len (by omega) hp
          obtain ⟨g2, o2, rfl, _, z2⟩ := ((LB.out _ (K9.out.step KI.out))).elem SN.enc_len (by omega) hp
          have x0 := z1 0 _ rfl
          have x1 := z1 1 _ rfl
          have x2 := z1 2 _ rfl
          have x3 := z1 3 _ rfl
          have v0 := z2 0 _ rfl
          have v1 := z2 1 _ rfl
          have v2 := z2 2 _ rfl
          have v3 := z2 3 _ rfl
          rw [Nat.add_zero] at x0 v0
          have PN := fun u => HSNE.out u p
          obtain ⟨pc, pq, pe, pv⟩ := p
          simp only at x0 x1 x2 x3 v0 v1 v2 v3 PN
          have hjn : (i : Int) < (m1 : Int) := by omega
          clear z1 z2 hp
          go_upto_region 20 with (fail)
          go_quiet (fail)
          have kq := Kept.drewN noBlock wr nq
          generalize wr.drewN nq = v at kq ⊢
          have KV := Lib.hid (KI.out.step kq)
          clear kq x0 x1 x2 x3 v0 v1 v2 v3
          go_wp2
          go_roundw
          case rel => exact ⟨i + 1, by omega, by go_num, KV⟩
          case measure => simp [intOf]; omega
        · obtain rfl : i = m1 := by omega
          go_wp2
          go_ret
          exact ⟨rfl, K9.out.step KI.out⟩
end Go.Proofs.Ytgmjnjbmolalmaa
