/-
  Three states, each behind the one ahead. No statement is proved here.
-/
import Derived.Test.YthmjjhjblokjeaaGreatConK
import Derived.Test.YthmjjhjblokjeaaGreatLawK
import Derived.Test.YthmjjhjblokjeaaGreatL7Fold
import Derived.Test.YthmjjhjblokjeaaGreatBoxA
namespace Go.Proofs.YthmjjhjblokjeaaGreat
open Go.RowKit Tot

/-- Values stored one behind the other. -/
def setL (w : World) (R : Nat) : Nat → List Value → World
  | _, [] => w
  | i, v :: r => setL (w.setCell ⟨R, i, none⟩ v) R (i + 1) r
theorem setL_kept (R : Nat) (vs : List Value) (w : World) (i : Nat) : Kept (fun j => j = R) w (setL w R i vs) := by
  induction vs generalizing w i with
  | nil => exact Kept.refl _ _
  | cons v r ih => exact (Kept.setCell w (by rfl) v).step (ih _ _)
theorem setL_block {R : Nat} {t : TypeId} (vs : List Value) : ∀ (w : World) (pre post : List Value), post.length = vs.length → w.heap[R]? = some (.cells (pre ++ post).toArray t (0, 0)) → (setL w R pre.length vs).heap[R]? = some (.cells (pre ++ vs).toArray t (0, 0)) := by
  induction vs with
  | nil =>
    intro w pre post hl h
    have : post = [] := List.eq_nil_of_length_eq_zero hl
    subst this
    exact h
  | cons v r ih =>
    intro w pre post hl h
    cases post with
    | nil => simp at hl
    | cons x q =>
      have h1 := heap_setCell_same w R pre.length _ t v h
      have h2 := ih (w.setCell ⟨R, pre.length, none⟩ v) (pre ++ [v]) q (by simpa using hl) (by rw [h1]; simp)
      rw [List.length_append, List.length_singleton] at h2
      show (setL (w.setCell ⟨R, pre.length, none⟩ v) R (pre.length + 1) r).heap[R]? = _
      rw [h2]
      simp
/-- Three states as they are laid in an array. -/
def threeV (s0 s1 s2 : StV) (A0 : Option Addr) (c0 : Nat) (B0 : Option Addr) (d0 : Nat) (A1 : Option Addr) (c1 : Nat) (B1 : Option Addr) (d1 : Nat) (A2 : Option Addr) (c2 : Nat) (B2 : Option Addr) (d2 : Nat) : List Value :=
  [.int .i64 s0.index, .int .i64 s0.term, .slice A0 s0.pairs.length c0, .slice B0 s0.sess.length d0, .int .i64 s1.index, .int .i64 s1.term, .slice A1 s1.pairs.length c1, .slice B1 s1.sess.length d1, .int .i64 s2.index, .int .i64 s2.term, .slice A2 s2.pairs.length c2, .slice B2 s2.sess.length d2]

theorem th_cells {w : World} {X : Nat} {s0 s1 s2 : StV} {A0 : Option Addr} {c0 : Nat} {B0 : Option Addr} {d0 : Nat} {A1 : Option Addr} {c1 : Nat} {B1 : Option Addr} {d1 : Nat} {A2 : Option Addr} {c2 : Nat} {B2 : Option Addr} {d2 : Nat} {t : TypeId} {fr : Nat × Nat} (h : w.heap[X]? = some (.cells (threeV s0 s1 s2 A0 c0 B0 d0 A1 c1 B1 d1 A2 c2 B2 d2).toArray t fr)) :
    w.cell? ⟨X, 0, none⟩ = some (.int .i64 s0.index) ∧ w.cell? ⟨X, 1, none⟩ = some (.int .i64 s0.term) ∧ w.cell? ⟨X, 2, none⟩ = some (.slice A0 s0.pairs.length c0) ∧ w.cell? ⟨X, 3, none⟩ = some (.slice B0 s0.sess.length d0) ∧ w.cell? ⟨X, 4, none⟩ = some (.int .i64 s1.index) ∧ w.cell? ⟨X, 5, none⟩ = some (.int .i64 s1.term) ∧ w.cell? ⟨X, 6, none⟩ = some (.slice A1 s1.pairs.length c1) ∧ w.cell? ⟨X, 7, none⟩ = some (.slice B1 s1.sess.length d1) ∧ w.cell? ⟨X, 8, none⟩ = some (.int .i64 s2.index) ∧ w.cell? ⟨X, 9, none⟩ = some (.int .i64 s2.term) ∧ w.cell? ⟨X, 10, none⟩ = some (.slice A2 s2.pairs.length c2) ∧ w.cell? ⟨X, 11, none⟩ = some (.slice B2 s2.sess.length d2) := by
  unfold threeV at h
  exact ⟨cell_of_row _ _ _ _ _ _ h, cell_of_row _ _ _ _ _ _ h, cell_of_row _ _ _ _ _ _ h, cell_of_row _ _ _ _ _ _ h, cell_of_row _ _ _ _ _ _ h, cell_of_row _ _ _ _ _ _ h, cell_of_row _ _ _ _ _ _ h, cell_of_row _ _ _ _ _ _ h, cell_of_row _ _ _ _ _ _ h, cell_of_row _ _ _ _ _ _ h, cell_of_row _ _ _ _ _ _ h, cell_of_row _ _ _ _ _ _ h⟩

set_option maxRecDepth 100000 in
set_option maxHeartbeats 1000000 in
theorem three_any (F : Nat → Prop) (a : Option Addr) (n cp : Nat) (ss : List SayV) (one two : UInt8) (w : World) (h : Lies w F a (sayCells ss)) (hl : ss.length = n) (hnc : n ≤ cp) :
    Calls Tryz.prog 5 #[.slice a n cp, .int .u8 (one.toNat : Int), .int .u8 (two.toNat : Int)] w fun en w' => ∃ s0 s1 s2 A0 c0 B0 d0 A1 c1 B1 d1 A2 c2 B2 d2, en = .returned (.agg (threeV s0 s1 s2 A0 c0 B0 d0 A1 c1 B1 d1 A2 c2 B2 d2).toArray) ∧
      Hid (Chain s0 s1 ∧ Chain s1 s2 ∧ Chain s0 s2 ∧ s2 = someV ss) ∧ Hid (Sv w' (fresh w w') s0 A0 c0 B0 d0 ∧ Sv w' (fresh w w') s1 A1 c1 B1 d1 ∧ Sv w' (fresh w w') s2 A2 c2 B2 d2) ∧ Kept noBlock w w' := by
  obtain ⟨es, hes⟩ : ∃ es, es = entsS ss := ⟨_, rfl⟩
  obtain ⟨m, hm⟩ : ∃ m, es.length = m := ⟨_, rfl⟩
  have hm80 : m ≤ 80 := by rw [← hm, hes]; exact entsS_length ss
  have hrow : rowB es (noState.index + 1) noState.term = true := by rw [hes]; exact entsS_row ss
  have hcu := one.toNat_lt
  have hcv := two.toNat_lt
  obtain ⟨j, hj⟩ : ∃ j, j = one.toNat % (m + 1) := ⟨_, rfl⟩
  have hjm : j ≤ m := by have := Nat.mod_lt one.toNat (show 0 < m + 1 by omega); omega
  obtain ⟨q, hq⟩ : ∃ q, q = two.toNat % (m - j + 1) := ⟨_, rfl⟩
  have hqm : j + q ≤ m := by have := Nat.mod_lt two.toNat (show 0 < m - j + 1 by omega); omega
  have t1 : ((one.toNat : Int)).tmod ((m : Int) + 1) = (j : Int) := by rw [hj]; exact tmod_nat _ (m + 1)
  have t2 : ((two.toNat : Int)).tmod ((m : Int) - (j : Int) + 1) = (q : Int) := by
    rw [hq, show (m : Int) - (j : Int) + 1 = ((m - j + 1 : Nat) : Int) by omega]
    exact tmod_nat _ (m - j + 1)
  obtain ⟨k, hk⟩ : ∃ k, k = j + q := ⟨_, rfl⟩
  have t3 : (j : Int) + (q : Int) = (k : Int) := by omega
  have hkm : k ≤ m := by omega
  have hjk : j ≤ k := by omega
  have ch := chain_three noState_right hrow hjk
  have EN := Lib.hid (fun u (ku : Kept noBlock w u) => ents_any F a n cp 1 0 ss es u (h.keep ku (fun _ _ h => h)) hl hnc hes (by decide) (by decide) (by decide) (by decide))
  simp only [hm] at EN
  have FO : ∀ i, i ≤ m → Hid (∀ u A cc, Lies u (fun _ => True) A (entCells es) → i ≤ cc → Calls Tryz.prog 19 #[.agg #[.int .i64 0, .int .i64 0, .slice none 0 0, .slice none 0 0], .slice A i cc] u fun en w' => ∃ A' c' B' d', en = .returned (stv (foldV noState (es.take i)) A' c' B' d') ∧ Sv w' (fresh u w') (foldV noState (es.take i)) A' c' B' d' ∧ Kept noBlock u w') := fun i hi u A cc h1 h3 =>
    fold_any (fun _ => True) noState none 0 none 0 A i cc (es.take i) u (Sv.none _ _) noState_right (by rw [entCells_take]; exact h1.take _) (by rw [List.length_take, hm]; omega) h3 (by omega)
  have FO1 := FO j hjm
  have FO2 := FO k hkm
  have FO3 := FO m (Nat.le_refl _)
  rw [List.take_of_length_le (Nat.le_of_eq hm)] at FO3
  have hs2 : foldV noState es = someV ss := by rw [hes]; rfl
  obtain ⟨s0, hs0⟩ : ∃ s, s = foldV noState (es.take j) := ⟨_, rfl⟩
  obtain ⟨s1, hs1⟩ : ∃ s, s = foldV noState (es.take k) := ⟨_, rfl⟩
  obtain ⟨s2, hs2'⟩ : ∃ s, s = foldV noState es := ⟨_, rfl⟩
  rw [← hs0] at FO1 ch
  rw [← hs1] at FO2 ch
  rw [← hs2'] at FO3 ch hs2
  have CH : Hid (Chain s0 s1 ∧ Chain s1 s2 ∧ Chain s0 s2 ∧ s2 = someV ss) := ⟨ch.1, ch.2.1, ch.2.2, hs2⟩
  clear FO hs0 hs1 hs2' ch hs2 hrow hm hes hk hj hq h hl hnc
  unfold stv at FO1 FO2 FO3
  have ka := Kept.alloc noBlock w (.cells #[.int .i64 0, .int .i64 0, .slice none 0 0, .slice none 0 0, .int .i64 0, .int .i64 0, .slice none 0 0, .slice none 0 0, .int .i64 0, .int .i64 0, .slice none 0 0, .slice none 0 0] 28)
  have hR := heap_alloc_new w (.cells #[.int .i64 0, .int .i64 0, .slice none 0 0, .slice none 0 0, .int .i64 0, .int .i64 0, .slice none 0 0, .slice none 0 0, .int .i64 0, .int .i64 0, .slice none 0 0, .slice none 0 0] 28)
  go_enter Tryz.func5, Tryz.ntmps5
  go_upto_region 1 with (fail)
  obtain ⟨R, hRe⟩ : ∃ R, R = w.heap.size := ⟨_, rfl⟩
  rw [← hRe] at hR ⊢
  generalize w.alloc (.cells #[.int .i64 0, .int .i64 0, .slice none 0 0, .slice none 0 0, .int .i64 0, .int .i64 0, .slice none 0 0, .slice none 0 0, .int .i64 0, .int .i64 0, .slice none 0 0, .slice none 0 0] 28) = w1 at ka hR ⊢
  have HRW := Lib.hid hRe
  have HR1 := Lib.hid hR
  have K1 := Lib.hid ka
  clear hR hRe ka
  go_wp2_with fail
  refine (EN.out w1 K1.out).mono ?_
  rintro e w2 ⟨A, cc, rfl, h2, k2⟩
  have hcc : m ≤ cc := by obtain ⟨_, _, e, hle⟩ := own_form h2; injection e with _ _ e; omega
  have L2 := Lib.hid (Lies.of_rows (F := fun _ => True) h2 (fun _ _ => trivial))
  have K2 := Lib.hid (K1.out.step k2)
  have HR2 := Lib.hid (k2.blk HR1.out (fun h => h))
  have HRL := Lib.hid (lt_of_blk HR1.out)
  have HZ2 := Lib.hid k2.size
  clear h2 k2 EN HR1
  have i1 : (j : Int) ≤ (cc : Int) := by omega
  have i2 : (k : Int) ≤ (cc : Int) := by omega
  have i3 : (j : Int) ≤ (m : Int) := by omega
  have i4 : (k : Int) ≤ (m : Int) := by omega
  go_upto_region 4 with (fail)
  refine wp_region_noPanic ?_
  refine wp_region_held_drew (S := fun _ => True) (by kernel_rfl) trivial (fun hHeld => ?_)
  refine wpAnyH_take (i := 0) (oi := ⟨some 28, Op.build 27 #[], 27, _, _, none⟩) (v := ?v0n22k1) rfl (by kernel_rfl) (by kernel_rfl) (by kernel_rfl) (fun _ _ _ h => h) (Or.inl ⟨by rfl, ?y0n22k1⟩) hHeld ?z0n22k1
  case y0n22k1 => intro w hSw; (try dsimp only at hSw); go_simp <;> rfl
  try simp only [Act.put, List.setIfInBounds_toArray, List.set_cons_zero, List.set_cons_succ]
  refine wpAnyH_take (i := 1) (oi := ⟨some 29, Op.move (Operand.tmp 7), 41, _, _, none⟩) (v := ?v1n22k2) rfl (by kernel_rfl) (by kernel_rfl) (by kernel_rfl) (fun _ _ _ h => h) (Or.inl ⟨by rfl, ?y1n22k2⟩) hHeld ?z1n22k2
  case y1n22k2 => intro w hSw; (try dsimp only at hSw); go_simp <;> rfl
  try simp only [Act.put, List.setIfInBounds_toArray, List.set_cons_zero, List.set_cons_succ]
  refine wpAnyH_take (i := 2) (oi := ⟨some 30, Op.move (Operand.tmp 8), 3, _, _, none⟩) (v := ?v2n22k3) rfl (by kernel_rfl) (by kernel_rfl) (by kernel_rfl) (fun _ _ _ h => h) (Or.inl ⟨by rfl, ?y2n22k3⟩) hHeld ?z2n22k3
  case y2n22k3 => intro w hSw; (try dsimp only at hSw); go_simp <;> rfl
  try simp only [Act.put, List.setIfInBounds_toArray, List.set_cons_zero, List.set_cons_succ]
  refine wpAnyH_take (i := 3) (oi := ⟨some 31, Op.slice 41 (Operand.tmp 29) none (some (Operand.tmp 30)) none, 41, _, _, none⟩) (v := ?v3n22k4) rfl (by kernel_rfl) (by kernel_rfl) (by kernel_rfl) (fun _ _ _ h => h) (Or.inl ⟨by rfl, ?y3n22k4⟩) hHeld ?z3n22k4
  case y3n22k4 => intro w hSw; (try dsimp only at hSw); go_simp <;> rfl
  try simp only [Act.put, List.setIfInBounds_toArray, List.set_cons_zero, List.set_cons_succ]
  refine wpAnyH_take (i := 5) (oi := ⟨some 33, Op.build 27 #[], 27, _, _, none⟩) (v := ?v5n22k5) rfl (by kernel_rfl) (by kernel_rfl) (by kernel_rfl) (fun _ _ _ h => h) (Or.inl ⟨by rfl, ?y5n22k5⟩) hHeld ?z5n22k5
  case y5n22k5 => intro w hSw; (try dsimp only at hSw); go_simp <;> rfl
  try simp only [Act.put, List.setIfInBounds_toArray, List.set_cons_zero, List.set_cons_succ]
  refine wpAnyH_take (i := 6) (oi := ⟨some 34, Op.move (Operand.tmp 7), 41, _, _, none⟩) (v := ?v6n22k6) rfl (by kernel_rfl) (by kernel_rfl) (by kernel_rfl) (fun _ _ _ h => h) (Or.inl ⟨by rfl, ?y6n22k6⟩) hHeld ?z6n22k6
  case y6n22k6 => intro w hSw; (try dsimp only at hSw); go_simp <;> rfl
  try simp only [Act.put, List.setIfInBounds_toArray, List.set_cons_zero, List.set_cons_succ]
  refine wpAnyH_take (i := 7) (oi := ⟨some 35, Op.move (Operand.tmp 9), 3, _, _, none⟩) (v := ?v7n22k7) rfl (by kernel_rfl) (by kernel_rfl) (by kernel_rfl) (fun _ _ _ h => h) (Or.inl ⟨by rfl, ?y7n22k7⟩) hHeld ?z7n22k7
  case y7n22k7 => intro w hSw; (try dsimp only at hSw); go_simp <;> rfl
  try simp only [Act.put, List.setIfInBounds_toArray, List.set_cons_zero, List.set_cons_succ]
  refine wpAnyH_take (i := 8) (oi := ⟨some 36, Op.slice 41 (Operand.tmp 34) none (some (Operand.tmp 35)) none, 41, _, _, none⟩) (v := ?v8n22k8) rfl (by kernel_rfl) (by kernel_rfl) (by kernel_rfl) (fun _ _ _ h => h) (Or.inl ⟨by rfl, ?y8n22k8⟩) hHeld ?z8n22k8
  case y8n22k8 => intro w hSw; (try dsimp only at hSw); go_simp <;> rfl
  try simp only [Act.put, List.setIfInBounds_toArray, List.set_cons_zero, List.set_cons_succ]
  refine wpAnyH_take (i := 10) (oi := ⟨some 38, Op.build 27 #[], 27, _, _, none⟩) (v := ?v10n22k9) rfl (by kernel_rfl) (by kernel_rfl) (by kernel_rfl) (fun _ _ _ h => h) (Or.inl ⟨by rfl, ?y10n22k9⟩) hHeld ?z10n22k9
  case y10n22k9 => intro w hSw; (try dsimp only at hSw); go_simp <;> rfl
  try simp only [Act.put, List.setIfInBounds_toArray, List.set_cons_zero, List.set_cons_succ]
  refine wpAnyH_take (i := 11) (oi := ⟨some 39, Op.move (Operand.tmp 7), 41, _, _, none⟩) (v := ?v11n22k10) rfl (by kernel_rfl) (by kernel_rfl) (by kernel_rfl) (fun _ _ _ h => h) (Or.inl ⟨by rfl, ?y11n22k10⟩) hHeld ?z11n22k10
  case y11n22k10 => intro w hSw; (try dsimp only at hSw); go_simp <;> rfl
  try simp only [Act.put, List.setIfInBounds_toArray, List.set_cons_zero, List.set_cons_succ]
  refine wpAnyH_ready (rs := [4]) (by kernel_rfl) (by simp) ?_
  refine AllReadyH.cons (o := ⟨some 32, Op.call { callee := Callee.value (Operand.func 19), args := #[Operand.tmp 28, Operand.tmp 31], argTypes := #[27, 41] }, 27, _, _, none⟩) rfl (fun K hK => ?_) AllReadyH.nil
  go_simp
  refine (FO1.out _ A cc (L2.out.keep (Kept.drew noBlock w2) (fun _ _ h => h)) (by omega)).mono ?_
  rintro e u4 ⟨A4, c4, B4, d4, rfl, sv4, k4⟩
  have J4 := Lib.hid ((Kept.drew noBlock w2).step k4)
  have SV4 : Hid (Sv u4 (fresh w2 u4) s0 A4 c4 B4 d4) := sv4
  clear sv4 k4
  dsimp only
  refine hK.out _ _ trivial (fun hHeld => ?_)
  clear hK K
  try simp only [Act.put, List.setIfInBounds_toArray, List.set_cons_zero, List.set_cons_succ]
  refine wpAnyH_ready (rs := [9]) (by kernel_rfl) (by simp) ?_
  refine AllReadyH.cons (o := ⟨some 37, Op.call { callee := Callee.value (Operand.func 19), args := #[Operand.tmp 33, Operand.tmp 36], argTypes := #[27, 41] }, 27, _, _, none⟩) rfl (fun K hK => ?_) AllReadyH.nil
  go_simp
  refine (FO2.out _ A cc (L2.out.keep J4.out (fun _ _ h => h)) (by omega)).mono ?_
  rintro e u9 ⟨A9, c9, B9, d9, rfl, sv9, k9⟩
  have J9 := Lib.hid (J4.out.step k9)
  have SV9 : Hid (Sv u9 (fresh w2 u9) s1 A9 c9 B9 d9) := sv9.mono (fun i hi => ⟨Nat.le_trans J4.out.size hi.1, hi.2⟩)
  have SV49 : Hid (Sv u9 (fresh w2 u9) s0 A4 c4 B4 d4) := (SV4.out.kept k9).mono (fun i hi => ⟨hi.1, Nat.lt_of_lt_of_le hi.2 k9.size⟩)
  clear sv9 k9 SV4
  dsimp only
  refine hK.out _ _ trivial (fun hHeld => ?_)
  clear hK K
  try simp only [Act.put, List.setIfInBounds_toArray, List.set_cons_zero, List.set_cons_succ]
  refine wpAnyH_ready (rs := [12]) (by kernel_rfl) (by simp) ?_
  refine AllReadyH.cons (o := ⟨some 40, Op.call { callee := Callee.value (Operand.func 19), args := #[Operand.tmp 38, Operand.tmp 39], argTypes := #[27, 41] }, 27, _, _, none⟩) rfl (fun K hK => ?_) AllReadyH.nil
  go_simp
  refine (FO3.out _ A cc (L2.out.keep J9.out (fun _ _ h => h)) hcc).mono ?_
  rintro e u12 ⟨A12, c12, B12, d12, rfl, sv12, k12⟩
  have J12 := Lib.hid (J9.out.step k12)
  have SX2 : Hid (Sv u12 (fresh w2 u12) s2 A12 c12 B12 d12) := sv12.mono (fun i hi => ⟨Nat.le_trans J9.out.size hi.1, hi.2⟩)
  have SX1 : Hid (Sv u12 (fresh w2 u12) s1 A9 c9 B9 d9) := (SV9.out.kept k12).mono (fun i hi => ⟨hi.1, Nat.lt_of_lt_of_le hi.2 k12.size⟩)
  have SX0 : Hid (Sv u12 (fresh w2 u12) s0 A4 c4 B4 d4) := (SV49.out.kept k12).mono (fun i hi => ⟨hi.1, Nat.lt_of_lt_of_le hi.2 k12.size⟩)
  have HR12 := Lib.hid (J12.out.blk HR2.out (fun h => h))
  clear sv12 k12 SV9 SV49
  dsimp only
  have q0 : u12.cell? ⟨R, 0, none⟩ = some (.int .i64 0) := cell_of_row _ _ _ _ _ _ HR12.out
  have q1 : u12.cell? ⟨R, 1, none⟩ = some (.int .i64 0) := cell_of_row _ _ _ _ _ _ HR12.out
  have q2 : u12.cell? ⟨R, 2, none⟩ = some (.slice none 0 0) := cell_of_row _ _ _ _ _ _ HR12.out
  have q3 : u12.cell? ⟨R, 3, none⟩ = some (.slice none 0 0) := cell_of_row _ _ _ _ _ _ HR12.out
  have q4 : u12.cell? ⟨R, 4, none⟩ = some (.int .i64 0) := cell_of_row _ _ _ _ _ _ HR12.out
  have q5 : u12.cell? ⟨R, 5, none⟩ = some (.int .i64 0) := cell_of_row _ _ _ _ _ _ HR12.out
  have q6 : u12.cell? ⟨R, 6, none⟩ = some (.slice none 0 0) := cell_of_row _ _ _ _ _ _ HR12.out
  have q7 : u12.cell? ⟨R, 7, none⟩ = some (.slice none 0 0) := cell_of_row _ _ _ _ _ _ HR12.out
  have q8 : u12.cell? ⟨R, 8, none⟩ = some (.int .i64 0) := cell_of_row _ _ _ _ _ _ HR12.out
  have q9 : u12.cell? ⟨R, 9, none⟩ = some (.int .i64 0) := cell_of_row _ _ _ _ _ _ HR12.out
  have q10 : u12.cell? ⟨R, 10, none⟩ = some (.slice none 0 0) := cell_of_row _ _ _ _ _ _ HR12.out
  have q11 : u12.cell? ⟨R, 11, none⟩ = some (.slice none 0 0) := cell_of_row _ _ _ _ _ _ HR12.out
  have f0 : u12.frozen? ⟨R, 0, none⟩ = false := frozen_of_row _ _ _ _ _ HR12.out
  have f1 : u12.frozen? ⟨R, 1, none⟩ = false := frozen_of_row _ _ _ _ _ HR12.out
  have f2 : u12.frozen? ⟨R, 2, none⟩ = false := frozen_of_row _ _ _ _ _ HR12.out
  have f3 : u12.frozen? ⟨R, 3, none⟩ = false := frozen_of_row _ _ _ _ _ HR12.out
  have f4 : u12.frozen? ⟨R, 4, none⟩ = false := frozen_of_row _ _ _ _ _ HR12.out
  have f5 : u12.frozen? ⟨R, 5, none⟩ = false := frozen_of_row _ _ _ _ _ HR12.out
  have f6 : u12.frozen? ⟨R, 6, none⟩ = false := frozen_of_row _ _ _ _ _ HR12.out
  have f7 : u12.frozen? ⟨R, 7, none⟩ = false := frozen_of_row _ _ _ _ _ HR12.out
  have f8 : u12.frozen? ⟨R, 8, none⟩ = false := frozen_of_row _ _ _ _ _ HR12.out
  have f9 : u12.frozen? ⟨R, 9, none⟩ = false := frozen_of_row _ _ _ _ _ HR12.out
  have f10 : u12.frozen? ⟨R, 10, none⟩ = false := frozen_of_row _ _ _ _ _ HR12.out
  have f11 : u12.frozen? ⟨R, 11, none⟩ = false := frozen_of_row _ _ _ _ _ HR12.out
  refine hK.out _ _ trivial (fun hHeld => ?_)
  clear hK K
  try simp only [Act.put, List.setIfInBounds_toArray, List.set_cons_zero, List.set_cons_succ]
  refine wpAnyH_take (i := 13) (oi := ⟨some 41, Op.build 28 #[(0, Operand.tmp 32), (1, Operand.tmp 37), (2, Operand.tmp 40)], 28, _, _, none⟩) (v := ?v13n22k11) rfl (by kernel_rfl) (by kernel_rfl) (by kernel_rfl) (fun _ _ _ h => h) (Or.inl ⟨by rfl, ?y13n22k11⟩) hHeld ?z13n22k11
  case y13n22k11 => intro w hSw; (try dsimp only at hSw); go_simp <;> rfl
  try simp only [Act.put, List.setIfInBounds_toArray, List.set_cons_zero, List.set_cons_succ]
  refine wpAnyH_ready (rs := [14]) (by kernel_rfl) (by simp) ?_
  refine AllReadyH.cons (o := ⟨none, Op.store 28 (Operand.tmp 6) (Operand.tmp 41), 0, _, _, none⟩) rfl (fun K hK => ?_) AllReadyH.nil
  go_simp
  refine hK.out _ _ trivial (fun hHeld => ?_)
  clear hK K
  try simp only [Act.put, List.setIfInBounds_toArray, List.set_cons_zero, List.set_cons_succ]
  refine wpAnyH_done (by kernel_rfl) ?_ _
  refine NoPanic.normal ?_
  clear hHeld q0 q1 q2 q3 q4 q5 q6 q7 q8 q9 q10 q11 f0 f1 f2 f3 f4 f5 f6 f7 f8 f9 f10 f11
  have kz := setL_kept R (threeV s0 s1 s2 A4 c4 B4 d4 A9 c9 B9 d9 A12 c12 B12 d12) u12 0
  have hz := setL_block (R := R) (threeV s0 s1 s2 A4 c4 B4 d4 A9 c9 B9 d9 A12 c12 B12 d12) u12 [] _ (by rfl) HR12.out
  have hz : (setL u12 R 0 (threeV s0 s1 s2 A4 c4 B4 d4 A9 c9 B9 d9 A12 c12 B12 d12)).heap[R]? = some (.cells (threeV s0 s1 s2 A4 c4 B4 d4 A9 c9 B9 d9 A12 c12 B12 d12).toArray 28 (0, 0)) := hz
  change Exit.then _ _ _ _ (setL u12 R 0 (threeV s0 s1 s2 A4 c4 B4 d4 A9 c9 B9 d9 A12 c12 B12 d12))
  generalize setL u12 R 0 (threeV s0 s1 s2 A4 c4 B4 d4 A9 c9 B9 d9 A12 c12 B12 d12) = vz at kz hz ⊢
  have KZ : Hid (Kept noBlock w vz) := (((K2.out.step J12.out).mono (T := fun i => w.heap.size ≤ i) (fun _ _ h => h.elim)).trans kz (fun i _ h => by have := HRW.out; omega)).mono (fun i hi h => by omega)
  have hfr : ∀ i, fresh w2 u12 i → fresh w vz i := fun i hi => ⟨Nat.le_trans K2.out.size hi.1, Nat.lt_of_lt_of_le hi.2 kz.size⟩
  have hnR : ∀ i, fresh w2 u12 i → ¬ i = R := fun i hi e => by have := HRL.out; have := HZ2.out; have := hi.1; omega
  have SZ : Hid (Sv vz (fresh w vz) s0 A4 c4 B4 d4 ∧ Sv vz (fresh w vz) s1 A9 c9 B9 d9 ∧ Sv vz (fresh w vz) s2 A12 c12 B12 d12) :=
    ⟨(SX0.out.keep kz hnR).mono hfr, (SX1.out.keep kz hnR).mono hfr, (SX2.out.keep kz hnR).mono hfr⟩
  clear kz hfr hnR SX0 SX1 SX2
  unfold threeV at hz
  have z0 : vz.cell? ⟨R, 0, none⟩ = some _ := cell_of_row _ _ _ _ _ _ hz
  have z1 : vz.cell? ⟨R, 1, none⟩ = some _ := cell_of_row _ _ _ _ _ _ hz
  have z2 : vz.cell? ⟨R, 2, none⟩ = some _ := cell_of_row _ _ _ _ _ _ hz
  have z3 : vz.cell? ⟨R, 3, none⟩ = some _ := cell_of_row _ _ _ _ _ _ hz
  have z4 : vz.cell? ⟨R, 4, none⟩ = some _ := cell_of_row _ _ _ _ _ _ hz
  have z5 : vz.cell? ⟨R, 5, none⟩ = some _ := cell_of_row _ _ _ _ _ _ hz
  have z6 : vz.cell? ⟨R, 6, none⟩ = some _ := cell_of_row _ _ _ _ _ _ hz
  have z7 : vz.cell? ⟨R, 7, none⟩ = some _ := cell_of_row _ _ _ _ _ _ hz
  have z8 : vz.cell? ⟨R, 8, none⟩ = some _ := cell_of_row _ _ _ _ _ _ hz
  have z9 : vz.cell? ⟨R, 9, none⟩ = some _ := cell_of_row _ _ _ _ _ _ hz
  have z10 : vz.cell? ⟨R, 10, none⟩ = some _ := cell_of_row _ _ _ _ _ _ hz
  have z11 : vz.cell? ⟨R, 11, none⟩ = some _ := cell_of_row _ _ _ _ _ _ hz
  go_wp2
  refine bodyPost_ret (v := .agg (threeV s0 s1 s2 A4 c4 B4 d4 A9 c9 B9 d9 A12 c12 B12 d12).toArray) (by simp [results, Tryz.results5, go_sem, threeV, Tryz.isAgg28, Tryz.sizeOf28, z0, z1, z2, z3, z4, z5, z6, z7, z8, z9, z10, z11]) rfl ?_
  exact ⟨s0, s1, s2, A4, c4, B4, d4, A9, c9, B9, d9, A12, c12, B12, d12, rfl, CH, SZ, KZ.out⟩
end Go.Proofs.YthmjjhjblokjeaaGreat
