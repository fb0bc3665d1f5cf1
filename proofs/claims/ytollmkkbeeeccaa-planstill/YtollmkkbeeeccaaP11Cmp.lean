/-
  The contracts of plan.compare, and of what it calls. No statement is proved here.
-/
import Derived.Test.YtollmkkbeeeccaaPln
import Derived.Test.YtollmkkbeeeccaaE10Ref
import Derived.Great.BuildSlice
import Derived.Sort.Grow
import Derived.Deep.DeepCutAuto
namespace Go.Proofs.Ytollmkkbeeeccaa
open Go.RowKit Tot

/-- w' has all that w had, and drew no less. -/
structure Grown (w w' : World) : Prop where
  kept : Kept noBlock w w'
  drawn : w.drawn ≤ w'.drawn
section
variable {w a b : World}
theorem Grown.refl (w : World) : Grown w w := ⟨Kept.refl _ _, Nat.le_refl _⟩
theorem Grown.trans (h : Grown w a) (k : Grown a b) : Grown w b := ⟨h.kept.step k.kept, Nat.le_trans h.drawn k.drawn⟩
theorem Grown.alloc (w : World) (o : Obj) : Grown w (w.alloc o) := ⟨Kept.alloc _ _ _, Nat.le_refl _⟩
theorem Grown.drew (w : World) : Grown w w.drew := ⟨Kept.drew _ _, Nat.le_succ _⟩
theorem Grown.drewN (w : World) (n : Nat) : Grown w (w.drewN n) := ⟨Kept.drewN _ _ _, Nat.le_add_right _ _⟩
theorem Grown.grow (w : World) (os : Array Obj) : Grown w (Sort.grow w os) := ⟨⟨rfl, rfl, rfl, by simp [Sort.grow], fun i hi _ => by simp [Sort.grow, Array.getElem?_append_left hi]⟩, Nat.le_refl _⟩
theorem Grown.out (h : Grown w a) : ∃ q os, a = Sort.grow (w.drewN q) os := by
  obtain ⟨⟨h1, h2, h3, h4, h5⟩, h6⟩ := h
  refine ⟨a.drawn - w.drawn, a.heap.extract w.heap.size a.heap.size, ?_⟩
  obtain ⟨ah, at_, ad, ao, au⟩ := a
  obtain ⟨wh, wt, wd, wo, wu⟩ := w
  simp only at h1 h2 h3 h4 h5 h6
  subst h1; subst h2; subst h3
  unfold Sort.grow World.drewN
  simp only [World.mk.injEq, true_and, and_true]
  constructor
  · apply Array.ext_getElem?
    intro i
    by_cases hi : i < wh.size
    · rw [Array.getElem?_append_left hi]
      exact h5 i hi (fun h => h)
    · rw [Array.getElem?_append_right (by omega), Array.getElem?_extract]
      split
      · congr 1
        omega
      · rename_i hlt
        rw [Array.getElem?_eq_none (by omega)]
  · omega
theorem Grown.of_out {q : Nat} {os : Array Obj} (h : a = Sort.grow (w.drewN q) os) : Grown w a := by rw [h]; exact (Grown.drewN _ _).trans (Grown.grow _ _)
end

theorem pair_cells {w : World} {R : Nat} {x0 x1 : Value} {t : TypeId} {fr : Nat × Nat} (h : w.heap[R]? = some (.cells #[x0, x1] t fr)) : w.cell? ⟨R, 0, none⟩ = some x0 ∧ w.cell? ⟨R, 1, none⟩ = some x1 := ⟨cell_of_row _ _ _ _ _ _ h, cell_of_row _ _ _ _ _ _ h⟩

theorem nan_any (x : Int) (w : World) : Calls Try.prog 45 #[.int .i64 x] w fun e w' => e = .returned (.bool false) ∧ w = w' := by
  go_enter Try.func45, Try.ntmps45
  go_wp2
  go_ret
  exact ⟨by simp, rfl⟩

set_option maxRecDepth 100000 in
theorem ccmp_any (x y : Int) (w : World) : Calls Try.prog 40 #[.int .i64 x, .int .i64 y] w fun e w' => e = .returned (.int .i64 (cmpI x y)) ∧ w = w' := by
  have h1 := Lib.hid (fun u => nan_any x u)
  have h2 := Lib.hid (fun u => nan_any y u)
  unfold cmpI
  rcases Int.lt_trichotomy x y with h | h | h
  · rw [if_pos h]
    go_enter Try.func40, Try.ntmps40
    go_wp2_with fail
    refine (h1.out _).mono ?_
    rintro e w' ⟨rfl, rfl⟩
    go_wp2_with fail
    refine (h2.out _).mono ?_
    rintro e w' ⟨rfl, rfl⟩
    go_wp2
    go_ret
    exact ⟨rfl, rfl⟩
  · subst h
    rw [if_neg (by omega), if_neg (by omega)]
    have hlt : ¬ x < x := by omega
    go_enter Try.func40, Try.ntmps40
    go_wp2_with fail
    refine (h1.out _).mono ?_
    rintro e w' ⟨rfl, rfl⟩
    go_wp2_with fail
    refine (h2.out _).mono ?_
    rintro e w' ⟨rfl, rfl⟩
    go_wp2
    go_ret
    exact ⟨rfl, rfl⟩
  · have hlt : ¬ x < y := by omega
    rw [if_neg hlt, if_pos h]
    go_enter Try.func40, Try.ntmps40
    go_wp2_with fail
    refine (h1.out _).mono ?_
    rintro e w' ⟨rfl, rfl⟩
    go_wp2_with fail
    refine (h2.out _).mono ?_
    rintro e w' ⟨rfl, rfl⟩
    go_wp2
    go_ret
    exact ⟨rfl, rfl⟩

set_option maxRecDepth 100000 in
set_option maxHeartbeats 1000000 in
theorem cor_any (x y : Int) (B c : Nat) (w : World) (h0 : w.cell? ⟨B, 0, none⟩ = some (.int .i64 x)) (h1 : w.cell? ⟨B, 1, none⟩ = some (.int .i64 y)) :
    Calls Try.prog 39 #[.slice (some ⟨B, 0, none⟩) 2 c] w fun e w' => e = .returned (.int .i64 (if x = 0 then y else x)) ∧ w = w' := by
  obtain ⟨z, hz0⟩ : ∃ z, z = if x = 0 then y else x := ⟨_, rfl⟩
  rw [← hz0]
  have Z := Lib.hid hz0
  clear hz0
  have hz : ∀ a : Int, a ≠ 0 → (a == 0) = false := fun a h => by simpa using h
  have HZ := Lib.hid hz; clear hz
  have C0 := Lib.hid h0
  have C1 := Lib.hid h1
  clear h0 h1
  go_enter Try.func39, Try.ntmps39
  go_wp2_with fail
  go_loopw [8] (fun i wr => wr = w ∧ ∃ j : Nat, j ≤ 2 ∧ i = .int .i64 (j : Int) ∧ Hid (1 ≤ j → x = 0) ∧ Hid (2 ≤ j → y = 0)) (fun i _ => 2 - (intOf i).toNat)
  case atStart => exact ⟨rfl, 0, by omega, rfl, fun h => by omega, fun h => by omega⟩
  case round =>
    obtain ⟨rfl, j, hj, rfl, H1, H2⟩ := hrel
    have hj3 : j = 0 ∨ j = 1 ∨ j = 2 := by omega
    rcases hj3 with rfl | rfl | rfl
    · have h0 := C0.out
      by_cases hx : x = 0
      · subst hx
        go_wp2
        go_roundw
        case rel => exact ⟨by trivial, 1, by omega, by go_num, fun _ => by trivial, fun h => by omega⟩
        case measure => simp [intOf]
      · have hx0 := HZ.out x hx
        have hzx : Hid (z = x) := by unfold Hid; rw [Z.out, if_neg hx]
        clear hx
        go_wp2
        go_ret
        rw [hzx.out]
        exact ⟨rfl, rfl⟩
    · have h1 := C1.out
      obtain rfl := H1.out (by omega)
      have hzx : Hid (z = y) := by unfold Hid; rw [Z.out, if_pos rfl]
      by_cases hy : y = 0
      · subst hy
        go_wp2
        go_roundw
        case rel => exact ⟨by trivial, 2, by omega, by go_num, fun _ => by trivial, fun _ => by trivial⟩
        case measure => simp [intOf]
      · have hy0 := HZ.out y hy
        clear hy
        go_wp2
        go_ret
        rw [hzx.out]
        exact ⟨rfl, rfl⟩
    · obtain rfl := H1.out (by omega)
      obtain rfl := H2.out (by omega)
      have hzx : Hid (z = 0) := by unfold Hid; rw [Z.out, if_pos rfl]
      go_wp2
      go_ret
      rw [hzx.out]
      exact ⟨rfl, rfl⟩

theorem Try.infoInt : (Try.prog.info? 3).map (fun i => (i.zero, i.size, i.bytes)) = some (some (.int .i64 0), 1, 8) := by kernel_rfl
/-- A row of two numbers that is written out, at a step of a region that draws its order. -/
theorem step_twoI {w : World} {ops : Array Oper} {o : Oper} {a : Act} {K : Act → World → Prop} {Q : Exit → Act → World → Prop} {E : Prop} (hgd : o.guard = Option.none) (p q : Operand) (ho : o.op = .buildSlice 70 2 #[(0, p), (1, q)]) (x y : Int)
    (hp : a.eval p = .int .i64 x) (hq : a.eval q = .int .i64 y) (hK : ∀ B u, Grown w u → u.heap[B]? = some (.cells #[.int .i64 x, .int .i64 y] 3 (0, 0)) → K (a.put o.dst (.slice (some ⟨B, 0, Option.none⟩) 2 2)) u) :
    if Region.wanted o (yielded ops a.tmps) = true then Oper.wp Try.prog o a w K Q else E := by
  rw [if_pos (by simp [Region.wanted, hgd])]
  obtain ⟨i, hi, hz, h1, h2⟩ := info_parts Try.infoInt
  refine wp_buildSlice 70 3 2 #[(0, p), (1, q)] ho #[.int .i64 x, .int .i64 y] i (.int .i64 0) Try.underlying70 hi hz (by rw [h1]; decide) (by rw [h1]; decide) ?_ ?_
  · rw [h1]
    have := Great.fill_flat [.int .i64 x, .int .i64 y] ((Array.range (2 * 1)).map (fun k => (Value.int .i64 0).cells[k % (Value.int .i64 0).cells.size]!)) (by intro v hv; simp at hv; rcases hv with rfl | rfl <;> rfl) (by simp)
    simpa [hp, hq] using this
  · exact hK _ _ (Grown.alloc _ _) (heap_alloc_new w _)

set_option maxRecDepth 100000 in
set_option maxHeartbeats 1000000 in
theorem cmp_any (a b : RefV) (w : World) : Calls Try.prog 31 #[a.val, b.val] w fun e w' => e = .returned (.int .i64 (cmpR a b)) ∧ Grown w w' := by
  obtain ⟨w1, hw1⟩ : ∃ w1, w1 = (w.alloc (.cells #[.string a.name, .int .i64 a.kind, .int .i64 a.from_, .int .i64 a.to_] 37)).alloc (.cells #[.string b.name, .int .i64 b.kind, .int .i64 b.from_, .int .i64 b.to_] 37) := ⟨_, rfl⟩
  have g1 : Grown w w1 := by rw [hw1]; exact (Grown.alloc _ _).trans (Grown.alloc _ _)
  have b0 : w1.heap[w.heap.size]? = some (.cells #[.string a.name, .int .i64 a.kind, .int .i64 a.from_, .int .i64 a.to_] 37 (0, 0)) := by rw [hw1]; exact (Kept.alloc noBlock _ _).blk (heap_alloc_new w _) (fun h => h)
  have b1 : w1.heap[w.heap.size + 1]? = some (.cells #[.string b.name, .int .i64 b.kind, .int .i64 b.from_, .int .i64 b.to_] 37 (0, 0)) := by
    rw [hw1]
    have := heap_alloc_new (w.alloc (.cells #[.string a.name, .int .i64 a.kind, .int .i64 a.from_, .int .i64 a.to_] 37)) (.cells #[.string b.name, .int .i64 b.kind, .int .i64 b.from_, .int .i64 b.to_] 37)
    simpa using this
  have CE : Hid (∀ u, Kept noBlock w1 u → (u.cell? ⟨w.heap.size, 2, none⟩ = some (.int .i64 a.from_) ∧ u.cell? ⟨w.heap.size, 3, none⟩ = some (.int .i64 a.to_)) ∧ u.cell? ⟨w.heap.size + 1, 2, none⟩ = some (.int .i64 b.from_) ∧ u.cell? ⟨w.heap.size + 1, 3, none⟩ = some (.int .i64 b.to_)) := fun u k =>
    ⟨(ref_cells (k.blk b0 (fun h => h))).2.2, (ref_cells (k.blk b1 (fun h => h))).2.2⟩
  have G1 := Lib.hid g1
  have GC : Hid (Grown w1 w1.drew) := Grown.drew _
  obtain ⟨x, hx⟩ : ∃ x, x = cmpI a.from_ b.from_ := ⟨_, rfl⟩
  obtain ⟨y, hy⟩ : ∃ y, y = cmpI a.to_ b.to_ := ⟨_, rfl⟩
  have HC : Hid (cmpR a b = if x = 0 then y else x) := by unfold Hid cmpR; rw [hx, hy]
  have X1 := Lib.hid (fun u => ccmp_any a.from_ b.from_ u)
  have X2 := Lib.hid (fun u => ccmp_any a.to_ b.to_ u)
  rw [← hx] at X1
  rw [← hy] at X2
  obtain ⟨z, hz⟩ : ∃ z, z = if x = 0 then y else x := ⟨_, rfl⟩
  rw [← hz] at HC
  have HZ := Lib.hid hz
  rw [HC.out]
  unfold RefV.val
  clear g1 b0 b1 hx hy hz
  go_enter Try.func31, Try.ntmps31
  go_upto_region 1 with (fail)
  rw [← hw1]
  clear hw1
  refine wp_region_noPanic ?_
  refine wp_region_held_drew (S := fun u => (u.cell? ⟨w.heap.size, 2, none⟩ = some (.int .i64 a.from_) ∧ u.cell? ⟨w.heap.size, 3, none⟩ = some (.int .i64 a.to_)) ∧ u.cell? ⟨w.heap.size + 1, 2, none⟩ = some (.int .i64 b.from_) ∧ u.cell? ⟨w.heap.size + 1, 3, none⟩ = some (.int .i64 b.to_)) (by kernel_rfl) (CE.out _ GC.out.kept) (fun hHeld => ?_)
  refine wpAnyH_take (i := 0) (oi := ⟨some 5, Op.fieldAddr 37 (Operand.tmp 2) 2, 0, _, _, none⟩) (v := ?v0n1k1) rfl (by kernel_rfl) (by kernel_rfl) (by kernel_rfl) (fun _ _ _ h => h) (Or.inl ⟨by rfl, ?y0n1k1⟩) hHeld ?z0n1k1
  case y0n1k1 => intro w hSw; (try dsimp only at hSw); go_simp <;> rfl
  try simp only [Act.put, List.setIfInBounds_toArray, List.set_cons_zero, List.set_cons_succ]
  refine wpAnyH_take (i := 1) (oi := ⟨some 6, Op.load 3 (Operand.tmp 5), 3, _, _, none⟩) (v := ?v1n1k2) rfl (by kernel_rfl) (by kernel_rfl) (by kernel_rfl) (fun _ _ _ h => h) (Or.inl ⟨by rfl, ?y1n1k2⟩) hHeld ?z1n1k2
  case y1n1k2 => intro w hSw; (try dsimp only at hSw); go_simp <;> rfl
  try simp only [Act.put, List.setIfInBounds_toArray, List.set_cons_zero, List.set_cons_succ]
  refine wpAnyH_take (i := 2) (oi := ⟨some 7, Op.fieldAddr 37 (Operand.tmp 3) 2, 0, _, _, none⟩) (v := ?v2n1k3) rfl (by kernel_rfl) (by kernel_rfl) (by kernel_rfl) (fun _ _ _ h => h) (Or.inl ⟨by rfl, ?y2n1k3⟩) hHeld ?z2n1k3
  case y2n1k3 => intro w hSw; (try dsimp only at hSw); go_simp <;> rfl
  try simp only [Act.put, List.setIfInBounds_toArray, List.set_cons_zero, List.set_cons_succ]
  refine wpAnyH_take (i := 3) (oi := ⟨some 8, Op.load 3 (Operand.tmp 7), 3, _, _, none⟩) (v := ?v3n1k4) rfl (by kernel_rfl) (by kernel_rfl) (by kernel_rfl) (fun _ _ _ h => h) (Or.inl ⟨by rfl, ?y3n1k4⟩) hHeld ?z3n1k4
  case y3n1k4 => intro w hSw; (try dsimp only at hSw); go_simp <;> rfl
  try simp only [Act.put, List.setIfInBounds_toArray, List.set_cons_zero, List.set_cons_succ]
  refine wpAnyH_take (i := 5) (oi := ⟨some 10, Op.fieldAddr 37 (Operand.tmp 2) 3, 0, _, _, none⟩) (v := ?v5n1k5) rfl (by kernel_rfl) (by kernel_rfl) (by kernel_rfl) (fun _ _ _ h => h) (Or.inl ⟨by rfl, ?y5n1k5⟩) hHeld ?z5n1k5
  case y5n1k5 => intro w hSw; (try dsimp only at hSw); go_simp <;> rfl
  try simp only [Act.put, List.setIfInBounds_toArray, List.set_cons_zero, List.set_cons_succ]
  refine wpAnyH_take (i := 6) (oi := ⟨some 11, Op.load 3 (Operand.tmp 10), 3, _, _, none⟩) (v := ?v6n1k6) rfl (by kernel_rfl) (by kernel_rfl) (by kernel_rfl) (fun _ _ _ h => h) (Or.inl ⟨by rfl, ?y6n1k6⟩) hHeld ?z6n1k6
  case y6n1k6 => intro w hSw; (try dsimp only at hSw); go_simp <;> rfl
  try simp only [Act.put, List.setIfInBounds_toArray, List.set_cons_zero, List.set_cons_succ]
  refine wpAnyH_take (i := 7) (oi := ⟨some 12, Op.fieldAddr 37 (Operand.tmp 3) 3, 0, _, _, none⟩) (v := ?v7n1k7) rfl (by kernel_rfl) (by kernel_rfl) (by kernel_rfl) (fun _ _ _ h => h) (Or.inl ⟨by rfl, ?y7n1k7⟩) hHeld ?z7n1k7
  case y7n1k7 => intro w hSw; (try dsimp only at hSw); go_simp <;> rfl
  try simp only [Act.put, List.setIfInBounds_toArray, List.set_cons_zero, List.set_cons_succ]
  refine wpAnyH_take (i := 8) (oi := ⟨some 13, Op.load 3 (Operand.tmp 12), 3, _, _, none⟩) (v := ?v8n1k8) rfl (by kernel_rfl) (by kernel_rfl) (by kernel_rfl) (fun _ _ _ h => h) (Or.inl ⟨by rfl, ?y8n1k8⟩) hHeld ?z8n1k8
  case y8n1k8 => intro w hSw; (try dsimp only at hSw); go_simp <;> rfl
  try simp only [Act.put, List.setIfInBounds_toArray, List.set_cons_zero, List.set_cons_succ]
  refine wpAnyH_ready (rs := [4]) (by kernel_rfl) (by simp) ?_
  refine AllReadyH.cons (o := ⟨some 9, Op.call { callee := Callee.value (Operand.func 40), args := #[Operand.tmp 6, Operand.tmp 8], argTypes := #[3, 3] }, 3, _, _, none⟩) rfl (fun K hK => ?_) AllReadyH.nil
  go_simp
  refine (X1.out _).mono ?_
  rintro en u4 ⟨rfl, rfl⟩
  refine hK.out _ _ (CE.out _ GC.out.kept) (fun hHeld => ?_)
  clear hK K
  try simp only [Act.put, List.setIfInBounds_toArray, List.set_cons_zero, List.set_cons_succ]
  refine wpAnyH_ready (rs := [9]) (by kernel_rfl) (by simp) ?_
  refine AllReadyH.cons (o := ⟨some 14, Op.call { callee := Callee.value (Operand.func 40), args := #[Operand.tmp 11, Operand.tmp 13], argTypes := #[3, 3] }, 3, _, _, none⟩) rfl (fun K hK => ?_) AllReadyH.nil
  go_simp
  refine (X2.out _).mono ?_
  rintro en u9 ⟨rfl, rfl⟩
  refine hK.out _ _ (CE.out _ GC.out.kept) (fun hHeld => ?_)
  clear hK K
  try simp only [Act.put, List.setIfInBounds_toArray, List.set_cons_zero, List.set_cons_succ]
  refine wpAnyH_ready (rs := [10]) (by kernel_rfl) (by simp) ?_
  refine AllReadyH.cons (o := ⟨some 15, Op.buildSlice 70 2 #[(0, Operand.tmp 9), (1, Operand.tmp 14)], 70, _, _, none⟩) rfl (fun K hK => ?_) AllReadyH.nil
  refine step_twoI rfl (.tmp 9) (.tmp 14) rfl x y rfl rfl ?_
  intro B u g hb
  have HB := Lib.hid hb
  replace GC := Lib.hid (GC.out.trans g)
  clear g hb
  refine hK.out _ _ (CE.out _ GC.out.kept) (fun hHeld => ?_)
  clear hK K
  try simp only [Act.put, List.setIfInBounds_toArray, List.set_cons_zero, List.set_cons_succ]
  refine wpAnyH_ready (rs := [11]) (by kernel_rfl) (by simp) ?_
  refine AllReadyH.cons (o := ⟨some 16, Op.call { callee := Callee.value (Operand.func 39), args := #[Operand.tmp 15], argTypes := #[70] }, 3, _, _, none⟩) rfl (fun K hK => ?_) AllReadyH.nil
  have XO := Lib.hid (cor_any x y B 2 u (pair_cells HB.out).1 (pair_cells HB.out).2)
  rw [← HZ.out] at XO
  go_simp
  refine XO.out.mono ?_
  rintro en u2 ⟨rfl, rfl⟩
  refine hK.out _ _ (CE.out _ GC.out.kept) (fun hHeld => ?_)
  clear hK K
  try simp only [Act.put, List.setIfInBounds_toArray, List.set_cons_zero, List.set_cons_succ]
  refine wpAnyH_take (i := 12) (oi := ⟨some 4, Op.assign (Operand.tmp 16), 3, _, _, none⟩) (v := ?v12n1k9) rfl (by kernel_rfl) (by kernel_rfl) (by kernel_rfl) (fun _ _ _ h => h) (Or.inl ⟨by rfl, ?y12n1k9⟩) hHeld ?z12n1k9
  case y12n1k9 => intro w hSw; (try dsimp only at hSw); go_simp <;> rfl
  try simp only [Act.put, List.setIfInBounds_toArray, List.set_cons_zero, List.set_cons_succ]
  refine wpAnyH_done (by kernel_rfl) ?_ _
  refine NoPanic.normal ?_
  clear hHeld
  go_wp2
  go_ret
  exact ⟨rfl, G1.out.trans GC.out⟩
end Go.Proofs.Ytollmkkbeeeccaa
