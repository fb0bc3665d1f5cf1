/-
  The document's examples, as the statements of layer 7 ask them first. No statement is proved here.
-/
import Derived.Test.YtgmjnjbmolalmaaBox9
namespace Go.Proofs.Ytgmjnjbmolalmaa
open Go.RowKit Tot

/-- Two replies compared part by part. -/
def RepV.same (c d : RepV) : Bool := c.err == d.err && c.value.toList == d.value.toList
theorem RepV.same_iff (c d : RepV) : c.same d = true ↔ c = d := by
  obtain ⟨a1, a2⟩ := c
  obtain ⟨b1, b2⟩ := d
  simp only [RepV.same, Bool.and_eq_true, toList_inj, RepV.mk.injEq, beq_iff_eq]
theorem RepV.same_self (c : RepV) : c.same c = true := (RepV.same_iff c c).2 rfl
theorem RepV.same_ne {c d : RepV} (h : c ≠ d) : c.same d = false := by
  cases h1 : c.same d
  · rfl
  · exact absurd ((RepV.same_iff c d).1 h1) h
set_option maxRecDepth 100000 in
theorem rep_equalIn (k : Nat) (w : World) (c d : RepV) : (Op.equalIn (k + 1 + 1) 44 c.val d.val).run Try.prog w = .ok (c.same d) w := by
  have u3 := Try.underlying42
  have a3 := Try.isAgg42
  have z3 := Try.sizeOf42
  have u5 := Try.underlying9
  have a5 := Try.isAgg9
  have z5 := Try.sizeOf9
  have hS : Try.prog.underlying 44 = some (.struct (Try.prog.fieldsOf 44)) := by kernel_rfl
  have hp : Try.prog.stoodInHeld 44 = false := by kernel_rfl
  unfold RepV.val
  rw [run_equalIn_agg w (k + 1) 44 _ _ hS hp]
  simp only [Program.fieldsOf, Try.underlying44]
  go_simp
  unfold RepV.same
  repeat' split
  all_goals simp_all
theorem rep_eql (w : World) (c d : RepV) : (binOp .eql 44 c.val d.val).run Try.prog w = .ok (.bool (c.same d)) w := by
  have h := rep_equalIn 9998 w c d
  unfold RepV.val at h ⊢
  rw [run_eql_struct, show (10000 : Nat) = 9998 + 1 + 1 from rfl, h]
  rfl
theorem rep_neq (w : World) (c d : RepV) : (binOp .neq 44 c.val d.val).run Try.prog w = .ok (.bool (!c.same d)) w := by
  have h := rep_equalIn 9998 w c d
  unfold RepV.val at h ⊢
  rw [run_neq_struct, show (10000 : Nat) = 9998 + 1 + 1 from rfl, h]
  rfl

theorem fld_value (w : World) (a : Value) (b : ByteArray) : (Instr.field 44 (.agg #[a, .string b]) 1).run Try.prog w = .ok (.string b) w := by
  have a5 := Try.isAgg9
  have z5 := Try.sizeOf9
  unfold Instr.field
  simp [run_underlying Try.underlying44, go_sem, asAgg]
theorem fld_err (w : World) (a : Int) (b : Value) : (Instr.field 44 (.agg #[.int .i64 a, b]) 0).run Try.prog w = .ok (.int .i64 a) w := by
  have a5 := Try.isAgg42
  have z5 := Try.sizeOf42
  unfold Instr.field
  simp [run_underlying Try.underlying44, go_sem, asAgg]
def tK : ByteArray := ⟨#[107]⟩
def tV : ByteArray := ⟨#[118]⟩
def aw1 : StV := ⟨1, 0, [(tK, (tV, false))], [(0, (1, told 0))]⟩
def aw2 : StV := ⟨2, 0, [(tK, (tV, false))], [(0, (1, told 0))]⟩
def aw3 : StV := ⟨3, 0, [], [(0, (2, ⟨0, tV⟩))]⟩
theorem awk1 : stepV noState ⟨1, 0, ⟨1, 0, 1, tK, tV, noText⟩⟩ = (aw1, told 0) := by rfl
theorem awk2 : stepV aw1 ⟨2, 0, ⟨2, 0, 1, tK, noText, noText⟩⟩ = (aw2, told 0) := by rfl
theorem awk3 : stepV aw2 ⟨3, 0, ⟨2, 0, 2, tK, noText, noText⟩⟩ = (aw3, ⟨0, tV⟩) := by
  have hp : Srt.pos aw2.pairs tK = 0 := by unfold aw2; rw [Srt.pos_cons, if_neg (by rw [Tot.irr]; simp)]
  have hd : Srt.del aw2.pairs tK = [] := by unfold Srt.del; rw [hp]; rfl
  have h : doV aw2.pairs ⟨2, 0, 2, tK, noText, noText⟩ = (Srt.del aw2.pairs tK, ⟨0, tV⟩) := rfl
  have h2 : stepV aw2 ⟨3, 0, ⟨2, 0, 2, tK, noText, noText⟩⟩ = (⟨3, 0, (doV aw2.pairs ⟨2, 0, 2, tK, noText, noText⟩).1, Srt.put aw2.sess 0 (2, (doV aw2.pairs ⟨2, 0, 2, tK, noText, noText⟩).2)⟩, (doV aw2.pairs ⟨2, 0, 2, tK, noText, noText⟩).2) := rfl
  rw [h2, h, hd]
  rfl
theorem awk4 : getV aw2.pairs tK = ⟨0, tV⟩ := by rfl
theorem aw1_right : aw1.Right := by have := stepV_right noState_right ⟨1, 0, ⟨1, 0, 1, tK, tV, noText⟩⟩; rw [awk1] at this; exact this
theorem aw2_right : aw2.Right := by have := stepV_right aw1_right ⟨2, 0, ⟨2, 0, 1, tK, noText, noText⟩⟩; rw [awk2] at this; exact this
theorem Sv.none (w : World) (F : Nat → Prop) : Sv w F noState none 0 none 0 := ⟨Lies.nil _ _ _, Lies.nil _ _ _, Nat.le_refl _, Nat.le_refl _⟩

/-- A state and what is told, each in a new block. -/
theorem two_new (w : World) (x0 x1 x2 x3 y0 y1 : Value) : Kept noBlock w ((w.alloc (.cells #[x0, x1, x2, x3] 33)).alloc (.cells #[y0, y1] 44)) ∧ ((w.alloc (.cells #[x0, x1, x2, x3] 33)).alloc (.cells #[y0, y1] 44)).heap[w.heap.size]? = some (.cells #[x0, x1, x2, x3] 33 (0, 0)) ∧
    ((w.alloc (.cells #[x0, x1, x2, x3] 33)).alloc (.cells #[y0, y1] 44)).heap[w.heap.size + 1]? = some (.cells #[y0, y1] 44 (0, 0)) :=
  ⟨(Kept.alloc _ _ _).step (Kept.alloc _ _ _), (Kept.alloc noBlock _ _).blk (heap_alloc_new w _) (fun h => h), heap_alloc_at (by simp)⟩
theorem re_cells {w : World} {R : Nat} {x0 x1 : Value} {t : TypeId} {fr : Nat × Nat} (h : w.heap[R]? = some (.cells #[x0, x1] t fr)) : w.cell? ⟨R, 0, none⟩ = some x0 ∧ w.cell? ⟨R, 1, none⟩ = some x1 :=
  ⟨cell_of_row _ _ _ _ _ _ h, cell_of_row _ _ _ _ _ _ h⟩

set_option maxRecDepth 100000 in
set_option maxHeartbeats 1000000 in
theorem awake_any (w : World) : Calls Try.prog 11 #[] w (Says w true) := by
  have AP1 : Hid (Calls Try.prog 13 #[.agg #[.int .i64 0, .int .i64 0, .slice none 0 0, .slice none 0 0], .agg #[.int .i64 1, .int .i64 0, .int .i64 1, .int .i64 0, .int .i64 1, .string ⟨#[107]⟩, .string ⟨#[118]⟩, .string ⟨#[]⟩]] w fun en w' => ∃ A c B d, en = .returned (.tuple #[.agg #[.int .i64 1, .int .i64 0, .slice A 1 c, .slice B 1 d], .agg #[.int .i64 0, .string ⟨#[]⟩]]) ∧ Sv w' (fresh w w') aw1 A c B d ∧ Kept noBlock w w') := by
    have h := apply_any _ noState none 0 none 0 ⟨1, 0, ⟨1, 0, 1, tK, tV, noText⟩⟩ w (Sv.none w (fun _ => True)) noState_right
    rw [awk1] at h
    exact h
  have AP2 : Hid (∀ u F A c B d, Sv u F aw1 A c B d → Calls Try.prog 13 #[.agg #[.int .i64 1, .int .i64 0, .slice A 1 c, .slice B 1 d], .agg #[.int .i64 2, .int .i64 0, .int .i64 2, .int .i64 0, .int .i64 1, .string ⟨#[107]⟩, .string ⟨#[]⟩, .string ⟨#[]⟩]] u fun en w' => ∃ A c B d, en = .returned (.tuple #[.agg #[.int .i64 2, .int .i64 0, .slice A 1 c, .slice B 1 d], .agg #[.int .i64 0, .string ⟨#[]⟩]]) ∧ Sv w' (fresh u w') aw2 A c B d ∧ Kept noBlock u w') := fun u F A c B d hsv => by
    have h := apply_any F aw1 A c B d ⟨2, 0, ⟨2, 0, 1, tK, noText, noText⟩⟩ u hsv aw1_right
    rw [awk2] at h
    exact h
  have AP3 : Hid (∀ u F A c B d, Sv u F aw2 A c B d → Calls Try.prog 13 #[.agg #[.int .i64 2, .int .i64 0, .slice A 1 c, .slice B 1 d], .agg #[.int .i64 3, .int .i64 0, .int .i64 2, .int .i64 0, .int .i64 2, .string ⟨#[107]⟩, .string ⟨#[]⟩, .string ⟨#[]⟩]] u fun en w' => ∃ A c B d, en = .returned (.tuple #[.agg #[.int .i64 3, .int .i64 0, .slice A 0 c, .slice B 1 d], .agg #[.int .i64 0, .string ⟨#[118]⟩]]) ∧ Sv w' (fresh u w') aw3 A c B d ∧ Kept noBlock u w') := fun u F A c B d hsv => by
    have h := apply_any F aw2 A c B d ⟨3, 0, ⟨2, 0, 2, tK, noText, noText⟩⟩ u hsv aw2_right
    rw [awk3] at h
    exact h
  have GET : Hid (∀ u F A c B d, Sv u F aw2 A c B d → Calls Try.prog 17 #[.agg #[.int .i64 2, .int .i64 0, .slice A 1 c, .slice B 1 d], .string ⟨#[107]⟩] u fun en w' => en = .returned (.agg #[.int .i64 0, .string ⟨#[118]⟩]) ∧ Kept noBlock u w') := fun u F A c B d hsv => by
    have h := get_any F aw2 A c B d tK u hsv aw2_right
    rw [awk4] at h
    exact h
  have EQ : ∀ w, (binOp .eql 44 (.agg #[.int .i64 0, .string ⟨#[]⟩]) (.agg #[.int .i64 0, .string ⟨#[]⟩])).run Try.prog w = .ok (.bool true) w := fun w => by
    have h := rep_eql w (told 0) (told 0)
    rw [RepV.same_self] at h
    exact h
  go_enter Try.func11, Try.ntmps11
  go_wp2_with fail
  refine AP1.out.mono ?_
  rintro en w1 ⟨A1, c1, B1, d1, rfl, sv1, k1⟩
  obtain ⟨ka, ha, hr⟩ := two_new w1 (.int .i64 1) (.int .i64 0) (.slice A1 1 c1) (.slice B1 1 d1) (.int .i64 0) (.string ⟨#[]⟩)
  go_upto_region 2 with (fail)
  generalize (w1.alloc (.cells #[.int .i64 1, .int .i64 0, .slice A1 1 c1, .slice B1 1 d1] 33)).alloc (.cells #[.int .i64 0, .string ⟨#[]⟩] 44) = u1 at ka ha hr ⊢
  have HA1 := Lib.hid ha
  have HR1 := Lib.hid hr
  have SV1 := Lib.hid (sv1.kept ka)
  have K1 := Lib.hid (k1.step ka)
  clear ka ha hr sv1 k1
  obtain ⟨a0, a1, a2, a3⟩ := st_cells HA1.out
  go_wp2_with fail
  refine (AP2.out u1 _ _ _ _ _ SV1.out).mono ?_
  rintro en w2 ⟨A2, c2, B2, d2, rfl, sv2, k2⟩
  clear a0 a1 a2 a3 AP1 AP2
  obtain ⟨ka, ha, hr⟩ := two_new w2 (.int .i64 2) (.int .i64 0) (.slice A2 1 c2) (.slice B2 1 d2) (.int .i64 0) (.string ⟨#[]⟩)
  go_upto_region 3 with (fail)
  generalize (w2.alloc (.cells #[.int .i64 2, .int .i64 0, .slice A2 1 c2, .slice B2 1 d2] 33)).alloc (.cells #[.int .i64 0, .string ⟨#[]⟩] 44) = u2 at ka ha hr ⊢
  have HA2 := Lib.hid ha
  have HR2 := Lib.hid hr
  have SV2 := Lib.hid (sv2.kept ka)
  have K2 := Lib.hid (K1.out.step (k2.step ka))
  replace HR1 := Lib.hid ((k2.step ka).blk HR1.out (fun h => h))
  clear ka ha hr sv2 k2
  obtain ⟨a0, a1, a2, a3⟩ := st_cells HA2.out
  go_wp2_with fail
  refine (AP3.out u2 _ _ _ _ _ SV2.out).mono ?_
  rintro en w3 ⟨A3, c3, B3, d3, rfl, sv3, k3⟩
  clear a0 a1 a2 a3 AP3
  have SV23 := Lib.hid (SV2.out.kept k3)
  obtain ⟨ka, ha, hr⟩ := two_new w3 (.int .i64 3) (.int .i64 0) (.slice A3 0 c3) (.slice B3 1 d3) (.int .i64 0) (.string ⟨#[118]⟩)
  go_upto_region 4 with (fail)
  generalize (w3.alloc (.cells #[.int .i64 3, .int .i64 0, .slice A3 0 c3, .slice B3 1 d3] 33)).alloc (.cells #[.int .i64 0, .string ⟨#[118]⟩] 44) = u3 at ka ha hr ⊢
  have HA3 := Lib.hid ha
  have HR3 := Lib.hid hr
  have SV3 := Lib.hid (sv3.kept ka)
  have K3 := Lib.hid (K2.out.step (k3.step ka))
  replace HR1 := Lib.hid ((k3.step ka).blk HR1.out (fun h => h))
  replace HA2 := Lib.hid ((k3.step ka).blk HA2.out (fun h => h))
  replace HR2 := Lib.hid ((k3.step ka).blk HR2.out (fun h => h))
  have SV24 := Lib.hid (SV23.out.kept ka)
  clear ka ha hr sv3 k3
  obtain ⟨a0, a1, a2, a3⟩ := st_cells HA2.out
  obtain ⟨b0, b1, b2, b3⟩ := st_cells HA3.out
  obtain ⟨r0, r1⟩ := re_cells HR1.out
  obtain ⟨q0, q1⟩ := re_cells HR2.out
  obtain ⟨p0, p1⟩ := re_cells HR3.out
  go_wp2_with fail
  refine (GET.out u3 _ _ _ _ _ SV24.out).mono ?_
  rintro en w4 ⟨rfl, k4⟩
  clear GET
  have FV := fun w => fld_value w (.int .i64 0) ⟨#[118]⟩
  go_wp2
  go_ret
  exact ⟨rfl, K3.out.step k4⟩
end Go.Proofs.Ytgmjnjbmolalmaa
