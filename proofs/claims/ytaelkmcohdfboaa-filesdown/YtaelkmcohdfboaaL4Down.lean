/-
  FilesDown: what it does with whatever deeds. No statement is proved here.
-/
import Derived.Test.YtaelkmcohdfboaaL4Do
namespace Go.Proofs.Ytaelkmcohdfboaa
open Go.RowKit Go.Maps

/-- What a counted call tells, and does. -/
def Tells (S : St) (v : Nat) (r : Nat × St) : Prop :=
  r.2.vol ≤ S.vol + v ∧ ((r.1 = 0 ∧ r.2.calls = S.calls + 1) ∨ (r.1 = 7 ∧ r.2.calls = S.calls + 1 ∧ r.2.down = true) ∨ (r.1 ≠ 0 ∧ r.1 ≠ 7 ∧ r.2 = S))
theorem tells_count (S : St) (v : Nat) : Tells S v S.count := by
  refine ⟨by rw [S.count_vol]; omega, ?_⟩
  unfold St.count
  split
  · exact .inl ⟨rfl, rfl⟩
  · split
    · exact .inl ⟨rfl, rfl⟩
    · exact .inr (.inl ⟨rfl, rfl, rfl⟩)
theorem tells_same (S : St) (v e : Nat) (h0 : e ≠ 0) (h7 : e ≠ 7) : Tells S v (e, S) := ⟨Nat.le_add_right _ _, .inr (.inr ⟨h0, h7, rfl⟩)⟩
theorem tells_step (S : St) (v : Nat) (x : Chg) : Tells S v (S.step x) := by
  unfold St.step
  split
  · exact ⟨by show S.count.2.vol ≤ _; rw [S.count_vol]; omega, .inl ⟨rfl, S.count_calls⟩⟩
  · exact tells_count S v
theorem tells_on (S : St) (v : Nat) (hd : S.down = false) (s : List UInt8) (k : Nat → Nat × St) (h : ∀ f, Tells S v (k f)) : Tells S v (S.on s k) := by
  unfold St.on
  rw [if_neg (by rw [hd]; simp)]
  split
  · exact tells_same S v 6 (by decide) (by decide)
  · exact h _
theorem tells_do (S : St) (hd : S.down = false) (x : ActV) (f : Nat) (b : List UInt8) : Tells S b.length (S.do_ x f b) := by
  have hcr : ∀ s, Tells S b.length (S.create s f) := fun s => by
    unfold St.create
    rw [if_neg (by rw [hd]; simp)]
    split
    · exact tells_same S _ 5 (by decide) (by decide)
    · split
      · exact tells_same S _ 4 (by decide) (by decide)
      · exact tells_step (S.setFl f ⟨[], 0⟩) b.length _ |> fun t => ⟨t.1, by
          rcases t.2 with h | h | h
          · exact .inl h
          · exact .inr (.inl h)
          · exfalso
            have h2 := h
            unfold St.step at h2
            split at h2
            · exact h2.1 rfl
            · rename_i he
              rcases (S.setFl f ⟨[], 0⟩).count_err with h3 | h3
              · exact he h3
              · exact h2.2.1 h3⟩
  have hap : Tells S b.length (S.append (nm x.name) b) := by
    refine tells_on S _ hd _ _ fun g => ?_
    unfold St.appendAt
    split
    · exact tells_same S _ 4 (by decide) (by decide)
    · have t := tells_count (S.app g b) 0
      refine ⟨by rw [(S.app g b).count_vol]; show S.vol + b.length ≤ _; omega, ?_⟩
      rcases t.2 with h | h | h
      · exact .inl h
      · exact .inr (.inl h)
      · exfalso
        rcases (S.app g b).count_err with h3 | h3
        · exact h.1 h3
        · exact h.2.1 h3
  have hset : ∀ (g : Nat) (l : Fl), Tells S b.length (if S.count.1 = 0 then (0, S.count.2.setFl g l) else S.count) := fun g l => by
    split
    · exact ⟨by show S.count.2.vol ≤ _; rw [S.count_vol]; omega, .inl ⟨rfl, S.count_calls⟩⟩
    · exact tells_count S _
  unfold St.do_
  split
  · exact hcr _
  · exact hcr _
  · refine tells_on S _ hd _ _ fun g => ?_
    unfold St.cutAt
    split
    · exact tells_same S _ 14 (by decide) (by decide)
    · exact hset _ _
  · exact tells_on S _ hd _ _ fun g => hset _ _
  · unfold St.syncDir
    rw [if_neg (by rw [hd]; simp)]
    split
    · exact ⟨by show S.count.2.vol ≤ _; rw [S.count_vol]; omega, .inl ⟨rfl, S.count_calls⟩⟩
    · exact tells_count S _
  · refine tells_on S _ hd _ _ fun g => ?_
    split
    · exact tells_same S _ 14 (by decide) (by decide)
    · exact tells_step S _ _
  · exact tells_on S _ hd _ _ fun g => hset _ _
  · exact tells_on S _ hd _ _ fun g => tells_step S _ _
  · exact tells_on S _ hd _ _ fun g => tells_step S _ _
  · exact hap
theorem do_down (S : St) (hd : S.down = true) (x : ActV) (f : Nat) (b : List UInt8) : S.do_ x f b = (7, S) := by
  have hon : ∀ s k, S.on s k = (7, S) := fun s k => by unfold St.on; rw [if_pos hd]
  unfold St.do_
  split
  · unfold St.create; rw [if_pos hd]
  · unfold St.create; rw [if_pos hd]
  · exact hon _ _
  · exact hon _ _
  · unfold St.syncDir; rw [if_pos hd]
  · exact hon _ _
  · exact hon _ _
  · exact hon _ _
  · exact hon _ _
  · exact hon _ _
theorem create_calm (S : St) (s : List UInt8) (f : Nat) (hd : S.down = false) (ha : S.armed = false) : (S.create s f).1 ≠ 7 := by
  unfold St.create
  rw [if_neg (by rw [hd]; simp)]
  split
  · show (5 : Nat) ≠ 7
    decide
  · split
    · show (4 : Nat) ≠ 7
      decide
    · have hc : (S.setFl f ⟨[], 0⟩).count.1 = 0 := by unfold St.count; rw [if_pos (by exact ha)]
      unfold St.step
      rw [if_pos hc]
      show (0 : Nat) ≠ 7
      decide

def actCells (xs : List ActV) : List Value := xs.flatMap ActV.cells
theorem actCells_len (xs : List ActV) : (actCells xs).length = xs.length * 5 := by
  induction xs with
  | nil => rfl
  | cons c r ih =>
    unfold actCells at *
    simp only [List.flatMap_cons, List.length_append, ih, List.length_cons]
    simp [ActV.cells]
    omega
theorem actCells_at (xs : List ActV) {k : Nat} {c : ActV} (h : xs[k]? = some c) (j : Nat) (hj : j < 5) : (actCells xs)[5 * k + j]? = c.cells[j]? := by
  induction xs generalizing k with
  | nil => simp at h
  | cons x r ih =>
    cases k with
    | zero =>
      have : x = c := by simpa using h
      subst this
      unfold actCells
      simp only [List.flatMap_cons]
      rw [List.getElem?_append_left (by simp [ActV.cells]; omega)]
      simp
    | succ k =>
      have h' : r[k]? = some c := by simpa using h
      have := ih h'
      unfold actCells at *
      simp only [List.flatMap_cons]
      rw [List.getElem?_append_right (by simp [ActV.cells]; omega)]
      rw [← this]
      congr 1
      simp [ActV.cells]
      omega
/-- A deed's bytes lie in blocks of F. -/
structure ActV.lies (F : Nat → Prop) (w : World) (x : ActV) : Prop where
  cells : Lies w F x.A (x.row.map bv)
  cap : x.row.length ≤ x.c
  lo : -32768 ≤ x.num
  hi : x.num ≤ 32767
  big : x.row.length ≤ 9223372036854775807

set_option maxRecDepth 100000 in
set_option maxHeartbeats 4000000 in
theorem down_walk (F : Nat → Prop) (a : Option Addr) (n c : Nat) (xs : List ActV) (y : UInt8) (w : World) (h : Lies w F a (actCells xs)) (hx : ∀ x ∈ xs, x.lies F w) (hl : xs.length = n) (hc : n ≤ c) :
    Calls Try.prog 9 #[.slice a n c, .int .u8 (y.toNat : Int)] w fun e w' => e = .returned (.bool true) ∧ Kept noBlock w w' := by
  obtain ⟨m, hme⟩ : ∃ m, m = min n 60 := ⟨_, rfl⟩
  have q1 : (if (60 : Int) < (n : Int) then (60 : Int) else (n : Int)) = (m : Int) := by split <;> omega
  have i1 : (m : Int) ≤ c := by omega
  have hmn : m ≤ n := by omega
  have hm60 : m ≤ 60 := by omega
  have hy := y.toNat_lt
  obtain ⟨r, hr⟩ : ∃ r, r = y.toNat % 12 := ⟨_, rfl⟩
  have hri : (y.toNat : Int) % 12 = (r : Int) := by omega
  have hr12 : r < 12 := by omega
  have hwr : IntKind.i64.wrap (r : Int) = (r : Int) := wrap_small (by omega) (by omega)
  clear hr
  have HX := Lib.hid hx; clear hx
  have HL := Lib.hid hl; clear hl
  have H := Lib.hid h; clear h
  clear hme
  go_enter Try.func9, Try.ntmps9
  go_wp2_with fail
  refine (awake_any w).mono ?_
  rintro e w1 ⟨rfl, k1⟩
  have K1 := Lib.hid k1; clear k1
  go_wp2_with fail
  refine (has_of 400 w1 (by omega)).mono ?_
  rintro e w2 ⟨d, rfl, h2⟩
  have H2 := Lib.hid h2; clear h2
  go_wp2_with fail
  refine (H2.out.arm (r : Int) (by omega) (by omega)).mono ?_
  rintro e w3 ⟨rfl, h3⟩
  have H3 := Lib.hid h3; clear h3
  go_wp2
  go_loopw [26] (fun v wr => ∃ (k : Nat) (S : St), k ≤ m ∧ v = .int .i64 (k : Int) ∧ Hid (S.calls ≤ k ∧ S.vol ≤ 40 * k) ∧ Hid (Has w1 wr d S)) (fun v _ => m - (intOf v).toNat)
  case atStart => exact ⟨0, _, by omega, rfl, Lib.hid ⟨Nat.le_refl _, Nat.le_refl _⟩, H3⟩
  case round =>
    obtain ⟨k, S, hk, rfl, HB, HH⟩ := hrel
    by_cases hlt : k < m
    · obtain ⟨x, hxk⟩ : ∃ x, xs[k]? = some x := ⟨xs[k]'(by rw [HL.out]; omega), List.getElem?_eq_getElem _⟩
      have hmem := List.mem_of_getElem? hxk
      have kw : Kept noBlock w wr := K1.out.step HH.out.kept
      obtain ⟨g, o, hae, _, hcell⟩ := H.out.norm (by intro e; have := actCells_len xs; rw [e, HL.out] at this; simp at this; omega)
      subst hae
      have hc : ∀ j, j < 5 → ∀ u, x.cells[j]? = some u → wr.cell? ⟨g, o + (5 * k + j), none⟩ = some u := fun j hj u hu => kw.cell (hcell (5 * k + j) u (by rw [actCells_at xs hxk j hj]; exact hu)) (fun h => h)
      obtain ⟨hxl, hxc, hx1, hx2, hxb⟩ := HX.out x hmem
      have hLr := hxl.keep kw (fun _ _ h => h)
      obtain ⟨X, hX⟩ : ∃ X, X = x := ⟨_, rfl⟩
      obtain ⟨op, na, to_, xA, xc, row, num⟩ := x
      simp only at hxl hxc hx1 hx2 hxb hLr
      obtain ⟨L, hL⟩ : ∃ L, L = row.length := ⟨_, rfl⟩
      have c0 : wr.cell? ⟨g, o + k * 5, none⟩ = some (.int .u8 (op.toNat : Int)) := by have := hc 0 (by omega) _ rfl; rw [Nat.mul_comm] at this; exact this
      have c1 : wr.cell? ⟨g, o + k * 5 + 1, none⟩ = some (.int .u8 (na.toNat : Int)) := by have := hc 1 (by omega) _ rfl; rw [Nat.mul_comm] at this; exact this
      have c2 : wr.cell? ⟨g, o + k * 5 + 2, none⟩ = some (.int .u8 (to_.toNat : Int)) := by have := hc 2 (by omega) _ rfl; rw [Nat.mul_comm] at this; exact this
      have c3 : wr.cell? ⟨g, o + k * 5 + 3, none⟩ = some (.slice xA L xc) := by have := hc 3 (by omega) (.slice xA row.length xc) rfl; rw [Nat.mul_comm] at this; rw [hL]; exact this
      have c4 : wr.cell? ⟨g, o + k * 5 + 4, none⟩ = some (.int .i16 num) := by have := hc 4 (by omega) _ rfl; rw [Nat.mul_comm] at this; exact this
      obtain ⟨p, hp⟩ : ∃ p, p = min L 40 := ⟨_, rfl⟩
      have q2 : (if (40 : Int) < (L : Int) then (40 : Int) else (L : Int)) = (p : Int) := by split <;> omega
      have i2 : (p : Int) ≤ xc := by omega
      have hp40 : p ≤ 40 := by omega
      obtain ⟨b, hb⟩ : ∃ b, b = row.take p := ⟨_, rfl⟩
      have hbl : b.length = p := by rw [hb, List.length_take]; omega
      have hLb : Lies wr F xA (b.map bv) := by rw [hb, List.map_take]; exact hLr.take p
      have HLb := Lib.hid hLb
      have HBL := Lib.hid hbl
      have HXe := Lib.hid hX
      have HLe := Lib.hid hL
      clear hc hcell hxl hxc hxb hLr hb hbl hLb hp hX hL hmem hxk kw
      go_wp2_with fail
      obtain ⟨FD, hd, hFD, kd⟩ := HH.out
      have ka := Kept.alloc noBlock wr (.cells #[.int .u8 (op.toNat : Int), .int .u8 (na.toNat : Int), .int .u8 (to_.toNat : Int), .slice xA L xc, .int .i16 num] 35)
      have hBk := heap_alloc_new wr (.cells #[.int .u8 (op.toNat : Int), .int .u8 (na.toNat : Int), .int .u8 (to_.toNat : Int), .slice xA L xc, .int .i16 num] 35)
      generalize wr.alloc (.cells #[.int .u8 (op.toNat : Int), .int .u8 (na.toNat : Int), .int .u8 (to_.toNat : Int), .slice xA L xc, .int .i16 num] 35) = wa at ka hBk ⊢
      have hda := hd.keep ka (fun _ _ h => h)
      have HA := Lib.hid (HH.out.then_ ka)
      refine HA.out.down.mono ?_
      rintro e w6 ⟨rfl, rfl⟩
      go_wp2_with fail
      refine HA.out.calls.mono ?_
      rintro e w6 ⟨rfl, rfl⟩
      go_wp2_with fail
      refine HA.out.used.mono ?_
      rintro e wb ⟨rfl, kb⟩
      have kab := (ka.step kb).step (Kept.drew noBlock wb)
      have hB9 := (Kept.drew noBlock wb).blk (kb.blk hBk (fun h => h)) (fun h => h)
      have hd9 := hd.keep kab (fun _ _ h => h)
      have hdo := do_any FD F d S ⟨op, na, to_, xA, xc, row, num⟩ xA p xc b wb.drew hd9 (by have := HB.out; omega) (HLb.out.keep kab (fun _ _ h => h)) HBL.out (by have := HB.out; omega) hx1 hx2
      unfold ActV.val at hdo
      simp only at hdo
      rw [← HLe.out] at hdo
      have hnB : ¬ FD wr.heap.size := fun h9 => by have := hd.lt _ h9; omega
      have HB9 := Lib.hid hB9
      have HNB := Lib.hid hnB
      have s0 : wb.drew.cell? ⟨wr.heap.size, 0, none⟩ = some (.int .u8 (op.toNat : Int)) := cell_of_row _ _ _ _ _ _ hB9
      have s1 : wb.drew.cell? ⟨wr.heap.size, 1, none⟩ = some (.int .u8 (na.toNat : Int)) := cell_of_row _ _ _ _ _ _ hB9
      have s2 : wb.drew.cell? ⟨wr.heap.size, 2, none⟩ = some (.int .u8 (to_.toNat : Int)) := cell_of_row _ _ _ _ _ _ hB9
      have s3 : wb.drew.cell? ⟨wr.heap.size, 3, none⟩ = some (.slice xA L xc) := cell_of_row _ _ _ _ _ _ hB9
      have s4 : wb.drew.cell? ⟨wr.heap.size, 4, none⟩ = some (.int .i16 num) := cell_of_row _ _ _ _ _ _ hB9
      have KD := Lib.hid (kd.step kab)
      have HFD := Lib.hid hFD
      clear hB9 hnB hd9 hda hd kab kb ka hBk kd hFD c0 c1 c2 c3 c4
      go_upto_region 9 with (fail)
      refine wp_region_noPanic ?_
      refine wp_region_held_drew (S := fun w' => w'.cell? ⟨wr.heap.size, 0, none⟩ = some (.int .u8 (op.toNat : Int)) ∧ w'.cell? ⟨wr.heap.size, 1, none⟩ = some (.int .u8 (na.toNat : Int)) ∧ w'.cell? ⟨wr.heap.size, 2, none⟩ = some (.int .u8 (to_.toNat : Int)) ∧ w'.cell? ⟨wr.heap.size, 3, none⟩ = some (.slice xA L xc) ∧ w'.cell? ⟨wr.heap.size, 4, none⟩ = some (.int .i16 num)) (by kernel_rfl) ⟨s0, s1, s2, s3, s4⟩ (fun hHeld => ?_)
      refine wpAnyH_take (i := 0) (oi := ⟨some 36, Op.move (Operand.tmp 5), 24, _, _, none⟩) (v := ?v0n5k1) rfl (by kernel_rfl) (by kernel_rfl) (by kernel_rfl) (fun _ _ _ h => h) (Or.inl ⟨by rfl, ?y0n5k1⟩) hHeld ?z0n5k1
      case y0n5k1 => intro w hSw; (try dsimp only at hSw); go_simp <;> rfl
      try simp only [Act.put, List.setIfInBounds_toArray, List.set_cons_zero, List.set_cons_succ]
      refine wpAnyH_take (i := 1) (oi := ⟨some 37, Op.load 35 (Operand.tmp 7), 35, _, _, none⟩) (v := ?v1n5k2) rfl (by kernel_rfl) (by kernel_rfl) (by kernel_rfl) (fun _ _ _ h => h) (Or.inl ⟨by rfl, ?y1n5k2⟩) hHeld ?z1n5k2
      case y1n5k2 => intro w hSw; (try dsimp only at hSw); go_simp <;> rfl
      try simp only [Act.put, List.setIfInBounds_toArray, List.set_cons_zero, List.set_cons_succ]
      refine wpAnyH_take (i := 2) (oi := ⟨some 38, Op.fieldAddr 35 (Operand.tmp 7) 3, 0, _, _, none⟩) (v := ?v2n5k3) rfl (by kernel_rfl) (by kernel_rfl) (by kernel_rfl) (fun _ _ _ h => h) (Or.inl ⟨by rfl, ?y2n5k3⟩) hHeld ?z2n5k3
      case y2n5k3 => intro w hSw; (try dsimp only at hSw); go_simp <;> rfl
      try simp only [Act.put, List.setIfInBounds_toArray, List.set_cons_zero, List.set_cons_succ]
      refine wpAnyH_take (i := 3) (oi := ⟨some 39, Op.load 32 (Operand.tmp 38), 32, _, _, none⟩) (v := ?v3n5k4) rfl (by kernel_rfl) (by kernel_rfl) (by kernel_rfl) (fun _ _ _ h => h) (Or.inl ⟨by rfl, ?y3n5k4⟩) hHeld ?z3n5k4
      case y3n5k4 => intro w hSw; (try dsimp only at hSw); go_simp <;> rfl
      try simp only [Act.put, List.setIfInBounds_toArray, List.set_cons_zero, List.set_cons_succ]
      refine wpAnyH_take (i := 4) (oi := ⟨some 40, Op.fieldAddr 35 (Operand.tmp 7) 3, 0, _, _, none⟩) (v := ?v4n5k5) rfl (by kernel_rfl) (by kernel_rfl) (by kernel_rfl) (fun _ _ _ h => h) (Or.inl ⟨by rfl, ?y4n5k5⟩) hHeld ?z4n5k5
      case y4n5k5 => intro w hSw; (try dsimp only at hSw); go_simp <;> rfl
      try simp only [Act.put, List.setIfInBounds_toArray, List.set_cons_zero, List.set_cons_succ]
      refine wpAnyH_take (i := 5) (oi := ⟨some 41, Op.load 32 (Operand.tmp 40), 32, _, _, none⟩) (v := ?v5n5k6) rfl (by kernel_rfl) (by kernel_rfl) (by kernel_rfl) (fun _ _ _ h => h) (Or.inl ⟨by rfl, ?y5n5k6⟩) hHeld ?z5n5k6
      case y5n5k6 => intro w hSw; (try dsimp only at hSw); go_simp <;> rfl
      try simp only [Act.put, List.setIfInBounds_toArray, List.set_cons_zero, List.set_cons_succ]
      refine wpAnyH_take (i := 6) (oi := ⟨some 42, Op.call { callee := Callee.builtin Builtin.len, args := #[Operand.tmp 41], argTypes := #[32] }, 3, _, _, none⟩) (v := ?v6n5k7) rfl (by kernel_rfl) (by kernel_rfl) (by kernel_rfl) (fun _ _ _ h => h) (Or.inl ⟨by rfl, ?y6n5k7⟩) hHeld ?z6n5k7
      case y6n5k7 => intro w hSw; (try dsimp only at hSw); go_simp <;> rfl
      try simp only [Act.put, List.setIfInBounds_toArray, List.set_cons_zero, List.set_cons_succ]
      refine wpAnyH_take (i := 7) (oi := ⟨some 43, Op.call { callee := Callee.builtin Builtin.min, args := #[Operand.tmp 42, Operand.const (Value.int IntKind.i64 40)], argTypes := #[3, 3] }, 3, _, _, none⟩) (v := ?v7n5k8) rfl (by kernel_rfl) (by kernel_rfl) (by kernel_rfl) (fun _ _ _ h => h) (Or.inl ⟨by rfl, ?y7n5k8⟩) hHeld ?z7n5k8
      case y7n5k8 => intro w hSw; (try dsimp only at hSw); go_simp <;> rfl
      try simp only [Act.put, List.setIfInBounds_toArray, List.set_cons_zero, List.set_cons_succ]
      refine wpAnyH_take (i := 8) (oi := ⟨some 44, Op.slice 32 (Operand.tmp 39) none (some (Operand.tmp 43)) none, 32, _, _, none⟩) (v := ?v8n5k9) rfl (by kernel_rfl) (by kernel_rfl) (by kernel_rfl) (fun _ _ _ h => h) (Or.inl ⟨by rfl, ?y8n5k9⟩) hHeld ?z8n5k9
      case y8n5k9 => intro w hSw; (try dsimp only at hSw); go_simp <;> rfl
      try simp only [Act.put, List.setIfInBounds_toArray, List.set_cons_zero, List.set_cons_succ]
      refine wpAnyH_ready (rs := [9]) (by kernel_rfl) (by simp) ?_
      refine AllReadyH.cons (o := ⟨some 45, Op.call { callee := Callee.value (Operand.func 16), args := #[Operand.tmp 36, Operand.tmp 37, Operand.tmp 44], argTypes := #[24, 35, 32] }, 38, _, _, none⟩) rfl (fun K hK => ?_) AllReadyH.nil
      go_simp
      refine hdo.mono ?_
      rintro e w5 ⟨f, rfl, hD, _⟩
      have hB5 := hD.kept.blk HB9.out HNB.out
      dsimp only
      refine hK.out _ _ ⟨cell_of_row _ _ _ _ _ _ hB5, cell_of_row _ _ _ _ _ _ hB5, cell_of_row _ _ _ _ _ _ hB5, cell_of_row _ _ _ _ _ _ hB5, cell_of_row _ _ _ _ _ _ hB5⟩ (fun hHeld => ?_)
      clear hK K
      try simp only [Act.put, List.setIfInBounds_toArray, List.set_cons_zero, List.set_cons_succ]
      refine wpAnyH_take (i := 10) (oi := ⟨some 11, Op.assign (Operand.tmp 45), 38, _, _, none⟩) (v := ?v10n5k10) rfl (by kernel_rfl) (by kernel_rfl) (by kernel_rfl) (fun _ _ _ h => h) (Or.inl ⟨by rfl, ?y10n5k10⟩) hHeld ?z10n5k10
      case y10n5k10 => intro w hSw; (try dsimp only at hSw); go_simp <;> rfl
      try simp only [Act.put, List.setIfInBounds_toArray, List.set_cons_zero, List.set_cons_succ]
      refine wpAnyH_done (by kernel_rfl) ?_ _
      refine NoPanic.normal ?_
      have H5 := Lib.hid (Has.next HFD.out KD.out hD)
      obtain ⟨R, hR⟩ : ∃ R, R = S.do_ ⟨op, na, to_, xA, xc, row, num⟩ f b := ⟨_, rfl⟩
      rw [← hR] at H5 ⊢
      have HR := Lib.hid hR
      clear hB5 hD hdo s0 s1 s2 s3 s4 hHeld hR
      have hbn := HB.out
      cases hdn : S.down with
      | true =>
        have e1 : R = (7, S) := by rw [HR.out]; exact do_down S hdn _ f b
        have e2 : R.1 = 7 := by rw [e1]
        have e3 : R.2 = S := by rw [e1]
        rw [e3] at H5
        rw [e2]
        have HBN : Hid (S.calls ≤ k + 1 ∧ S.vol ≤ 40 * (k + 1)) := by show _ ∧ _; omega
        clear e1 e2 e3 hbn
        obtain ⟨cn, hcn⟩ : ∃ cn, cn = S.calls := ⟨_, rfl⟩
        obtain ⟨un, hun⟩ : ∃ un, un = S.used := ⟨_, rfl⟩
        rw [← hcn, ← hun]
        have HCN := Lib.hid hcn.symm
        have HUN := Lib.hid hun.symm
        have HDN := Lib.hid hdn
        clear hcn hun hdn
        go_wp2_with fail
        refine H5.out.calls.mono ?_
        rintro e w6 ⟨rfl, rfl⟩
        rw [HCN.out]
        go_wp2_with fail
        refine H5.out.used.mono ?_
        rintro e w6 ⟨rfl, k6⟩
        rw [HUN.out]
        replace H5 := Lib.hid (H5.out.then_ k6)
        clear k6
        go_wp2_with fail
        refine H5.out.down.mono ?_
        rintro e w6 ⟨rfl, rfl⟩
        rw [HDN.out]
        go_wp2_with fail
        refine H5.out.down.mono ?_
        rintro e w6 ⟨rfl, rfl⟩
        rw [HDN.out]
        go_wp2
        go_roundw
        case rel => exact ⟨k + 1, _, by omega, by go_num, Lib.hid HBN.out, H5⟩
        case measure => simp [intOf]; omega
      | false =>
        have t := tells_do S hdn ⟨op, na, to_, xA, xc, row, num⟩ f b
        rw [← HR.out, HBL.out] at t
        have HBN : Hid (R.2.calls ≤ k + 1 ∧ R.2.vol ≤ 40 * (k + 1)) := by
          show _ ∧ _
          have t1 := t.1
          rcases t.2 with h9 | h9 | h9
          · omega
          · omega
          · rw [h9.2.2] at t1 ⊢
            omega
        obtain ⟨cn, hcn⟩ : ∃ cn, cn = S.calls := ⟨_, rfl⟩
        obtain ⟨un, hun⟩ : ∃ un, un = S.used := ⟨_, rfl⟩
        have t2 := t.2
        rw [← hcn] at t2
        rw [← hcn, ← hun]
        have hcb : cn ≤ 60 := by omega
        clear t hbn hun
        rcases t2 with h9 | h9 | h9
        · rw [h9.1]
          have HC9 := Lib.hid h9.2
          clear h9 hcn hdn
          go_wp2_with fail
          refine H5.out.calls.mono ?_
          rintro e w6 ⟨rfl, rfl⟩
          rw [HC9.out]
          have hne : (((cn + 1 : Nat) : Int) == (cn : Int)) = false := by rw [beq_eq_false_iff_ne]; omega
          have hne2 : (((cn : Int) + 1) == (cn : Int)) = false := by rw [beq_eq_false_iff_ne]; omega
          go_wp2
          go_roundw
          case rel => exact ⟨k + 1, _, by omega, by go_num, Lib.hid HBN.out, H5⟩
          case measure => simp [intOf]; omega
        · rw [h9.1]
          have HC9 := Lib.hid h9.2.1
          have HD9 := Lib.hid h9.2.2
          clear h9 hcn hdn
          go_wp2_with fail
          refine H5.out.down.mono ?_
          rintro e w6 ⟨rfl, rfl⟩
          rw [HD9.out]
          go_wp2_with fail
          refine H5.out.calls.mono ?_
          rintro e w6 ⟨rfl, rfl⟩
          rw [HC9.out]
          have hne : (((cn + 1 : Nat) : Int) == (cn : Int)) = false := by rw [beq_eq_false_iff_ne]; omega
          have hne2 : (((cn : Int) + 1) == (cn : Int)) = false := by rw [beq_eq_false_iff_ne]; omega
          go_wp2
          go_roundw
          case rel => exact ⟨k + 1, _, by omega, by go_num, Lib.hid HBN.out, H5⟩
          case measure => simp [intOf]; omega
        · have HC9 : Hid (R.2.calls = cn) := by rw [h9.2.2, hcn]; exact Lib.hid rfl
          obtain ⟨er, her⟩ : ∃ er, er = R.1 := ⟨_, rfl⟩
          rw [← her] at h9 ⊢
          have hz0 : ((er : Int) == 0) = false := by rw [beq_eq_false_iff_ne]; omega
          have hz7 : ((er : Int) == 7) = false := by rw [beq_eq_false_iff_ne]; omega
          clear h9 hcn hdn her
          go_wp2_with fail
          refine H5.out.calls.mono ?_
          rintro e w6 ⟨rfl, rfl⟩
          rw [HC9.out]
          go_wp2
          go_roundw
          case rel => exact ⟨k + 1, _, by omega, by go_num, Lib.hid HBN.out, H5⟩
          case measure => simp [intOf]; omega
    · obtain rfl : k = m := by omega
      go_wp2_with fail
      refine (HH.out.restart 3 3).mono ?_
      rintro e w4 ⟨rfl, h4⟩
      have H4 := Lib.hid h4; clear h4
      go_wp2_with fail
      refine H4.out.down.mono ?_
      rintro e w5 ⟨rfl, rfl⟩
      have hdn : (S.restart 3 3).down = false := rfl
      rw [hdn]
      go_wp2_with fail
      refine (H4.out.create [110, 101, 119] (small_name _ (by simp)) (by have := HB.out; show S.calls < _; omega)).mono ?_
      rintro e w5 ⟨f, rfl, h5, _⟩
      have hcc := create_calm (S.restart 3 3) [110, 101, 119] f rfl rfl
      obtain ⟨er, her⟩ : ∃ er, er = ((S.restart 3 3).create [110, 101, 119] f).1 := ⟨_, rfl⟩
      rw [← her] at hcc ⊢
      have hne : ((er : Int) != 7) = true := by simp; omega
      have K5 := Lib.hid (K1.out.step h5.kept)
      clear her h5
      go_wp2
      go_ret
      exact ⟨by simp, K5.out⟩
end Go.Proofs.Ytaelkmcohdfboaa
