/-
  ImageOrder: what it does with whatever says, index, place and entry. No statement is proved here.
-/
import Derived.Test.YthmjjhjblokjeaaL9Awake
import Derived.Test.YthmjjhjblokjeaaL9Turn
namespace Go.Proofs.Ythmjjhjblokjeaa
open Go.RowKit Tot

theorem entsB_small {es : List EntryV} (h : ∀ e ∈ es, e.Small) : (entsB es).length ≤ es.length * 366 := by
  induction es with
  | nil => simp [entsB]
  | cons e r ih =>
    have h1 := ih (fun x hx => h x (by simp [hx]))
    have h2 := (h e (by simp)).len
    rw [entsB_cons, List.length_append, entB_length, List.length_cons]
    omega
/-- All of them are read of their bytes. -/
def allB (l : List EntryV) : Bool := l.all fun e => gotB e.bytes
theorem allB_take (l : List EntryV) (k : Nat) (x : EntryV) (h : l[k]? = some x) : allB (l.take (k + 1)) = (allB (l.take k) && gotB x.bytes) := by
  unfold allB
  rw [take_snoc l k x h, List.all_append]
  simp
/-- What is read of a file of whatever entries. -/
theorem order_facts {l xs : List EntryV} {f : Int} {er : Int} {k : Nat} (hs : ∀ e ∈ l, e.bytes.length ≤ 16384)
    (h : (er = 0 ∧ k = (fileB f xs).length ∧ PartOk (fileB f l) f xs) ∨ (er = 10 ∧ k = 0 ∧ xs = [] ∧ ∀ ys, ¬ PartOk (fileB f l) f ys)) :
    (er = 0 ∧ xs.length = l.length ∧ allB l = true) ∨ (er = 10 ∧ rowB l (f + 1) 0 = false) := by
  rcases h with ⟨h1, _, h2⟩ | ⟨h1, _, _, h2⟩
  · obtain ⟨_, t, p, q⟩ := h2.parted
    have p0 : Parted ((fileB f l).drop 26) (l.map EntryV.bytes) [] := by
      refine ⟨?_, fun r hr => ?_⟩
      · unfold fileB
        rw [← partB_length f, List.drop_left' rfl, entsB_joined, List.append_nil]
      · obtain ⟨x, hx, rfl⟩ := List.mem_map.1 hr
        exact hs x hx
    have e := parted_same p q p0 (by rw [rd_nil]; decide)
    refine .inl ⟨h1, by have := congrArg List.length e; simpa using this, ?_⟩
    unfold allB
    rw [List.all_eq_true]
    intro x hx
    have hm : x.bytes ∈ xs.map EntryV.bytes := by rw [e]; exact List.mem_map.2 ⟨x, hx, rfl⟩
    obtain ⟨z, hz, hzx⟩ := List.mem_map.1 hm
    rw [← hzx]
    exact (gotE_some (entryOf_bytes (rowB_right h2.1 z hz))).2
  · refine .inr ⟨h1, ?_⟩
    cases hr : rowB l (f + 1) 0
    · rfl
    · exact absurd ⟨hr, [], by simp, by rw [rd_nil]; decide⟩ (h2 l)

set_option maxRecDepth 100000 in
set_option maxHeartbeats 4000000 in
theorem iorder_walk (F : Nat → Prop) (a : Option Addr) (n c : Nat) (ss : List SayV) (f : Nat) (at_ : UInt8) (e0 : EntryV) (w : World) (hf : f < 256) (h : Lies w F a (sayCells ss)) (hl : ss.length = n) (hnc : n ≤ c) :
    Calls Try.prog 5 #[.slice a n c, .int .u8 (f : Int), .int .u8 (at_.toNat : Int), e0.val] w fun e w' => e = .returned (.bool true) ∧ Kept noBlock w w' := by
  obtain ⟨es, hes⟩ : ∃ es, es = entsOf (ss.take 80) ((f : Int) + 1) 1 := ⟨_, rfl⟩
  have EN := Lib.hid (fun u (k : Kept noBlock w u) => ents_any F a n c ((f : Int) + 1) 1 ss es u (h.keep k (fun _ _ h => h)) hl hnc hes (by omega) (by omega) (by omega) (by omega))
  have hel : es.length ≤ 80 := by rw [hes, entsOf_length, List.length_take]; omega
  have hsm : ∀ x ∈ es, x.Small := by rw [hes]; exact ents_small _ _ _
  obtain ⟨m, hm⟩ : ∃ m, es.length = m := ⟨_, rfl⟩
  rw [hm] at hel EN
  have HM := Lib.hid hm
  have HSMALL := Lib.hid hsm
  have hat := at_.toNat_lt
  obtain ⟨w0, hw0⟩ : ∃ w0, w0 = w.alloc (.cells e0.cells.toArray 48) := ⟨_, rfl⟩
  have K0 : Hid (Kept noBlock w w0) := by unfold Hid; rw [hw0]; exact Kept.alloc _ _ _
  have B0 : Hid (w0.heap[w.heap.size]? = some (.cells e0.cells.toArray 48 (0, 0))) := by unfold Hid; rw [hw0]; exact heap_alloc_new w _
  obtain ⟨e', he'⟩ : ∃ e' : EntryV, e' = ⟨e0.index, e0.term, e0.cmd.op, e0.cmd.client, e0.cmd.seq, cutTo e0.cmd.key, cutTo e0.cmd.value, cutTo e0.cmd.old⟩ := ⟨_, rfl⟩
  have SM : Hid (e'.Small) := by unfold Hid; rw [he']; exact ⟨cutTo_size _, cutTo_size _, cutTo_size _⟩
  unfold EntryV.cells at hw0
  unfold EntryV.val
  obtain ⟨index, term, op, client, seq, key, value, old⟩ := e0
  simp only at he' hw0 ⊢
  obtain ⟨nk, hnk⟩ : ∃ m, m = min key.size 100 := ⟨_, rfl⟩
  obtain ⟨nv, hnv⟩ : ∃ m, m = min value.size 100 := ⟨_, rfl⟩
  obtain ⟨no, hno⟩ : ∃ m, m = min old.size 100 := ⟨_, rfl⟩
  have q1 : (if (100 : Int) < (key.size : Int) then (100 : Int) else (key.size : Int)) = (nk : Int) := by split <;> omega
  have q2 : (if (100 : Int) < (value.size : Int) then (100 : Int) else (value.size : Int)) = (nv : Int) := by split <;> omega
  have q3 : (if (100 : Int) < (old.size : Int) then (100 : Int) else (old.size : Int)) = (no : Int) := by split <;> omega
  have z1 := fun w => cut_run w key nk hnk
  have z2 := fun w => cut_run w value nv hnv
  have z3 := fun w => cut_run w old no hno
  clear hnk hnv hno hes hsm hm hl h
  have HE' := Lib.hid he'
  clear he'
  go_enter Try.func5, Try.ntmps5
  go_wp2_with fail
  rw [← hw0]
  clear hw0
  refine (awake9_any w0).mono ?_
  rintro e w1 ⟨rfl, k1⟩
  have B1 := Lib.hid (k1.blk B0.out (fun h => h))
  have K1 := Lib.hid (K0.out.step k1)
  clear k1 B0 K0
  go_wp2_with fail
  refine (EN.out w1 K1.out).mono ?_
  rintro e w2 ⟨A2, c2, rfl, o2, k2⟩
  have hc2 : m ≤ c2 := by obtain ⟨_, _, e, hle⟩ := own_form o2; injection e with _ _ e; omega
  have B2 := Lib.hid (k2.blk B1.out (fun h => h))
  have K2 := Lib.hid (K1.out.step k2)
  have LE2 := Lib.hid (Lies.of_rows (F := fun i => w1.heap.size ≤ i) o2 (fun i hi => (o2.lt i hi).1))
  have BW : Hid (w.heap.size < w1.heap.size) := lt_of_blk B1.out
  clear o2 k2 EN K1 B1
  go_upto_region 4 with (fail)
  have d5 : w2.cell? ⟨w.heap.size, 5, none⟩ = some (.string key) := cell_of_row _ _ _ _ _ _ B2.out
  have d6 : w2.cell? ⟨w.heap.size, 6, none⟩ = some (.string value) := cell_of_row _ _ _ _ _ _ B2.out
  have d7 : w2.cell? ⟨w.heap.size, 7, none⟩ = some (.string old) := cell_of_row _ _ _ _ _ _ B2.out
  have f5 : w2.frozen? ⟨w.heap.size, 5, none⟩ = false := frozen_of_row _ _ _ _ _ B2.out
  have f6 : w2.frozen? ⟨w.heap.size, 6, none⟩ = false := frozen_of_row _ _ _ _ _ B2.out
  have f7 : w2.frozen? ⟨w.heap.size, 7, none⟩ = false := frozen_of_row _ _ _ _ _ B2.out
  refine wp_region_noPanic ?_
  refine wp_region_any_drew (by kernel_rfl) ?_
  refine wpAny_late (fun w' => w'.cell? ⟨w.heap.size, 5, none⟩ = some (.string key) ∧ w'.cell? ⟨w.heap.size, 6, none⟩ = some (.string value) ∧ w'.cell? ⟨w.heap.size, 7, none⟩ = some (.string old)) 27 ⟨d5, d6, d7⟩ (fun hHeld => ?_)
  refine wpAnyU_take (i := 0) (oi := ⟨some 26, Op.fieldAddr 48 (Operand.tmp 7) 2, 0, _, _, none⟩) (v := ?v0n1k1) rfl (by kernel_rfl) (by kernel_rfl) (by kernel_rfl) (fun _ _ _ h => h) (Or.inl ⟨by rfl, ?y0n1k1⟩) hHeld ?z0n1k1
  case y0n1k1 => intro w hSw; (try dsimp only at hSw); go_simp <;> rfl
  try simp only [Act.put, List.setIfInBounds_toArray, List.set_cons_zero, List.set_cons_succ]
  refine wpAnyU_take (i := 1) (oi := ⟨some 27, Op.fieldAddr 46 (Operand.tmp 26) 3, 0, _, _, none⟩) (v := ?v1n1k2) rfl (by kernel_rfl) (by kernel_rfl) (by kernel_rfl) (fun _ _ _ h => h) (Or.inl ⟨by rfl, ?y1n1k2⟩) hHeld ?z1n1k2
  case y1n1k2 => intro w hSw; (try dsimp only at hSw); go_simp <;> rfl
  try simp only [Act.put, List.setIfInBounds_toArray, List.set_cons_zero, List.set_cons_succ]
  refine wpAnyU_take (i := 2) (oi := ⟨some 28, Op.load 9 (Operand.tmp 27), 9, _, _, none⟩) (v := ?v2n1k3) rfl (by kernel_rfl) (by kernel_rfl) (by kernel_rfl) (fun _ _ _ h => h) (Or.inl ⟨by rfl, ?y2n1k3⟩) hHeld ?z2n1k3
  case y2n1k3 => intro w hSw; (try dsimp only at hSw); go_simp <;> rfl
  try simp only [Act.put, List.setIfInBounds_toArray, List.set_cons_zero, List.set_cons_succ]
  refine wpAnyU_take (i := 3) (oi := ⟨some 29, Op.fieldAddr 48 (Operand.tmp 7) 2, 0, _, _, none⟩) (v := ?v3n1k4) rfl (by kernel_rfl) (by kernel_rfl) (by kernel_rfl) (fun _ _ _ h => h) (Or.inl ⟨by rfl, ?y3n1k4⟩) hHeld ?z3n1k4
  case y3n1k4 => intro w hSw; (try dsimp only at hSw); go_simp <;> rfl
  try simp only [Act.put, List.setIfInBounds_toArray, List.set_cons_zero, List.set_cons_succ]
  refine wpAnyU_take (i := 4) (oi := ⟨some 30, Op.fieldAddr 46 (Operand.tmp 29) 3, 0, _, _, none⟩) (v := ?v4n1k5) rfl (by kernel_rfl) (by kernel_rfl) (by kernel_rfl) (fun _ _ _ h => h) (Or.inl ⟨by rfl, ?y4n1k5⟩) hHeld ?z4n1k5
  case y4n1k5 => intro w hSw; (try dsimp only at hSw); go_simp <;> rfl
  try simp only [Act.put, List.setIfInBounds_toArray, List.set_cons_zero, List.set_cons_succ]
  refine wpAnyU_take (i := 5) (oi := ⟨some 31, Op.load 9 (Operand.tmp 30), 9, _, _, none⟩) (v := ?v5n1k6) rfl (by kernel_rfl) (by kernel_rfl) (by kernel_rfl) (fun _ _ _ h => h) (Or.inl ⟨by rfl, ?y5n1k6⟩) hHeld ?z5n1k6
  case y5n1k6 => intro w hSw; (try dsimp only at hSw); go_simp <;> rfl
  try simp only [Act.put, List.setIfInBounds_toArray, List.set_cons_zero, List.set_cons_succ]
  refine wpAnyU_take (i := 6) (oi := ⟨some 32, Op.call { callee := Callee.builtin Builtin.len, args := #[Operand.tmp 31], argTypes := #[9] }, 3, _, _, none⟩) (v := ?v6n1k7) rfl (by kernel_rfl) (by kernel_rfl) (by kernel_rfl) (fun _ _ _ h => h) (Or.inl ⟨by rfl, ?y6n1k7⟩) hHeld ?z6n1k7
  case y6n1k7 => intro w hSw; (try dsimp only at hSw); go_simp <;> rfl
  try simp only [Act.put, List.setIfInBounds_toArray, List.set_cons_zero, List.set_cons_succ]
  refine wpAnyU_take (i := 7) (oi := ⟨some 33, Op.call { callee := Callee.builtin Builtin.min, args := #[Operand.tmp 32, Operand.const (Value.int IntKind.i64 100)], argTypes := #[3, 3] }, 3, _, _, none⟩) (v := ?v7n1k8) rfl (by kernel_rfl) (by kernel_rfl) (by kernel_rfl) (fun _ _ _ h => h) (Or.inl ⟨by rfl, ?y7n1k8⟩) hHeld ?z7n1k8
  case y7n1k8 => intro w hSw; (try dsimp only at hSw); go_simp <;> rfl
  try simp only [Act.put, List.setIfInBounds_toArray, List.set_cons_zero, List.set_cons_succ]
  refine wpAnyU_take (i := 8) (oi := ⟨some 34, Op.slice 9 (Operand.tmp 28) none (some (Operand.tmp 33)) none, 9, _, _, none⟩) (v := ?v8n1k9) rfl (by kernel_rfl) (by kernel_rfl) (by kernel_rfl) (fun _ _ _ h => h) (Or.inl ⟨by rfl, ?y8n1k9⟩) hHeld ?z8n1k9
  case y8n1k9 => intro w hSw; (try dsimp only at hSw); go_simp <;> rfl
  try simp only [Act.put, List.setIfInBounds_toArray, List.set_cons_zero, List.set_cons_succ]
  refine wpAnyU_take (i := 9) (oi := ⟨some 35, Op.fieldAddr 48 (Operand.tmp 7) 2, 0, _, _, none⟩) (v := ?v9n1k10) rfl (by kernel_rfl) (by kernel_rfl) (by kernel_rfl) (fun _ _ _ h => h) (Or.inl ⟨by rfl, ?y9n1k10⟩) hHeld ?z9n1k10
  case y9n1k10 => intro w hSw; (try dsimp only at hSw); go_simp <;> rfl
  try simp only [Act.put, List.setIfInBounds_toArray, List.set_cons_zero, List.set_cons_succ]
  refine wpAnyU_take (i := 10) (oi := ⟨some 36, Op.fieldAddr 46 (Operand.tmp 35) 4, 0, _, _, none⟩) (v := ?v10n1k11) rfl (by kernel_rfl) (by kernel_rfl) (by kernel_rfl) (fun _ _ _ h => h) (Or.inl ⟨by rfl, ?y10n1k11⟩) hHeld ?z10n1k11
  case y10n1k11 => intro w hSw; (try dsimp only at hSw); go_simp <;> rfl
  try simp only [Act.put, List.setIfInBounds_toArray, List.set_cons_zero, List.set_cons_succ]
  refine wpAnyU_take (i := 11) (oi := ⟨some 37, Op.load 9 (Operand.tmp 36), 9, _, _, none⟩) (v := ?v11n1k12) rfl (by kernel_rfl) (by kernel_rfl) (by kernel_rfl) (fun _ _ _ h => h) (Or.inl ⟨by rfl, ?y11n1k12⟩) hHeld ?z11n1k12
  case y11n1k12 => intro w hSw; (try dsimp only at hSw); go_simp <;> rfl
  try simp only [Act.put, List.setIfInBounds_toArray, List.set_cons_zero, List.set_cons_succ]
  refine wpAnyU_take (i := 12) (oi := ⟨some 38, Op.fieldAddr 48 (Operand.tmp 7) 2, 0, _, _, none⟩) (v := ?v12n1k13) rfl (by kernel_rfl) (by kernel_rfl) (by kernel_rfl) (fun _ _ _ h => h) (Or.inl ⟨by rfl, ?y12n1k13⟩) hHeld ?z12n1k13
  case y12n1k13 => intro w hSw; (try dsimp only at hSw); go_simp <;> rfl
  try simp only [Act.put, List.setIfInBounds_toArray, List.set_cons_zero, List.set_cons_succ]
  refine wpAnyU_take (i := 13) (oi := ⟨some 39, Op.fieldAddr 46 (Operand.tmp 38) 4, 0, _, _, none⟩) (v := ?v13n1k14) rfl (by kernel_rfl) (by kernel_rfl) (by kernel_rfl) (fun _ _ _ h => h) (Or.inl ⟨by rfl, ?y13n1k14⟩) hHeld ?z13n1k14
  case y13n1k14 => intro w hSw; (try dsimp only at hSw); go_simp <;> rfl
  try simp only [Act.put, List.setIfInBounds_toArray, List.set_cons_zero, List.set_cons_succ]
  refine wpAnyU_take (i := 14) (oi := ⟨some 40, Op.load 9 (Operand.tmp 39), 9, _, _, none⟩) (v := ?v14n1k15) rfl (by kernel_rfl) (by kernel_rfl) (by kernel_rfl) (fun _ _ _ h => h) (Or.inl ⟨by rfl, ?y14n1k15⟩) hHeld ?z14n1k15
  case y14n1k15 => intro w hSw; (try dsimp only at hSw); go_simp <;> rfl
  try simp only [Act.put, List.setIfInBounds_toArray, List.set_cons_zero, List.set_cons_succ]
  refine wpAnyU_take0 (i := 15) (oi := ⟨some 41, Op.call { callee := Callee.builtin Builtin.len, args := #[Operand.tmp 40], argTypes := #[9] }, 3, _, _, none⟩) (v := ?v15n1k16) rfl (by kernel_rfl) (by kernel_rfl) (by kernel_rfl) (fun _ _ _ h => h) (Or.inl ⟨by rfl, ?y15n1k16⟩) ?z15n1k16
  case y15n1k16 => intro w; go_simp <;> rfl
  try simp only [Act.put, List.setIfInBounds_toArray, List.set_cons_zero, List.set_cons_succ]
  refine wpAnyU_take0 (i := 16) (oi := ⟨some 42, Op.call { callee := Callee.builtin Builtin.min, args := #[Operand.tmp 41, Operand.const (Value.int IntKind.i64 100)], argTypes := #[3, 3] }, 3, _, _, none⟩) (v := ?v16n1k17) rfl (by kernel_rfl) (by kernel_rfl) (by kernel_rfl) (fun _ _ _ h => h) (Or.inl ⟨by rfl, ?y16n1k17⟩) ?z16n1k17
  case y16n1k17 => intro w; go_simp <;> rfl
  try simp only [Act.put, List.setIfInBounds_toArray, List.set_cons_zero, List.set_cons_succ]
  refine wpAnyU_take0 (i := 17) (oi := ⟨some 43, Op.slice 9 (Operand.tmp 37) none (some (Operand.tmp 42)) none, 9, _, _, none⟩) (v := ?v17n1k18) rfl (by kernel_rfl) (by kernel_rfl) (by kernel_rfl) (fun _ _ _ h => h) (Or.inl ⟨by rfl, ?y17n1k18⟩) ?z17n1k18
  case y17n1k18 => intro w; go_simp <;> rfl
  try simp only [Act.put, List.setIfInBounds_toArray, List.set_cons_zero, List.set_cons_succ]
  refine wpAnyU_take (i := 18) (oi := ⟨some 44, Op.fieldAddr 48 (Operand.tmp 7) 2, 0, _, _, none⟩) (v := ?v18n1k19) rfl (by kernel_rfl) (by kernel_rfl) (by kernel_rfl) (fun _ _ _ h => h) (Or.inl ⟨by rfl, ?y18n1k19⟩) hHeld ?z18n1k19
  case y18n1k19 => intro w hSw; (try dsimp only at hSw); go_simp <;> rfl
  try simp only [Act.put, List.setIfInBounds_toArray, List.set_cons_zero, List.set_cons_succ]
  refine wpAnyU_take (i := 19) (oi := ⟨some 45, Op.fieldAddr 46 (Operand.tmp 44) 5, 0, _, _, none⟩) (v := ?v19n1k20) rfl (by kernel_rfl) (by kernel_rfl) (by kernel_rfl) (fun _ _ _ h => h) (Or.inl ⟨by rfl, ?y19n1k20⟩) hHeld ?z19n1k20
  case y19n1k20 => intro w hSw; (try dsimp only at hSw); go_simp <;> rfl
  try simp only [Act.put, List.setIfInBounds_toArray, List.set_cons_zero, List.set_cons_succ]
  refine wpAnyU_take (i := 20) (oi := ⟨some 46, Op.load 9 (Operand.tmp 45), 9, _, _, none⟩) (v := ?v20n1k21) rfl (by kernel_rfl) (by kernel_rfl) (by kernel_rfl) (fun _ _ _ h => h) (Or.inl ⟨by rfl, ?y20n1k21⟩) hHeld ?z20n1k21
  case y20n1k21 => intro w hSw; (try dsimp only at hSw); go_simp <;> rfl
  try simp only [Act.put, List.setIfInBounds_toArray, List.set_cons_zero, List.set_cons_succ]
  refine wpAnyU_take (i := 21) (oi := ⟨some 47, Op.fieldAddr 48 (Operand.tmp 7) 2, 0, _, _, none⟩) (v := ?v21n1k22) rfl (by kernel_rfl) (by kernel_rfl) (by kernel_rfl) (fun _ _ _ h => h) (Or.inl ⟨by rfl, ?y21n1k22⟩) hHeld ?z21n1k22
  case y21n1k22 => intro w hSw; (try dsimp only at hSw); go_simp <;> rfl
  try simp only [Act.put, List.setIfInBounds_toArray, List.set_cons_zero, List.set_cons_succ]
  refine wpAnyU_take (i := 22) (oi := ⟨some 48, Op.fieldAddr 46 (Operand.tmp 47) 5, 0, _, _, none⟩) (v := ?v22n1k23) rfl (by kernel_rfl) (by kernel_rfl) (by kernel_rfl) (fun _ _ _ h => h) (Or.inl ⟨by rfl, ?y22n1k23⟩) hHeld ?z22n1k23
  case y22n1k23 => intro w hSw; (try dsimp only at hSw); go_simp <;> rfl
  try simp only [Act.put, List.setIfInBounds_toArray, List.set_cons_zero, List.set_cons_succ]
  refine wpAnyU_take (i := 23) (oi := ⟨some 49, Op.load 9 (Operand.tmp 48), 9, _, _, none⟩) (v := ?v23n1k24) rfl (by kernel_rfl) (by kernel_rfl) (by kernel_rfl) (fun _ _ _ h => h) (Or.inl ⟨by rfl, ?y23n1k24⟩) hHeld ?z23n1k24
  case y23n1k24 => intro w hSw; (try dsimp only at hSw); go_simp <;> rfl
  try simp only [Act.put, List.setIfInBounds_toArray, List.set_cons_zero, List.set_cons_succ]
  refine wpAnyU_take0 (i := 24) (oi := ⟨some 50, Op.call { callee := Callee.builtin Builtin.len, args := #[Operand.tmp 49], argTypes := #[9] }, 3, _, _, none⟩) (v := ?v24n1k25) rfl (by kernel_rfl) (by kernel_rfl) (by kernel_rfl) (fun _ _ _ h => h) (Or.inl ⟨by rfl, ?y24n1k25⟩) ?z24n1k25
  case y24n1k25 => intro w; go_simp <;> rfl
  try simp only [Act.put, List.setIfInBounds_toArray, List.set_cons_zero, List.set_cons_succ]
  refine wpAnyU_take0 (i := 25) (oi := ⟨some 51, Op.call { callee := Callee.builtin Builtin.min, args := #[Operand.tmp 50, Operand.const (Value.int IntKind.i64 100)], argTypes := #[3, 3] }, 3, _, _, none⟩) (v := ?v25n1k26) rfl (by kernel_rfl) (by kernel_rfl) (by kernel_rfl) (fun _ _ _ h => h) (Or.inl ⟨by rfl, ?y25n1k26⟩) ?z25n1k26
  case y25n1k26 => intro w; go_simp <;> rfl
  try simp only [Act.put, List.setIfInBounds_toArray, List.set_cons_zero, List.set_cons_succ]
  refine wpAnyU_take0 (i := 26) (oi := ⟨some 52, Op.slice 9 (Operand.tmp 46) none (some (Operand.tmp 51)) none, 9, _, _, none⟩) (v := ?v26n1k27) rfl (by kernel_rfl) (by kernel_rfl) (by kernel_rfl) (fun _ _ _ h => h) (Or.inl ⟨by rfl, ?y26n1k27⟩) ?z26n1k27
  case y26n1k27 => intro w; go_simp <;> rfl
  try simp only [Act.put, List.setIfInBounds_toArray, List.set_cons_zero, List.set_cons_succ]
  refine wpAnyU_done (by kernel_rfl) (by kernel_rfl) ?_
  simp only [List.drop_succ_cons, List.drop_zero]
  go_wp2
  refine NoPanic.normal ?_
  have B3 : Hid ((((w2.setCell ⟨w.heap.size, 5, none⟩ (.string (cutTo key))).setCell ⟨w.heap.size, 6, none⟩ (.string (cutTo value))).setCell ⟨w.heap.size, 7, none⟩ (.string (cutTo old))).heap[w.heap.size]? = some (.cells e'.cells.toArray 48 (0, 0))) := by
    unfold Hid
    have h5 := heap_setCell_same w2 w.heap.size 5 _ 48 (.string (cutTo key)) B2.out
    have h6 := heap_setCell_same _ w.heap.size 6 _ 48 (.string (cutTo value)) h5
    have h7 := heap_setCell_same _ w.heap.size 7 _ 48 (.string (cutTo old)) h6
    rw [h7, HE'.out]
    simp [EntryV.cells]
  have ks := (((Kept.setCell (S := fun k => k = w.heap.size) w2 (p := ⟨w.heap.size, 5, none⟩) (by rfl) (.string (cutTo key))).step (Kept.setCell _ (p := ⟨w.heap.size, 6, none⟩) (by rfl) (.string (cutTo value)))).step (Kept.setCell _ (p := ⟨w.heap.size, 7, none⟩) (by rfl) (.string (cutTo old))))
  have K3 := Lib.hid (K2.out.trans ks (fun i hi h => by omega))
  have LE3 := Lib.hid ((LE2.out.keep ks (fun i hi h => by have := BW.out; omega)).keep (Kept.drew noBlock _) (fun _ _ h => h))
  have B4 := Lib.hid ((Kept.drew noBlock _).blk B3.out (fun h => h))
  have K4 := Lib.hid (K3.out.step (Kept.drew noBlock _))
  clear B3 K3 d5 d6 d7 f5 f6 f7 hHeld q1 q2 q3 z1 z2 z3 B2 K2 LE2 HE' ks
  generalize (((w2.setCell ⟨w.heap.size, 5, none⟩ (.string (cutTo key))).setCell ⟨w.heap.size, 6, none⟩ (.string (cutTo value))).setCell ⟨w.heap.size, 7, none⟩ (.string (cutTo old))).drew = w3 at B4 K4 LE3 ⊢
  go_upto_if 61 with (fail)
  go_cut [9] (fun v wc => ∃ (A : Option Addr) (ac : Nat) (l0 : List EntryV), v = .slice A m ac ∧ m ≤ ac ∧ Hid (l0.length = m) ∧ Hid (∀ x ∈ l0, x.Small) ∧ Hid (Lies wc (fun _ => True) A (entCells l0)) ∧ Hid (Kept noBlock w wc))
  case first =>
    by_cases hm0 : 0 < m
    · have hmi : (0 : Int) < (m : Int) := by omega
      go_wp2_with (at_builtin; refine wpList_append_src rfl (.const (.slice none 0 0)) (.tmp 62) 41 41 rfl 48 noEntry.val 8 88 Try.underlying41 Try.infoEntry rfl (.slice none 0 0) 0 [] rfl (World.ownsRow_nil _ _ _ _) _ m (entCells es) rfl ?csrc ?c3 ?c4 ?_)
      case csrc => exact src_ents LE3.out HM.out
      case c3 => unfold maxLen; omega
      case c4 => omega
      intro A4 c4 w4 o4 k4 hat4
      have K4' : Hid (Kept noBlock w3 w4) := k4.mono (fun i _ h => by simp [Value.ownBlock] at h)
      have HF4 : Hid (∀ b, (Value.slice A4 m c4).ownBlock = some b → w3.heap.size ≤ b) := fun b hb => by
        rcases hat4 b hb with h | h
        · simp [Value.ownBlock] at h
        · exact h.1
      obtain ⟨j, hj⟩ : ∃ j, j = at_.toNat % m := ⟨_, rfl⟩
      have hjm : j < m := by rw [hj]; exact Nat.mod_lt _ (by omega)
      have t2 : (IntKind.i64.wrap (at_.toNat : Int)).tmod (m : Int) = (j : Int) := by rw [IntWalk.i64_in _ (by omega), hj]; exact tmod_nat _ m
      have nm : (m = 0) = False := eq_false (by omega)
      have hji : (j : Int) < (m : Int) := by omega
      obtain ⟨g, cap, hv, hcp, _⟩ := o4.form (by omega)
      obtain ⟨rfl, rfl⟩ : A4 = some ⟨g, 0, none⟩ ∧ c4 = cap := by injection hv with a b c; exact ⟨a, c⟩
      have hmc : m ≤ c4 := by obtain ⟨_, _, e, hle⟩ := own_form o4; injection e with _ _ e; omega
      obtain ⟨x0, hx0⟩ : ∃ x0, es[j]? = some x0 := ⟨_, List.getElem?_eq_getElem (by rw [HM.out]; exact hjm)⟩
      have hcl : ∀ i v, x0.cells[i]? = some v → w4.cell? ⟨g, j * 8 + i, none⟩ = some v := fun i v hv => by
        have hi : i < 8 := by have := (List.getElem?_eq_some_iff.1 hv).1; rw [ecells_length] at this; exact this
        rw [o4.cellAt (j * 8 + i) (by omega)]
        exact entCells_at es j i x0 v hx0 hv
      have d0 : w4.cell? ⟨g, j * 8, none⟩ = some (.int .i64 x0.index) := hcl 0 _ rfl
      have d1 : w4.cell? ⟨g, j * 8 + 1, none⟩ = some (.int .i64 x0.term) := hcl 1 _ rfl
      have d2 : w4.cell? ⟨g, j * 8 + 2, none⟩ = some (.int .i64 x0.cmd.op) := hcl 2 _ rfl
      have d3 : w4.cell? ⟨g, j * 8 + 3, none⟩ = some (.int .i64 x0.cmd.client) := hcl 3 _ rfl
      have d4 : w4.cell? ⟨g, j * 8 + 4, none⟩ = some (.int .i64 x0.cmd.seq) := hcl 4 _ rfl
      have d5 : w4.cell? ⟨g, j * 8 + 5, none⟩ = some (.string x0.cmd.key) := hcl 5 _ rfl
      have d6 : w4.cell? ⟨g, j * 8 + 6, none⟩ = some (.string x0.cmd.value) := hcl 6 _ rfl
      have d7 : w4.cell? ⟨g, j * 8 + 7, none⟩ = some (.string x0.cmd.old) := hcl 7 _ rfl
      have f0 : w4.frozen? ⟨g, j * 8, none⟩ = false := o4.frozenAt _
      have f1 : w4.frozen? ⟨g, j * 8 + 1, none⟩ = false := o4.frozenAt _
      have f2 : w4.frozen? ⟨g, j * 8 + 2, none⟩ = false := o4.frozenAt _
      have f3 : w4.frozen? ⟨g, j * 8 + 3, none⟩ = false := o4.frozenAt _
      have f4 : w4.frozen? ⟨g, j * 8 + 4, none⟩ = false := o4.frozenAt _
      have f5 : w4.frozen? ⟨g, j * 8 + 5, none⟩ = false := o4.frozenAt _
      have f6 : w4.frozen? ⟨g, j * 8 + 6, none⟩ = false := o4.frozenAt _
      have f7 : w4.frozen? ⟨g, j * 8 + 7, none⟩ = false := o4.frozenAt _
      have HST := Lib.hid (setEat_own o4 HM.out hjm e')
      have HKT := Lib.hid (K4'.out.trans (setEat_kept w4 g (j * 8) e') (fun i hi h => by have := HF4.out g rfl; omega))
      have HTB := Lib.hid (HKT.out.blk B4.out (fun h => h))
      have HTA := Lib.hid (K4'.out.blk B4.out (fun h => h))
      clear hcl hv hcp hj hx0 hm0 o4 k4 hat4
      go_upto_region 7 with (fail)
      refine wp_region_noPanic ?_
      refine wp_region_held_drew (S := fun w' => w'.cell? ⟨w.heap.size, 0, none⟩ = some (.int .i64 e'.index) ∧ w'.cell? ⟨w.heap.size, 1, none⟩ = some (.int .i64 e'.term) ∧ w'.cell? ⟨w.heap.size, 2, none⟩ = some (.int .i64 e'.cmd.op) ∧ w'.cell? ⟨w.heap.size, 3, none⟩ = some (.int .i64 e'.cmd.client) ∧ w'.cell? ⟨w.heap.size, 4, none⟩ = some (.int .i64 e'.cmd.seq) ∧ w'.cell? ⟨w.heap.size, 5, none⟩ = some (.string e'.cmd.key) ∧ w'.cell? ⟨w.heap.size, 6, none⟩ = some (.string e'.cmd.value) ∧ w'.cell? ⟨w.heap.size, 7, none⟩ = some (.string e'.cmd.old)) (by kernel_rfl) (turn_cells (e := e') ((Kept.drew noBlock _).blk HTA.out (fun h => h))) (fun hHeld => ?_)
      refine wpAnyH_take (i := 0) (oi := ⟨some 64, Op.move (Operand.tmp 9), 41, _, _, none⟩) (v := ?v0n2k1) rfl (by kernel_rfl) (by kernel_rfl) (by kernel_rfl) (fun _ _ _ h => h) (Or.inl ⟨by rfl, ?y0n2k1⟩) hHeld ?z0n2k1
      case y0n2k1 => intro w hSw; (try dsimp only at hSw); go_simp <;> rfl
      try simp only [Act.put, List.setIfInBounds_toArray, List.set_cons_zero, List.set_cons_succ]
      refine wpAnyH_take (i := 1) (oi := ⟨some 65, Op.move (Operand.tmp 2), 5, _, _, none⟩) (v := ?v1n2k2) rfl (by kernel_rfl) (by kernel_rfl) (by kernel_rfl) (fun _ _ _ h => h) (Or.inl ⟨by rfl, ?y1n2k2⟩) hHeld ?z1n2k2
      case y1n2k2 => intro w hSw; (try dsimp only at hSw); go_simp <;> rfl
      try simp only [Act.put, List.setIfInBounds_toArray, List.set_cons_zero, List.set_cons_succ]
      refine wpAnyH_take (i := 2) (oi := ⟨some 66, Op.convert 5 3 (Operand.tmp 65), 3, _, _, none⟩) (v := ?v2n2k3) rfl (by kernel_rfl) (by kernel_rfl) (by kernel_rfl) (fun _ _ _ h => h) (Or.inl ⟨by rfl, ?y2n2k3⟩) hHeld ?z2n2k3
      case y2n2k3 => intro w hSw; (try dsimp only at hSw); go_simp <;> rfl
      try simp only [Act.put, List.setIfInBounds_toArray, List.set_cons_zero, List.set_cons_succ]
      refine wpAnyH_take (i := 3) (oi := ⟨some 67, Op.move (Operand.tmp 9), 41, _, _, none⟩) (v := ?v3n2k4) rfl (by kernel_rfl) (by kernel_rfl) (by kernel_rfl) (fun _ _ _ h => h) (Or.inl ⟨by rfl, ?y3n2k4⟩) hHeld ?z3n2k4
      case y3n2k4 => intro w hSw; (try dsimp only at hSw); go_simp <;> rfl
      try simp only [Act.put, List.setIfInBounds_toArray, List.set_cons_zero, List.set_cons_succ]
      refine wpAnyH_take (i := 4) (oi := ⟨some 68, Op.call { callee := Callee.builtin Builtin.len, args := #[Operand.tmp 67], argTypes := #[41] }, 3, _, _, none⟩) (v := ?v4n2k5) rfl (by kernel_rfl) (by kernel_rfl) (by kernel_rfl) (fun _ _ _ h => h) (Or.inl ⟨by rfl, ?y4n2k5⟩) hHeld ?z4n2k5
      case y4n2k5 => intro w hSw; (try dsimp only at hSw); go_simp <;> rfl
      try simp only [Act.put, List.setIfInBounds_toArray, List.set_cons_zero, List.set_cons_succ]
      refine wpAnyH_take (i := 5) (oi := ⟨some 69, Op.binOp BinOp.rem 3 (Operand.tmp 66) (Operand.tmp 68) 3, 3, _, _, none⟩) (v := ?v5n2k6) rfl (by kernel_rfl) (by kernel_rfl) (by kernel_rfl) (fun _ _ _ h => h) (Or.inl ⟨by rfl, ?y5n2k6⟩) hHeld ?z5n2k6
      case y5n2k6 => intro w hSw; (try dsimp only at hSw); go_simp <;> rfl
      try simp only [Act.put, List.setIfInBounds_toArray, List.set_cons_zero, List.set_cons_succ]
      refine wpAnyH_take (i := 6) (oi := ⟨some 70, Op.load 48 (Operand.tmp 7), 48, _, _, none⟩) (v := ?v6n2k7) rfl (by kernel_rfl) (by kernel_rfl) (by kernel_rfl) (fun _ _ _ h => h) (Or.inl ⟨by rfl, ?y6n2k7⟩) hHeld ?z6n2k7
      case y6n2k7 => intro w hSw; (try dsimp only at hSw); go_simp <;> rfl
      try simp only [Act.put, List.setIfInBounds_toArray, List.set_cons_zero, List.set_cons_succ]
      refine wpAnyH_take (i := 7) (oi := ⟨some 71, Op.indexAddr 41 (Operand.tmp 64) (Operand.tmp 69), 0, _, _, none⟩) (v := ?v7n2k8) rfl (by kernel_rfl) (by kernel_rfl) (by kernel_rfl) (fun _ _ _ h => h) (Or.inl ⟨by rfl, ?y7n2k8⟩) hHeld ?z7n2k8
      case y7n2k8 => intro w hSw; (try dsimp only at hSw); go_simp <;> rfl
      try simp only [Act.put, List.setIfInBounds_toArray, List.set_cons_zero, List.set_cons_succ]
      refine wpAnyH_ready (rs := [8]) (by kernel_rfl) (by simp) ?_
      refine AllReadyH.cons (o := ⟨none, Op.store 48 (Operand.tmp 71) (Operand.tmp 70), 0, _, _, none⟩) rfl (fun K hK => ?_) AllReadyH.nil
      go_simp
      refine hK.out _ _ (turn_cells (e := e') ((Kept.drew noBlock _).blk HTB.out (fun h => h))) (fun hHeld => ?_)
      clear hK K
      try simp only [Act.put, List.setIfInBounds_toArray, List.set_cons_zero, List.set_cons_succ]
      refine wpAnyH_done (by kernel_rfl) ?_ _
      refine NoPanic.normal ?_
      go_wp2
      go_meet
      case rel => exact ⟨_, c4, es.set j e', rfl, hmc, by unfold Hid; rw [List.length_set]; exact HM.out, fun x hx => by rcases List.mem_or_eq_of_mem_set hx with h | h; exact HSMALL.out x h; rw [h]; exact SM.out, (Lies.of_rows (F := fun _ => True) HST.out (fun _ _ => trivial)).keep (Kept.drew noBlock _) (fun _ _ h => h), K4.out.step (HKT.out.step (Kept.drew _ _))⟩
    · obtain rfl : m = 0 := by omega
      go_wp2
      go_meet
      case rel => exact ⟨A2, c2, es, rfl, hc2, HM, HSMALL, LE3.out.mono (fun _ _ => trivial), K4⟩
  case rest =>
    obtain ⟨A, ac, l0, rfl, hac, HL0, HSM, LA, KA⟩ := hcut
    clear LE3 B4 K4 SM HSMALL HM BW
    have hfit : ∀ x ∈ l0, x.bytes.length ≤ 16384 := fun x hx => by have := (HSM.out x hx).len; omega
    have hsz := entsB_small HSM.out
    rw [HL0.out] at hsz
    obtain ⟨m2, hm2⟩ : ∃ m2, (fileB (f : Int) l0).length = m2 := ⟨_, rfl⟩
    have hm2b : m2 ≤ 40000 := by rw [← hm2, fileB_length]; omega
    have LP := Lib.hid (lpart_any (fun _ => True) A m ac (f : Int) l0 m2 wc LA.out HL0.out hfit hm2 (by omega) (by omega))
    have HM2 := Lib.hid hm2
    have HFIT := Lib.hid hfit
    clear hm2 hsz hfit
    go_wp2_with fail
    refine LP.out.mono ?_
    rintro e u1 ⟨P, cp, rfl, o1, k1⟩
    have hcp : m2 ≤ cp := by obtain ⟨_, _, e, hle⟩ := own_form o1; injection e with _ _ e; omega
    have KU1 := Lib.hid (KA.out.step k1)
    have LA1 := Lib.hid (LA.out.keep k1 (fun _ _ h => h))
    have RP := Lib.hid (rpart_any (fun _ => True) P m2 cp f (fileB (f : Int) l0) u1 (Lies.of_own (F := fun _ => True) o1 (fun _ _ => trivial)) HM2.out (by omega) hcp (by omega))
    clear o1 k1 LP LA KA
    go_wp2_with fail
    refine RP.out.mono ?_
    rintro e u2 ⟨xs, pk, er, A5, c5, rfl, hps, o5, k5⟩
    have hof := order_facts HFIT.out hps
    rw [HL0.out] at hof
    have KU2 := Lib.hid (KU1.out.step k5)
    have LA2 := Lib.hid (LA1.out.keep k5 (fun _ _ h => h))
    obtain ⟨xn, hxn⟩ : ∃ xn, xn = xs.length := ⟨_, rfl⟩
    rw [← hxn] at hof ⊢
    have ROW := Lib.hid (row_any (fun _ => True) A m ac ((f : Int) + 1) l0 u2 LA2.out HL0.out (by omega) (by omega))
    obtain ⟨r, hr⟩ : ∃ r, r = rowB l0 ((f : Int) + 1) 0 := ⟨_, rfl⟩
    rw [← hr] at hof ROW
    have HOF := Lib.hid hof
    clear hr hof hxn hps o5 k5 RP KU1 LA1
    go_wp2_with fail
    refine ROW.out.mono ?_
    rintro e u3 ⟨rfl, k3⟩
    have KU3 := Lib.hid (KU2.out.step k3)
    have LA3 := Lib.hid (LA2.out.keep k3 (fun _ _ h => h))
    clear k3 ROW KU2 LA2
    go_wp2_with fail
    go_loopw [14, 90] (fun b i wr => ∃ k : Nat, k ≤ m ∧ i = .int .i64 (k : Int) ∧ Hid (b = .bool (allB (l0.take k))) ∧ Hid (Kept noBlock u3 wr)) (fun _ i _ => m - (intOf i).toNat)
    case atStart => exact ⟨0, by omega, rfl, rfl, Lib.hid (Kept.refl _ _)⟩
    case round =>
      obtain ⟨k, hk, rfl, HB, HK⟩ := hrel
      obtain ⟨q, hq⟩ : ∃ q, q = allB (l0.take k) := ⟨_, rfl⟩
      have hb := HB.out
      rw [← hq] at hb
      subst hb
      have HQ := Lib.hid hq
      clear hq HB
      by_cases hlt : k < m
      · obtain ⟨x, hx⟩ : ∃ x, l0[k]? = some x := ⟨_, List.getElem?_eq_getElem (by have := HL0.out; omega)⟩
        obtain ⟨b, o, rfl, _, e⟩ := ents_cell (LA3.out.keep HK.out (fun _ _ h => h)) hx
        obtain ⟨c0, c1, c2', c3, c4, c5', c6, c7⟩ := e
        have hxs := HFIT.out x (List.mem_of_getElem? hx)
        obtain ⟨z, hz⟩ : ∃ z, x.bytes.length = z := ⟨_, rfl⟩
        rw [hz] at hxs
        have EB := Lib.hid (fun u => bytes_any x z u hz (by omega))
        have RE := Lib.hid (fun u A ac (hA : Lies u (fun _ => True) A (x.bytes.map bv)) => read_any (fun _ => True) A z ac x.bytes u hA hz (by omega))
        obtain ⟨y, hy⟩ : ∃ y, y = gotE x.bytes := ⟨_, rfl⟩
        obtain ⟨g, hg⟩ : ∃ g, g = gotB x.bytes := ⟨_, rfl⟩
        rw [← hy, ← hg] at RE
        have HQ2 : Hid (allB (l0.take (k + 1)) = (q && g)) := by unfold Hid; rw [allB_take l0 k x hx, HQ.out, hg]
        unfold EntryV.val at EB RE
        clear hx hz hy hg
        go_wp2_with fail
        refine (EB.out _).mono ?_
        rintro e v2 ⟨P9, d9, rfl, o9, k9⟩
        have K9 := Lib.hid (HK.out.step ((Kept.alloc noBlock wr _).step k9))
        have L9 := Lib.hid (Lies.of_own (F := fun _ => True) o9 (fun _ _ => trivial))
        clear o9 k9 EB c0 c1 c2' c3 c4 c5' c6 c7
        go_wp2_with fail
        refine (RE.out v2 P9 d9 L9.out).mono ?_
        rintro e v3 ⟨rfl, k10⟩
        have K10 := Lib.hid (K9.out.step k10)
        clear k10 RE L9
        go_upto_region 15 with (fail)
        have kal := Kept.alloc noBlock v3 (.cells #[.int .i64 y.index, .int .i64 y.term, .int .i64 y.cmd.op, .int .i64 y.cmd.client, .int .i64 y.cmd.seq, .string y.cmd.key, .string y.cmd.value, .string y.cmd.old] 48)
        generalize v3.alloc (.cells #[.int .i64 y.index, .int .i64 y.term, .int .i64 y.cmd.op, .int .i64 y.cmd.client, .int .i64 y.cmd.seq, .string y.cmd.key, .string y.cmd.value, .string y.cmd.old] 48) = v4 at kal ⊢
        have K11 := Lib.hid (K10.out.step kal)
        clear kal
        cases q
        · go_wp2
          go_roundw
          case rel => exact ⟨k + 1, by omega, by go_num, by unfold Hid; rw [HQ2.out]; rfl, K11⟩
          case measure => simp [intOf]; omega
        · go_wp2
          go_roundw
          case rel => exact ⟨k + 1, by omega, by go_num, by unfold Hid; rw [HQ2.out]; rfl, K11⟩
          case measure => simp [intOf]; omega
      · have he : l0.take k = l0 := List.take_of_length_le (by rw [HL0.out]; omega)
        rw [he] at HQ
        have hof := HOF.out
        rw [← HQ.out] at hof
        have KZ := Lib.hid (KU3.out.step HK.out)
        have hke : ¬ (k : Int) < (m : Int) := by omega
        clear he HQ HOF
        rcases hof with ⟨rfl, rfl, rfl⟩ | ⟨rfl, rfl⟩
        · cases r
          · go_wp2
            go_ret
            exact ⟨rfl, KZ.out⟩
          · go_wp2
            go_ret
            exact ⟨rfl, KZ.out⟩
        · cases q
          · go_wp2
            go_ret
            exact ⟨rfl, KZ.out⟩
          · go_wp2
            go_ret
            exact ⟨rfl, KZ.out⟩
end Go.Proofs.Ythmjjhjblokjeaa
