/-
  CmdsBytes: what it does with whatever entry and says. No statement is proved here.
-/
import Derived.Test.YtgffdobhdkieaaaL6Step
import Derived.Test.YtgffdobhdkieaaaL6Bytes
import Derived.Test.YtgffdobhdkieaaaL6Parts
import Derived.Test.YtgffdobhdkieaaaLate
namespace Go.Proofs.Ytgffdobhdkieaaa
open Go.RowKit

/-- A text, cut to a hundred bytes. -/
def cutTo (s : ByteArray) : ByteArray := s.extract 0 (min s.size 100)
theorem cutTo_size (s : ByteArray) : (cutTo s).size ≤ 100 := by
  unfold cutTo
  rw [ByteArray.size_extract]
  omega
theorem cut_run (w : World) (s : ByteArray) (m : Nat) (hm : m = min s.size 100) : (Instr.slice 9 (.string s) none (some (.int .i64 (m : Int))) none).run Try.prog w = .ok (.string (cutTo s)) w := by
  have := run_slice_string_h (P := Try.prog) w 9 s Try.underlying9 .i64 (m : Int) (by omega) (by omega)
  rw [this]
  unfold cutTo
  rw [hm]
  rfl
/-- Entries whose texts are short. -/
def EntryV.Small (e : EntryV) : Prop := e.cmd.key.size ≤ 100 ∧ e.cmd.value.size ≤ 100 ∧ e.cmd.old.size ≤ 100
theorem EntryV.Small.len {e : EntryV} (h : e.Small) : e.bytes.length ≤ 357 := by
  have := e.bytes_length
  obtain ⟨h1, h2, h3⟩ := h
  omega
theorem SayV.small (s : SayV) (i t : Int) : EntryV.Small ⟨i, t, s.cmd⟩ := by
  have h := s.may
  unfold CmdV.May at h
  unfold EntryV.Small
  simp only
  omega
theorem ents_small (ss : List SayV) (i t : Int) : ∀ x ∈ entsOf ss i t, x.Small := by
  induction ss generalizing i t with
  | nil => intro x hx; simp [entsOf] at hx
  | cons s r ih =>
    intro x hx
    rcases List.mem_cons.1 hx with h | h
    · rw [h]; exact s.small _ _
    · exact ih _ _ x h

/-- An entry that is written out as a row, at a step of a region that draws its order. -/
theorem step_one {w : World} {ops : Array Oper} {d v : Nat} {ty : TypeId} {pos : String} {aft : Array Edge} {act : Act} {K : Act → World → Prop} {Q : Exit → Act → World → Prop} {E : Prop} (x : EntryV) (hv : act.tmps[v]?.getD undef = x.val)
    (hK : ∀ B u, Kept noBlock w u → u.heap[B]? = some (.cells x.cells.toArray 32 (0, 0)) → K (act.put (some d) (.slice (some ⟨B, 0, none⟩) 1 1)) u) :
    if Region.wanted ⟨some d, .buildSlice 37 1 #[(0, .tmp v)], ty, pos, aft, none⟩ (yielded ops act.tmps) = true then Oper.wp Try.prog ⟨some d, .buildSlice 37 1 #[(0, .tmp v)], ty, pos, aft, none⟩ act w K Q else E := by
  rw [if_pos (by simp [Region.wanted])]
  have hk := hK w.heap.size (w.alloc (.cells x.cells.toArray 32)) (Kept.alloc _ _ _) (heap_alloc_new _ _)
  unfold EntryV.val at hv
  unfold EntryV.cells at hk
  clear hK
  go_simp
  exact hk

set_option maxRecDepth 100000 in
set_option maxHeartbeats 4000000 in
theorem bytes_walk (F : Nat → Prop) (a : Option Addr) (n c : Nat) (e0 : EntryV) (ss : List SayV) (w : World) (h : Lies w F a (sayCells ss)) (hl : ss.length = n) (hnc : n ≤ c) :
    Calls Try.prog 6 #[e0.val, .slice a n c] w fun e w' => e = .returned (.bool true) ∧ Kept noBlock w w' := by
  obtain ⟨w0, hw0⟩ : ∃ w0, w0 = w.alloc (.cells e0.cells.toArray 32) := ⟨_, rfl⟩
  have K0 : Hid (Kept noBlock w w0) := by unfold Hid; rw [hw0]; exact Kept.alloc _ _ _
  have B0 : Hid (w0.heap[w.heap.size]? = some (.cells e0.cells.toArray 32 (0, 0))) := by unfold Hid; rw [hw0]; exact heap_alloc_new w _
  obtain ⟨e', he'⟩ : ∃ e' : EntryV, e' = ⟨e0.index, e0.term, e0.cmd.op, e0.cmd.client, e0.cmd.seq, cutTo e0.cmd.key, cutTo e0.cmd.value, cutTo e0.cmd.old⟩ := ⟨_, rfl⟩
  have SM : Hid (e'.Small) := by unfold Hid; rw [he']; exact ⟨cutTo_size _, cutTo_size _, cutTo_size _⟩
  unfold EntryV.cells at hw0
  unfold EntryV.val
  obtain ⟨index, term, op, client, seq, key, value, old⟩ := e0
  simp only at he' hw0 ⊢
  obtain ⟨nk, hnk⟩ : ∃ m, m = min key.size 100 := ⟨_, rfl⟩
  obtain ⟨nv, hnv⟩ : ∃ m, m = min value.size 100 := ⟨_, rfl⟩
  obtain ⟨no, hno⟩ : ∃ m, m = min old.size 100 := ⟨_, rfl⟩
  have q1 : (if (100 : Int) < (key.size : Int) then (100 : Int) else (key.size : Int)) = (nk : Int) := by split <;> omega
  have q2 : (if (100 : Int) < (value.size : Int) then (100 : Int) else (value.size : Int)) = (nv : Int) := by split <;> omega
  have q3 : (if (100 : Int) < (old.size : Int) then (100 : Int) else (old.size : Int)) = (no : Int) := by split <;> omega
  have z1 := fun w => cut_run w key nk hnk
  have z2 := fun w => cut_run w value nv hnv
  have z3 := fun w => cut_run w old no hno
  clear hnk hnv hno
  have HE' := Lib.hid he'
  clear he'
  go_enter Try.func6, Try.ntmps6
  go_wp2_with fail
  rw [← hw0]
  clear hw0
  refine (awake_any w0).mono ?_
  rintro e w1 ⟨rfl, k1⟩
  have B1 := Lib.hid (k1.blk B0.out (fun h => h))
  have K1 := Lib.hid (K0.out.step k1)
  have H1 := Lib.hid (h.keep (K0.out.step k1) (fun _ _ h => h))
  have BS := Lib.hid K0.out.size
  have HH := Lib.hid h
  clear k1 B0 K0 h
  go_upto_region 3 with (fail)
  have d5 : w1.cell? ⟨w.heap.size, 5, none⟩ = some (.string key) := cell_of_row _ _ _ _ _ _ B1.out
  have d6 : w1.cell? ⟨w.heap.size, 6, none⟩ = some (.string value) := cell_of_row _ _ _ _ _ _ B1.out
  have d7 : w1.cell? ⟨w.heap.size, 7, none⟩ = some (.string old) := cell_of_row _ _ _ _ _ _ B1.out
  have f5 : w1.frozen? ⟨w.heap.size, 5, none⟩ = false := frozen_of_row _ _ _ _ _ B1.out
  have f6 : w1.frozen? ⟨w.heap.size, 6, none⟩ = false := frozen_of_row _ _ _ _ _ B1.out
  have f7 : w1.frozen? ⟨w.heap.size, 7, none⟩ = false := frozen_of_row _ _ _ _ _ B1.out
  refine wp_region_noPanic ?_
  refine wp_region_any_drew (by kernel_rfl) ?_
  refine wpAny_late (fun w' => w'.cell? ⟨w.heap.size, 5, none⟩ = some (.string key) ∧ w'.cell? ⟨w.heap.size, 6, none⟩ = some (.string value) ∧ w'.cell? ⟨w.heap.size, 7, none⟩ = some (.string old)) 27 ⟨d5, d6, d7⟩ (fun hHeld => ?_)
  refine wpAnyU_take (i := 0) (oi := ⟨some 12, Op.fieldAddr 32 (Operand.tmp 2) 2, 0, _, _, none⟩) (v := ?v0n7k1) rfl (by kernel_rfl) (by kernel_rfl) (by kernel_rfl) (fun _ _ _ h => h) (Or.inl ⟨by rfl, ?y0n7k1⟩) hHeld ?z0n7k1
  case y0n7k1 => intro w hSw; (try dsimp only at hSw); go_simp <;> rfl
  try simp only [Act.put, List.setIfInBounds_toArray, List.set_cons_zero, List.set_cons_succ]
  refine wpAnyU_take (i := 1) (oi := ⟨some 13, Op.fieldAddr 24 (Operand.tmp 12) 3, 0, _, _, none⟩) (v := ?v1n7k2) rfl (by kernel_rfl) (by kernel_rfl) (by kernel_rfl) (fun _ _ _ h => h) (Or.inl ⟨by rfl, ?y1n7k2⟩) hHeld ?z1n7k2
  case y1n7k2 => intro w hSw; (try dsimp only at hSw); go_simp <;> rfl
  try simp only [Act.put, List.setIfInBounds_toArray, List.set_cons_zero, List.set_cons_succ]
  refine wpAnyU_take (i := 2) (oi := ⟨some 14, Op.load 9 (Operand.tmp 13), 9, _, _, none⟩) (v := ?v2n7k3) rfl (by kernel_rfl) (by kernel_rfl) (by kernel_rfl) (fun _ _ _ h => h) (Or.inl ⟨by rfl, ?y2n7k3⟩) hHeld ?z2n7k3
  case y2n7k3 => intro w hSw; (try dsimp only at hSw); go_simp <;> rfl
  try simp only [Act.put, List.setIfInBounds_toArray, List.set_cons_zero, List.set_cons_succ]
  refine wpAnyU_take (i := 3) (oi := ⟨some 15, Op.fieldAddr 32 (Operand.tmp 2) 2, 0, _, _, none⟩) (v := ?v3n7k4) rfl (by kernel_rfl) (by kernel_rfl) (by kernel_rfl) (fun _ _ _ h => h) (Or.inl ⟨by rfl, ?y3n7k4⟩) hHeld ?z3n7k4
  case y3n7k4 => intro w hSw; (try dsimp only at hSw); go_simp <;> rfl
  try simp only [Act.put, List.setIfInBounds_toArray, List.set_cons_zero, List.set_cons_succ]
  refine wpAnyU_take (i := 4) (oi := ⟨some 16, Op.fieldAddr 24 (Operand.tmp 15) 3, 0, _, _, none⟩) (v := ?v4n7k5) rfl (by kernel_rfl) (by kernel_rfl) (by kernel_rfl) (fun _ _ _ h => h) (Or.inl ⟨by rfl, ?y4n7k5⟩) hHeld ?z4n7k5
  case y4n7k5 => intro w hSw; (try dsimp only at hSw); go_simp <;> rfl
  try simp only [Act.put, List.setIfInBounds_toArray, List.set_cons_zero, List.set_cons_succ]
  refine wpAnyU_take (i := 5) (oi := ⟨some 17, Op.load 9 (Operand.tmp 16), 9, _, _, none⟩) (v := ?v5n7k6) rfl (by kernel_rfl) (by kernel_rfl) (by kernel_rfl) (fun _ _ _ h => h) (Or.inl ⟨by rfl, ?y5n7k6⟩) hHeld ?z5n7k6
  case y5n7k6 => intro w hSw; (try dsimp only at hSw); go_simp <;> rfl
  try simp only [Act.put, List.setIfInBounds_toArray, List.set_cons_zero, List.set_cons_succ]
  refine wpAnyU_take (i := 6) (oi := ⟨some 18, Op.call { callee := Callee.builtin Builtin.len, args := #[Operand.tmp 17], argTypes := #[9] }, 3, _, _, none⟩) (v := ?v6n7k7) rfl (by kernel_rfl) (by kernel_rfl) (by kernel_rfl) (fun _ _ _ h => h) (Or.inl ⟨by rfl, ?y6n7k7⟩) hHeld ?z6n7k7
  case y6n7k7 => intro w hSw; (try dsimp only at hSw); go_simp <;> rfl
  try simp only [Act.put, List.setIfInBounds_toArray, List.set_cons_zero, List.set_cons_succ]
  refine wpAnyU_take (i := 7) (oi := ⟨some 19, Op.call { callee := Callee.builtin Builtin.min, args := #[Operand.tmp 18, Operand.const (Value.int IntKind.i64 100)], argTypes := #[3, 3] }, 3, _, _, none⟩) (v := ?v7n7k8) rfl (by kernel_rfl) (by kernel_rfl) (by kernel_rfl) (fun _ _ _ h => h) (Or.inl ⟨by rfl, ?y7n7k8⟩) hHeld ?z7n7k8
  case y7n7k8 => intro w hSw; (try dsimp only at hSw); go_simp <;> rfl
  try simp only [Act.put, List.setIfInBounds_toArray, List.set_cons_zero, List.set_cons_succ]
  refine wpAnyU_take (i := 8) (oi := ⟨some 20, Op.slice 9 (Operand.tmp 14) none (some (Operand.tmp 19)) none, 9, _, _, none⟩) (v := ?v8n7k9) rfl (by kernel_rfl) (by kernel_rfl) (by kernel_rfl) (fun _ _ _ h => h) (Or.inl ⟨by rfl, ?y8n7k9⟩) hHeld ?z8n7k9
  case y8n7k9 => intro w hSw; (try dsimp only at hSw); go_simp <;> rfl
  try simp only [Act.put, List.setIfInBounds_toArray, List.set_cons_zero, List.set_cons_succ]
  refine wpAnyU_take (i := 9) (oi := ⟨some 21, Op.fieldAddr 32 (Operand.tmp 2) 2, 0, _, _, none⟩) (v := ?v9n7k10) rfl (by kernel_rfl) (by kernel_rfl) (by kernel_rfl) (fun _ _ _ h => h) (Or.inl ⟨by rfl, ?y9n7k10⟩) hHeld ?z9n7k10
  case y9n7k10 => intro w hSw; (try dsimp only at hSw); go_simp <;> rfl
  try simp only [Act.put, List.setIfInBounds_toArray, List.set_cons_zero, List.set_cons_succ]
  refine wpAnyU_take (i := 10) (oi := ⟨some 22, Op.fieldAddr 24 (Operand.tmp 21) 4, 0, _, _, none⟩) (v := ?v10n7k11) rfl (by kernel_rfl) (by kernel_rfl) (by kernel_rfl) (fun _ _ _ h => h) (Or.inl ⟨by rfl, ?y10n7k11⟩) hHeld ?z10n7k11
  case y10n7k11 => intro w hSw; (try dsimp only at hSw); go_simp <;> rfl
  try simp only [Act.put, List.setIfInBounds_toArray, List.set_cons_zero, List.set_cons_succ]
  refine wpAnyU_take (i := 11) (oi := ⟨some 23, Op.load 9 (Operand.tmp 22), 9, _, _, none⟩) (v := ?v11n7k12) rfl (by kernel_rfl) (by kernel_rfl) (by kernel_rfl) (fun _ _ _ h => h) (Or.inl ⟨by rfl, ?y11n7k12⟩) hHeld ?z11n7k12
  case y11n7k12 => intro w hSw; (try dsimp only at hSw); go_simp <;> rfl
  try simp only [Act.put, List.setIfInBounds_toArray, List.set_cons_zero, List.set_cons_succ]
  refine wpAnyU_take (i := 12) (oi := ⟨some 24, Op.fieldAddr 32 (Operand.tmp 2) 2, 0, _, _, none⟩) (v := ?v12n7k13) rfl (by kernel_rfl) (by kernel_rfl) (by kernel_rfl) (fun _ _ _ h => h) (Or.inl ⟨by rfl, ?y12n7k13⟩) hHeld ?z12n7k13
  case y12n7k13 => intro w hSw; (try dsimp only at hSw); go_simp <;> rfl
  try simp only [Act.put, List.setIfInBounds_toArray, List.set_cons_zero, List.set_cons_succ]
  refine wpAnyU_take (i := 13) (oi := ⟨some 25, Op.fieldAddr 24 (Operand.tmp 24) 4, 0, _, _, none⟩) (v := ?v13n7k14) rfl (by kernel_rfl) (by kernel_rfl) (by kernel_rfl) (fun _ _ _ h => h) (Or.inl ⟨by rfl, ?y13n7k14⟩) hHeld ?z13n7k14
  case y13n7k14 => intro w hSw; (try dsimp only at hSw); go_simp <;> rfl
  try simp only [Act.put, List.setIfInBounds_toArray, List.set_cons_zero, List.set_cons_succ]
  refine wpAnyU_take (i := 14) (oi := ⟨some 26, Op.load 9 (Operand.tmp 25), 9, _, _, none⟩) (v := ?v14n7k15) rfl (by kernel_rfl) (by kernel_rfl) (by kernel_rfl) (fun _ _ _ h => h) (Or.inl ⟨by rfl, ?y14n7k15⟩) hHeld ?z14n7k15
  case y14n7k15 => intro w hSw; (try dsimp only at hSw); go_simp <;> rfl
  try simp only [Act.put, List.setIfInBounds_toArray, List.set_cons_zero, List.set_cons_succ]
  refine wpAnyU_take0 (i := 15) (oi := ⟨some 27, Op.call { callee := Callee.builtin Builtin.len, args := #[Operand.tmp 26], argTypes := #[9] }, 3, _, _, none⟩) (v := ?v15n7k16) rfl (by kernel_rfl) (by kernel_rfl) (by kernel_rfl) (fun _ _ _ h => h) (Or.inl ⟨by rfl, ?y15n7k16⟩) ?z15n7k16
  case y15n7k16 => intro w; go_simp <;> rfl
  try simp only [Act.put, List.setIfInBounds_toArray, List.set_cons_zero, List.set_cons_succ]
  refine wpAnyU_take0 (i := 16) (oi := ⟨some 28, Op.call { callee := Callee.builtin Builtin.min, args := #[Operand.tmp 27, Operand.const (Value.int IntKind.i64 100)], argTypes := #[3, 3] }, 3, _, _, none⟩) (v := ?v16n7k17) rfl (by kernel_rfl) (by kernel_rfl) (by kernel_rfl) (fun _ _ _ h => h) (Or.inl ⟨by rfl, ?y16n7k17⟩) ?z16n7k17
  case y16n7k17 => intro w; go_simp <;> rfl
  try simp only [Act.put, List.setIfInBounds_toArray, List.set_cons_zero, List.set_cons_succ]
  refine wpAnyU_take0 (i := 17) (oi := ⟨some 29, Op.slice 9 (Operand.tmp 23) none (some (Operand.tmp 28)) none, 9, _, _, none⟩) (v := ?v17n7k18) rfl (by kernel_rfl) (by kernel_rfl) (by kernel_rfl) (fun _ _ _ h => h) (Or.inl ⟨by rfl, ?y17n7k18⟩) ?z17n7k18
  case y17n7k18 => intro w; go_simp <;> rfl
  try simp only [Act.put, List.setIfInBounds_toArray, List.set_cons_zero, List.set_cons_succ]
  refine wpAnyU_take (i := 18) (oi := ⟨some 30, Op.fieldAddr 32 (Operand.tmp 2) 2, 0, _, _, none⟩) (v := ?v18n7k19) rfl (by kernel_rfl) (by kernel_rfl) (by kernel_rfl) (fun _ _ _ h => h) (Or.inl ⟨by rfl, ?y18n7k19⟩) hHeld ?z18n7k19
  case y18n7k19 => intro w hSw; (try dsimp only at hSw); go_simp <;> rfl
  try simp only [Act.put, List.setIfInBounds_toArray, List.set_cons_zero, List.set_cons_succ]
  refine wpAnyU_take (i := 19) (oi := ⟨some 31, Op.fieldAddr 24 (Operand.tmp 30) 5, 0, _, _, none⟩) (v := ?v19n7k20) rfl (by kernel_rfl) (by kernel_rfl) (by kernel_rfl) (fun _ _ _ h => h) (Or.inl ⟨by rfl, ?y19n7k20⟩) hHeld ?z19n7k20
  case y19n7k20 => intro w hSw; (try dsimp only at hSw); go_simp <;> rfl
  try simp only [Act.put, List.setIfInBounds_toArray, List.set_cons_zero, List.set_cons_succ]
  refine wpAnyU_take (i := 20) (oi := ⟨some 32, Op.load 9 (Operand.tmp 31), 9, _, _, none⟩) (v := ?v20n7k21) rfl (by kernel_rfl) (by kernel_rfl) (by kernel_rfl) (fun _ _ _ h => h) (Or.inl ⟨by rfl, ?y20n7k21⟩) hHeld ?z20n7k21
  case y20n7k21 => intro w hSw; (try dsimp only at hSw); go_simp <;> rfl
  try simp only [Act.put, List.setIfInBounds_toArray, List.set_cons_zero, List.set_cons_succ]
  refine wpAnyU_take (i := 21) (oi := ⟨some 33, Op.fieldAddr 32 (Operand.tmp 2) 2, 0, _, _, none⟩) (v := ?v21n7k22) rfl (by kernel_rfl) (by kernel_rfl) (by kernel_rfl) (fun _ _ _ h => h) (Or.inl ⟨by rfl, ?y21n7k22⟩) hHeld ?z21n7k22
  case y21n7k22 => intro w hSw; (try dsimp only at hSw); go_simp <;> rfl
  try simp only [Act.put, List.setIfInBounds_toArray, List.set_cons_zero, List.set_cons_succ]
  refine wpAnyU_take (i := 22) (oi := ⟨some 34, Op.fieldAddr 24 (Operand.tmp 33) 5, 0, _, _, none⟩) (v := ?v22n7k23) rfl (by kernel_rfl) (by kernel_rfl) (by kernel_rfl) (fun _ _ _ h => h) (Or.inl ⟨by rfl, ?y22n7k23⟩) hHeld ?z22n7k23
  case y22n7k23 => intro w hSw; (try dsimp only at hSw); go_simp <;> rfl
  try simp only [Act.put, List.setIfInBounds_toArray, List.set_cons_zero, List.set_cons_succ]
  refine wpAnyU_take (i := 23) (oi := ⟨some 35, Op.load 9 (Operand.tmp 34), 9, _, _, none⟩) (v := ?v23n7k24) rfl (by kernel_rfl) (by kernel_rfl) (by kernel_rfl) (fun _ _ _ h => h) (Or.inl ⟨by rfl, ?y23n7k24⟩) hHeld ?z23n7k24
  case y23n7k24 => intro w hSw; (try dsimp only at hSw); go_simp <;> rfl
  try simp only [Act.put, List.setIfInBounds_toArray, List.set_cons_zero, List.set_cons_succ]
  refine wpAnyU_take0 (i := 24) (oi := ⟨some 36, Op.call { callee := Callee.builtin Builtin.len, args := #[Operand.tmp 35], argTypes := #[9] }, 3, _, _, none⟩) (v := ?v24n7k25) rfl (by kernel_rfl) (by kernel_rfl) (by kernel_rfl) (fun _ _ _ h => h) (Or.inl ⟨by rfl, ?y24n7k25⟩) ?z24n7k25
  case y24n7k25 => intro w; go_simp <;> rfl
  try simp only [Act.put, List.setIfInBounds_toArray, List.set_cons_zero, List.set_cons_succ]
  refine wpAnyU_take0 (i := 25) (oi := ⟨some 37, Op.call { callee := Callee.builtin Builtin.min, args := #[Operand.tmp 36, Operand.const (Value.int IntKind.i64 100)], argTypes := #[3, 3] }, 3, _, _, none⟩) (v := ?v25n7k26) rfl (by kernel_rfl) (by kernel_rfl) (by kernel_rfl) (fun _ _ _ h => h) (Or.inl ⟨by rfl, ?y25n7k26⟩) ?z25n7k26
  case y25n7k26 => intro w; go_simp <;> rfl
  try simp only [Act.put, List.setIfInBounds_toArray, List.set_cons_zero, List.set_cons_succ]
  refine wpAnyU_take0 (i := 26) (oi := ⟨some 38, Op.slice 9 (Operand.tmp 32) none (some (Operand.tmp 37)) none, 9, _, _, none⟩) (v := ?v26n7k27) rfl (by kernel_rfl) (by kernel_rfl) (by kernel_rfl) (fun _ _ _ h => h) (Or.inl ⟨by rfl, ?y26n7k27⟩) ?z26n7k27
  case y26n7k27 => intro w; go_simp <;> rfl
  try simp only [Act.put, List.setIfInBounds_toArray, List.set_cons_zero, List.set_cons_succ]
  refine wpAnyU_done (by kernel_rfl) (by kernel_rfl) ?_
  simp only [List.drop_succ_cons, List.drop_zero]
  go_wp2
  refine NoPanic.normal ?_
  have B3 : Hid ((((w1.setCell ⟨w.heap.size, 5, none⟩ (.string (cutTo key))).setCell ⟨w.heap.size, 6, none⟩ (.string (cutTo value))).setCell ⟨w.heap.size, 7, none⟩ (.string (cutTo old))).heap[w.heap.size]? = some (.cells e'.cells.toArray 32 (0, 0))) := by
    unfold Hid
    have h5 := heap_setCell_same w1 w.heap.size 5 _ 32 (.string (cutTo key)) B1.out
    have h6 := heap_setCell_same _ w.heap.size 6 _ 32 (.string (cutTo value)) h5
    have h7 := heap_setCell_same _ w.heap.size 7 _ 32 (.string (cutTo old)) h6
    rw [h7, HE'.out]
    simp [EntryV.cells]
  have K3 : Hid (Kept noBlock w (((w1.setCell ⟨w.heap.size, 5, none⟩ (.string (cutTo key))).setCell ⟨w.heap.size, 6, none⟩ (.string (cutTo value))).setCell ⟨w.heap.size, 7, none⟩ (.string (cutTo old)))) :=
    K1.out.trans (((Kept.setCell (S := fun k => k = w.heap.size) w1 (p := ⟨w.heap.size, 5, none⟩) (by rfl) _).step (Kept.setCell _ (p := ⟨w.heap.size, 6, none⟩) (by rfl) _)).step (Kept.setCell _ (p := ⟨w.heap.size, 7, none⟩) (by rfl) _)) (fun i hi h => by omega)
  have B4 := Lib.hid ((Kept.drew noBlock _).blk B3.out (fun h => h))
  have K4 := Lib.hid (K3.out.step (Kept.drew noBlock _))
  clear B3 K3 d5 d6 d7 f5 f6 f7 hHeld q1 q2 q3 z1 z2 z3 B1 K1 H1 BS HE'
  generalize (((w1.setCell ⟨w.heap.size, 5, none⟩ (.string (cutTo key))).setCell ⟨w.heap.size, 6, none⟩ (.string (cutTo value))).setCell ⟨w.heap.size, 7, none⟩ (.string (cutTo old))).drew = w3 at B4 K4 ⊢
  obtain ⟨es, hes⟩ : ∃ es, es = entsOf (ss.take 80) 1 0 := ⟨_, rfl⟩
  obtain ⟨m, hm⟩ : ∃ m, es.length = m := ⟨_, rfl⟩
  have hm80 : m ≤ 80 := by rw [← hm, hes, entsOf_length, List.length_take]; omega
  have ESM : Hid (∀ x ∈ es ++ [e'], x.Small) := by
    unfold Hid
    intro x hx
    rcases List.mem_append.1 hx with h | h
    · rw [hes] at h; exact ents_small _ _ _ x h
    · obtain rfl : x = e' := by simpa using h
      exact SM.out
  have HE := Lib.hid hes
  have HM := Lib.hid hm
  obtain ⟨M, hMM⟩ : ∃ M, M = m + 1 := ⟨_, rfl⟩
  have hM81 : M ≤ 81 := by omega
  have HMM := Lib.hid hMM
  clear hes hm SM hMM
  go_upto_region 4 with (fail)
  go_cut [49, 50, 51] (fun p q r wc => ∃ (A : Option Addr) (cc : Nat), p = .slice A M cc ∧ q = .int .i64 (M : Int) ∧ r = .int .i64 0 ∧ Hid (Lies wc (fun _ => True) A (entCells (es ++ [e']))) ∧ Hid (Kept noBlock w wc))
  case first =>
    have HF : Hid (Kept noBlock w3 w3.drew) := Kept.drew _ _
    have HSS : Hid (∀ w', Kept noBlock w3 w' → w'.cell? ⟨w.heap.size, 0, none⟩ = some (.int .i64 e'.index) ∧ w'.cell? ⟨w.heap.size, 1, none⟩ = some (.int .i64 e'.term) ∧ w'.cell? ⟨w.heap.size, 2, none⟩ = some (.int .i64 e'.cmd.op) ∧ w'.cell? ⟨w.heap.size, 3, none⟩ = some (.int .i64 e'.cmd.client) ∧ w'.cell? ⟨w.heap.size, 4, none⟩ = some (.int .i64 e'.cmd.seq) ∧ w'.cell? ⟨w.heap.size, 5, none⟩ = some (.string e'.cmd.key) ∧ w'.cell? ⟨w.heap.size, 6, none⟩ = some (.string e'.cmd.value) ∧ w'.cell? ⟨w.heap.size, 7, none⟩ = some (.string e'.cmd.old)) := fun w' k => ent_cells (e := e') (k.blk B4.out (fun h => h))
    refine wp_region_noPanic ?_
    refine wp_region_held_drew (S := fun w' => w'.cell? ⟨w.heap.size, 0, none⟩ = some (.int .i64 e'.index) ∧ w'.cell? ⟨w.heap.size, 1, none⟩ = some (.int .i64 e'.term) ∧ w'.cell? ⟨w.heap.size, 2, none⟩ = some (.int .i64 e'.cmd.op) ∧ w'.cell? ⟨w.heap.size, 3, none⟩ = some (.int .i64 e'.cmd.client) ∧ w'.cell? ⟨w.heap.size, 4, none⟩ = some (.int .i64 e'.cmd.seq) ∧ w'.cell? ⟨w.heap.size, 5, none⟩ = some (.string e'.cmd.key) ∧ w'.cell? ⟨w.heap.size, 6, none⟩ = some (.string e'.cmd.value) ∧ w'.cell? ⟨w.heap.size, 7, none⟩ = some (.string e'.cmd.old)) (by kernel_rfl) (HSS.out _ (Kept.drew _ _)) (fun hHeld => ?_)
    refine wpAnyH_take (i := 0) (oi := ⟨some 45, Op.move (Operand.tmp 1), 35, _, _, none⟩) (v := ?v0n8k1) rfl (by kernel_rfl) (by kernel_rfl) (by kernel_rfl) (fun _ _ _ h => h) (Or.inl ⟨by rfl, ?y0n8k1⟩) hHeld ?z0n8k1
    case y0n8k1 => intro w hSw; (try dsimp only at hSw); go_simp <;> rfl
    try simp only [Act.put, List.setIfInBounds_toArray, List.set_cons_zero, List.set_cons_succ]
    refine wpAnyH_take (i := 2) (oi := ⟨some 47, Op.load 32 (Operand.tmp 2), 32, _, _, none⟩) (v := ?v2n8k2) rfl (by kernel_rfl) (by kernel_rfl) (by kernel_rfl) (fun _ _ _ h => h) (Or.inl ⟨by rfl, ?y2n8k2⟩) hHeld ?z2n8k2
    case y2n8k2 => intro w hSw; (try dsimp only at hSw); go_simp <;> rfl
    try simp only [Act.put, List.setIfInBounds_toArray, List.set_cons_zero, List.set_cons_succ]
    refine wpAnyH_take (i := 6) (oi := ⟨some 51, Op.move (Operand.const (Value.int IntKind.i64 0)), 3, _, _, none⟩) (v := ?v6n8k3) rfl (by kernel_rfl) (by kernel_rfl) (by kernel_rfl) (fun _ _ _ h => h) (Or.inl ⟨by rfl, ?y6n8k3⟩) hHeld ?z6n8k3
    case y6n8k3 => intro w hSw; (try dsimp only at hSw); go_simp <;> rfl
    try simp only [Act.put, List.setIfInBounds_toArray, List.set_cons_zero, List.set_cons_succ]
    refine wpAnyH_ready (rs := [1, 3]) (by kernel_rfl) (by simp) ?_
    refine (AllReadyH.cons (o := ⟨some 46, Op.call { callee := Callee.value (Operand.func 16), args := #[Operand.tmp 45, Operand.const (Value.int IntKind.i64 1), Operand.const (Value.int IntKind.i64 0)], argTypes := #[35, 3, 3] }, 37, _, _, none⟩) rfl (fun K hK => ?b1n8k5) (AllReadyH.cons (o := ⟨some 48, Op.buildSlice 37 1 #[(0, Operand.tmp 47)], 37, _, _, none⟩) rfl (fun K hK => ?b3n8k4) AllReadyH.nil))
    case b1n8k5 =>
      go_simp
      refine (ents_any F a n c 1 0 ss es _ (HH.out.keep (K4.out.step HF.out) (fun _ _ h => h)) hl hnc HE.out (by decide) (by decide) (by decide) (by decide)).mono ?_
      rw [HM.out]
      rintro e u1 ⟨A1, c1, rfl, o1, ku1⟩
      have HO := Lib.hid (own_base (base' := 0) o1 (fun _ _ => Nat.zero_le _))
      have HBD : Hid (∀ b, (Value.slice A1 m c1).ownBlock = some b → w3.heap.size ≤ b) := fun b hb => Nat.le_trans HF.out.size (o1.lt b hb).1
      first | replace HBk := Lib.hid (ku1.blk HBk.out (fun h => h)) | skip
      replace HF := Lib.hid (HF.out.step ku1)
      clear ku1 o1
      dsimp only
      refine hK.out _ _ (HSS.out _ HF.out) (fun hHeld => ?_)
      clear hK K
      try simp only [Act.put, List.setIfInBounds_toArray, List.set_cons_zero, List.set_cons_succ]
      refine wpAnyH_ready (rs := [3]) (by kernel_rfl) (by simp) ?_
      refine AllReadyH.cons (o := ⟨some 48, Op.buildSlice 37 1 #[(0, Operand.tmp 47)], 37, _, _, none⟩) rfl (fun K hK => ?_) AllReadyH.nil
      refine step_one e' rfl ?_
      intro Bk u3 ku3 hbk
      have HBk := Lib.hid hbk
      first | replace HO := Lib.hid (own_keep HO.out ku3 (fun _ _ h => h)) | skip
      replace HF := Lib.hid (HF.out.step ku3)
      clear ku3 hbk
      refine hK.out _ _ (HSS.out _ HF.out) (fun hHeld => ?_)
      clear hK K
      try simp only [Act.put, List.setIfInBounds_toArray, List.set_cons_zero, List.set_cons_succ]
      refine wpAnyH_ready (rs := [4]) (by kernel_rfl) (by simp) ?_
      refine AllReadyH.cons (o := ⟨some 49, Op.call { callee := Callee.builtin Builtin.append, args := #[Operand.tmp 46, Operand.tmp 48], argTypes := #[37, 37] }, 37, _, _, none⟩) rfl (fun K hK => ?_) AllReadyH.nil
      refine step_append_src rfl (.tmp 46) (.tmp 48) 37 37 rfl 32 noEntry.val 8 88 Try.underlying37 Try.infoEntry rfl (.slice A1 m c1) m (entCells es) rfl HO.out _ 1 (entCells [e']) rfl (src_entry e' HBk.out) (by unfold maxLen; omega) (by omega) ?_
      intro A4 c4 u4 o4 ku4 _
      have HF4 := Lib.hid (HF.out.trans ku4 (fun i hi h => by have := HBD.out i h; omega))
      have L4 : Hid (Lies u4 (fun _ => True) A4 (entCells (es ++ [e']))) := by unfold Hid; rw [entCells_append]; exact lies_own o4 (fun _ _ => trivial)
      clear ku4 o4
      refine hK.out _ _ (HSS.out _ HF4.out) (fun hHeld => ?_)
      clear hK K
      try simp only [Act.put, List.setIfInBounds_toArray, List.set_cons_zero, List.set_cons_succ]
      refine wpAnyH_take (i := 5) (oi := ⟨some 50, Op.call { callee := Callee.builtin Builtin.len, args := #[Operand.tmp 49], argTypes := #[37] }, 3, _, _, none⟩) (v := ?v5n8k6) rfl (by kernel_rfl) (by kernel_rfl) (by kernel_rfl) (fun _ _ _ h => h) (Or.inl ⟨by rfl, ?y5n8k6⟩) hHeld ?z5n8k6
      case y5n8k6 => intro w hSw; (try dsimp only at hSw); go_simp <;> rfl
      try simp only [Act.put, List.setIfInBounds_toArray, List.set_cons_zero, List.set_cons_succ]
      refine wpAnyH_done (by kernel_rfl) ?_ _
      refine NoPanic.normal ?_
      go_wp2
      go_meet
      case rel => exact ⟨A4, c4, by rw [HMM.out], by rw [HMM.out]; first | rfl | go_num, rfl, L4, Lib.hid (K4.out.step HF4.out)⟩
    case b3n8k4 =>
      refine step_one e' rfl ?_
      intro Bk u3 ku3 hbk
      have HBk := Lib.hid hbk
      first | replace HO := Lib.hid (own_keep HO.out ku3 (fun _ _ h => h)) | skip
      replace HF := Lib.hid (HF.out.step ku3)
      clear ku3 hbk
      refine hK.out _ _ (HSS.out _ HF.out) (fun hHeld => ?_)
      clear hK K
      try simp only [Act.put, List.setIfInBounds_toArray, List.set_cons_zero, List.set_cons_succ]
      refine wpAnyH_ready (rs := [1]) (by kernel_rfl) (by simp) ?_
      refine AllReadyH.cons (o := ⟨some 46, Op.call { callee := Callee.value (Operand.func 16), args := #[Operand.tmp 45, Operand.const (Value.int IntKind.i64 1), Operand.const (Value.int IntKind.i64 0)], argTypes := #[35, 3, 3] }, 37, _, _, none⟩) rfl (fun K hK => ?_) AllReadyH.nil
      go_simp
      refine (ents_any F a n c 1 0 ss es _ (HH.out.keep (K4.out.step HF.out) (fun _ _ h => h)) hl hnc HE.out (by decide) (by decide) (by decide) (by decide)).mono ?_
      rw [HM.out]
      rintro e u1 ⟨A1, c1, rfl, o1, ku1⟩
      have HO := Lib.hid (own_base (base' := 0) o1 (fun _ _ => Nat.zero_le _))
      have HBD : Hid (∀ b, (Value.slice A1 m c1).ownBlock = some b → w3.heap.size ≤ b) := fun b hb => Nat.le_trans HF.out.size (o1.lt b hb).1
      first | replace HBk := Lib.hid (ku1.blk HBk.out (fun h => h)) | skip
      replace HF := Lib.hid (HF.out.step ku1)
      clear ku1 o1
      dsimp only
      refine hK.out _ _ (HSS.out _ HF.out) (fun hHeld => ?_)
      clear hK K
      try simp only [Act.put, List.setIfInBounds_toArray, List.set_cons_zero, List.set_cons_succ]
      refine wpAnyH_ready (rs := [4]) (by kernel_rfl) (by simp) ?_
      refine AllReadyH.cons (o := ⟨some 49, Op.call { callee := Callee.builtin Builtin.append, args := #[Operand.tmp 46, Operand.tmp 48], argTypes := #[37, 37] }, 37, _, _, none⟩) rfl (fun K hK => ?_) AllReadyH.nil
      refine step_append_src rfl (.tmp 46) (.tmp 48) 37 37 rfl 32 noEntry.val 8 88 Try.underlying37 Try.infoEntry rfl (.slice A1 m c1) m (entCells es) rfl HO.out _ 1 (entCells [e']) rfl (src_entry e' HBk.out) (by unfold maxLen; omega) (by omega) ?_
      intro A4 c4 u4 o4 ku4 _
      have HF4 := Lib.hid (HF.out.trans ku4 (fun i hi h => by have := HBD.out i h; omega))
      have L4 : Hid (Lies u4 (fun _ => True) A4 (entCells (es ++ [e']))) := by unfold Hid; rw [entCells_append]; exact lies_own o4 (fun _ _ => trivial)
      clear ku4 o4
      refine hK.out _ _ (HSS.out _ HF4.out) (fun hHeld => ?_)
      clear hK K
      try simp only [Act.put, List.setIfInBounds_toArray, List.set_cons_zero, List.set_cons_succ]
      refine wpAnyH_take (i := 5) (oi := ⟨some 50, Op.call { callee := Callee.builtin Builtin.len, args := #[Operand.tmp 49], argTypes := #[37] }, 3, _, _, none⟩) (v := ?v5n8k7) rfl (by kernel_rfl) (by kernel_rfl) (by kernel_rfl) (fun _ _ _ h => h) (Or.inl ⟨by rfl, ?y5n8k7⟩) hHeld ?z5n8k7
      case y5n8k7 => intro w hSw; (try dsimp only at hSw); go_simp <;> rfl
      try simp only [Act.put, List.setIfInBounds_toArray, List.set_cons_zero, List.set_cons_succ]
      refine wpAnyH_done (by kernel_rfl) ?_ _
      refine NoPanic.normal ?_
      go_wp2
      go_meet
      case rel => exact ⟨A4, c4, by rw [HMM.out], by rw [HMM.out]; first | rfl | go_num, rfl, L4, Lib.hid (K4.out.step HF4.out)⟩
  case rest =>
    obtain ⟨A, cc, rfl, rfl, rfl, HL, HK⟩ := hcut
    clear HH K4 B4 HE
    go_wp2
    go_loopw [51] (fun v wr => ∃ (k : Nat), k ≤ M ∧ v = .int .i64 (k : Int) ∧ Hid (Kept noBlock wc wr)) (fun v _ => M - (intOf v).toNat)
    case atStart => exact ⟨0, by omega, rfl, Kept.refl _ _⟩
    case round =>
      obtain ⟨k, hk, rfl, HKr⟩ := hrel
      by_cases hlt : k < M
      · obtain ⟨x, hx⟩ : ∃ x, (es ++ [e'])[k]? = some x := ⟨_, List.getElem?_eq_getElem (by rw [List.length_append, HM.out]; have := HMM.out; simp; omega)⟩
        have hxs := ESM.out x (List.mem_of_getElem? hx)
        obtain ⟨b, o, hA, _, ea⟩ := ents_cell (HL.out.keep HKr.out (fun _ _ h => h)) hx
        subst hA
        obtain ⟨c0, c1, c2, c3, c4, c5, c6, c7⟩ := ea
        clear hx
        have hxl := hxs.len
        obtain ⟨nx, hnx⟩ : ∃ n, x.bytes.length = n := ⟨_, rfl⟩
        rw [hnx] at hxl
        have hbx := fun w => bytes_any x nx w hnx (by omega)
        have HNX := Lib.hid hnx
        unfold EntryV.val at hbx
        clear hnx hxs
        go_wp2_with fail
        refine (hbx _).mono ?_
        rintro e w2 ⟨P, cp, rfl, o2, k2⟩
        have B6 := Lib.hid (k2.blk (heap_alloc_new wr (.cells x.cells.toArray 32)) (fun h => h))
        have L2 := Lib.hid (Lies.of_own (F := fun _ => True) o2 (fun _ _ => trivial))
        have K2 := Lib.hid (HKr.out.step ((Kept.alloc noBlock wr _).step k2))
        clear o2 k2 c0 c1 c2 c3 c4 c5 c6 c7 hbx
        go_wp2_with fail
        refine (read_any (fun _ => True) P nx cp x.bytes w2 L2.out HNX.out (by omega)).mono ?_
        obtain ⟨y, hy⟩ : ∃ y, gotE x.bytes = y := ⟨_, rfl⟩
        obtain ⟨ok, hok⟩ : ∃ ok, gotB x.bytes = ok := ⟨_, rfl⟩
        rw [hy, hok]
        rintro e w4 ⟨rfl, k4⟩
        have HYE := Lib.hid hy
        have HOK := Lib.hid hok
        have B6' := Lib.hid (k4.blk B6.out (fun h => h))
        have L4 := Lib.hid (L2.out.keep k4 (fun _ _ h => h))
        have K4 := Lib.hid (K2.out.step k4)
        obtain ⟨B6n, hB6n⟩ : ∃ B, B = wr.heap.size := ⟨_, rfl⟩
        rw [← hB6n] at B6' ⊢
        clear hy hok k4 L2 K2 B6 hB6n
        unfold EntryV.val
        go_upto_region 9 with (fail)
        have B8 : Hid ((w4.alloc (.cells y.cells.toArray 32)).heap[w4.heap.size]? = some (.cells y.cells.toArray 32 (0, 0))) := heap_alloc_new w4 (.cells y.cells.toArray 32)
        have BX : Hid ((w4.alloc (.cells y.cells.toArray 32)).heap[B6n]? = some (.cells x.cells.toArray 32 (0, 0))) := (Kept.alloc noBlock w4 (.cells y.cells.toArray 32)).blk B6'.out (fun h => h)
        have K5 : Hid (Kept noBlock wc (w4.alloc (.cells y.cells.toArray 32))) := K4.out.step (Kept.alloc noBlock w4 _)
        have L5 : Hid (Lies (w4.alloc (.cells y.cells.toArray 32)) (fun _ => True) P (x.bytes.map bv)) := L4.out.keep (Kept.alloc noBlock w4 (.cells y.cells.toArray 32)) (fun _ _ h => h)
        obtain ⟨B8n, hB8n⟩ : ∃ B, B = w4.heap.size := ⟨_, rfl⟩
        have e5 : w4.alloc (.cells #[.int .i64 y.index, .int .i64 y.term, .int .i64 y.cmd.op, .int .i64 y.cmd.client, .int .i64 y.cmd.seq, .string y.cmd.key, .string y.cmd.value, .string y.cmd.old] 32) = w4.alloc (.cells y.cells.toArray 32) := rfl
        rw [e5]
        clear e5
        rw [← hB8n] at B8 ⊢
        clear hB8n B6' K4 L4
        generalize w4.alloc (.cells y.cells.toArray 32) = w5 at B8 BX K5 L5 ⊢
        obtain ⟨X, hX⟩ : ∃ X, X = str x.bytes := ⟨_, rfl⟩
        have HSS : Hid (∀ w', Kept noBlock w5 w' → w'.cell? ⟨B6n, 0, none⟩ = some (.int .i64 x.index) ∧ w'.cell? ⟨B6n, 1, none⟩ = some (.int .i64 x.term) ∧ w'.cell? ⟨B6n, 2, none⟩ = some (.int .i64 x.cmd.op) ∧ w'.cell? ⟨B6n, 3, none⟩ = some (.int .i64 x.cmd.client) ∧ w'.cell? ⟨B6n, 4, none⟩ = some (.int .i64 x.cmd.seq) ∧ w'.cell? ⟨B6n, 5, none⟩ = some (.string x.cmd.key) ∧ w'.cell? ⟨B6n, 6, none⟩ = some (.string x.cmd.value) ∧ w'.cell? ⟨B6n, 7, none⟩ = some (.string x.cmd.old) ∧ w'.cell? ⟨B8n, 0, none⟩ = some (.int .i64 y.index) ∧ w'.cell? ⟨B8n, 1, none⟩ = some (.int .i64 y.term) ∧ w'.cell? ⟨B8n, 2, none⟩ = some (.int .i64 y.cmd.op) ∧ w'.cell? ⟨B8n, 3, none⟩ = some (.int .i64 y.cmd.client) ∧ w'.cell? ⟨B8n, 4, none⟩ = some (.int .i64 y.cmd.seq) ∧ w'.cell? ⟨B8n, 5, none⟩ = some (.string y.cmd.key) ∧ w'.cell? ⟨B8n, 6, none⟩ = some (.string y.cmd.value) ∧ w'.cell? ⟨B8n, 7, none⟩ = some (.string y.cmd.old)) := fun w' k => by
          obtain ⟨a0, a1, a2, a3, a4, a5, a6, a7⟩ := ent_cells (e := x) (k.blk BX.out (fun h => h))
          obtain ⟨b0, b1, b2, b3, b4, b5, b6, b7⟩ := ent_cells (e := y) (k.blk B8.out (fun h => h))
          exact ⟨a0, a1, a2, a3, a4, a5, a6, a7, b0, b1, b2, b3, b4, b5, b6, b7⟩
        have CV : Hid (∀ w', Kept noBlock w5 w' → (∀ c, (convert 42 9 (.slice P nx c)).run Try.prog w' = .ok (.string X) w')) := fun w' kk => by
          rw [hX]
          exact fun c => run_str_lies (P := Try.prog) 42 9 5 Try.underlying42 Try.underlying5 Try.underlying9 (L5.out.keep kk (fun _ _ h => h)) HNX.out c
        have hrx := fun w => ref_bytes x w (by rw [HNX.out]; omega)
        rw [← hX] at hrx
        have hri := ref_right x
        by_cases hR : x.Right
        · rw [decide_eq_true hR] at hri
          have hyx : y = x := by rw [← HYE.out]; exact gotE_bytes hR
          have hok1 : ok = true := by rw [← HOK.out]; exact gotB_bytes hR
          have heq := fun w => entry_neq w y x
          rw [show y.same x = true by rw [hyx]; exact EntryV.same_self _] at heq
          unfold EntryV.val at heq hri hrx
          subst hok1
          clear hyx hX hR
          refine wp_region_noPanic ?_
          refine wp_region_held_drew (S := fun w' => (w'.cell? ⟨B6n, 0, none⟩ = some (.int .i64 x.index) ∧ w'.cell? ⟨B6n, 1, none⟩ = some (.int .i64 x.term) ∧ w'.cell? ⟨B6n, 2, none⟩ = some (.int .i64 x.cmd.op) ∧ w'.cell? ⟨B6n, 3, none⟩ = some (.int .i64 x.cmd.client) ∧ w'.cell? ⟨B6n, 4, none⟩ = some (.int .i64 x.cmd.seq) ∧ w'.cell? ⟨B6n, 5, none⟩ = some (.string x.cmd.key) ∧ w'.cell? ⟨B6n, 6, none⟩ = some (.string x.cmd.value) ∧ w'.cell? ⟨B6n, 7, none⟩ = some (.string x.cmd.old) ∧ w'.cell? ⟨B8n, 0, none⟩ = some (.int .i64 y.index) ∧ w'.cell? ⟨B8n, 1, none⟩ = some (.int .i64 y.term) ∧ w'.cell? ⟨B8n, 2, none⟩ = some (.int .i64 y.cmd.op) ∧ w'.cell? ⟨B8n, 3, none⟩ = some (.int .i64 y.cmd.client) ∧ w'.cell? ⟨B8n, 4, none⟩ = some (.int .i64 y.cmd.seq) ∧ w'.cell? ⟨B8n, 5, none⟩ = some (.string y.cmd.key) ∧ w'.cell? ⟨B8n, 6, none⟩ = some (.string y.cmd.value) ∧ w'.cell? ⟨B8n, 7, none⟩ = some (.string y.cmd.old)) ∧ (∀ c, (convert 42 9 (.slice P nx c)).run Try.prog w' = .ok (.string X) w')) (by kernel_rfl) ⟨HSS.out _ (Kept.drew _ _), CV.out _ (Kept.drew _ _)⟩ (fun hHeld => ?_)
          refine wpAnyH_take (i := 0) (oi := ⟨some 62, Op.move (Operand.tmp 7), 42, _, _, none⟩) (v := ?v0n9k1) rfl (by kernel_rfl) (by kernel_rfl) (by kernel_rfl) (fun _ _ _ h => h) (Or.inl ⟨by rfl, ?y0n9k1⟩) hHeld ?z0n9k1
          case y0n9k1 => intro w hSw; (try dsimp only at hSw); go_simp <;> rfl
          try simp only [Act.put, List.setIfInBounds_toArray, List.set_cons_zero, List.set_cons_succ]
          refine wpAnyH_take (i := 1) (oi := ⟨some 63, Op.convert 42 9 (Operand.tmp 62), 9, _, _, none⟩) (v := ?v1n9k2) rfl (by kernel_rfl) (by kernel_rfl) (by kernel_rfl) (fun _ _ _ h => h) (Or.inl ⟨by rfl, ?y1n9k2⟩) hHeld ?z1n9k2
          case y1n9k2 => intro w hSw; (try dsimp only at hSw); go_simp <;> rfl
          try simp only [Act.put, List.setIfInBounds_toArray, List.set_cons_zero, List.set_cons_succ]
          refine wpAnyH_take (i := 2) (oi := ⟨some 64, Op.load 32 (Operand.tmp 6), 32, _, _, none⟩) (v := ?v2n9k3) rfl (by kernel_rfl) (by kernel_rfl) (by kernel_rfl) (fun _ _ _ h => h) (Or.inl ⟨by rfl, ?y2n9k3⟩) hHeld ?z2n9k3
          case y2n9k3 => intro w hSw; (try dsimp only at hSw); go_simp <;> rfl
          try simp only [Act.put, List.setIfInBounds_toArray, List.set_cons_zero, List.set_cons_succ]
          refine wpAnyH_ready (rs := [3]) (by kernel_rfl) (by simp) ?_
          refine AllReadyH.cons (o := ⟨some 65, Op.call { callee := Callee.value (Operand.func 20), args := #[Operand.tmp 64], argTypes := #[32] }, 9, _, _, none⟩) rfl (fun K hK => ?_) AllReadyH.nil
          go_simp
          refine (hrx _).mono ?_
          rintro e v10 ⟨rfl, k10⟩
          have K10 := Lib.hid ((Kept.drew noBlock w5).step k10)
          clear k10
          dsimp only
          refine hK.out _ _ ⟨HSS.out _ K10.out, CV.out _ K10.out⟩ (fun hHeld => ?_)
          clear hK K
          try simp only [Act.put, List.setIfInBounds_toArray, List.set_cons_zero, List.set_cons_succ]
          refine wpAnyH_take (i := 4) (oi := ⟨some 66, Op.binOp BinOp.neq 9 (Operand.tmp 63) (Operand.tmp 65) 9, 4, _, _, none⟩) (v := ?v4n9k4) rfl (by kernel_rfl) (by kernel_rfl) (by kernel_rfl) (fun _ _ _ h => h) (Or.inl ⟨by rfl, ?y4n9k4⟩) hHeld ?z4n9k4
          case y4n9k4 => intro w hSw; (try dsimp only at hSw); go_simp <;> rfl
          try simp only [Act.put, List.setIfInBounds_toArray, List.set_cons_zero, List.set_cons_succ]
          refine wpAnyH_take (i := 5) (oi := ⟨some 67, Op.move (Operand.tmp 66), 4, _, _, none⟩) (v := ?v5n9k5) rfl (by kernel_rfl) (by kernel_rfl) (by kernel_rfl) (fun _ _ _ h => h) (Or.inl ⟨by rfl, ?y5n9k5⟩) hHeld ?z5n9k5
          case y5n9k5 => intro w hSw; (try dsimp only at hSw); go_simp <;> rfl
          try simp only [Act.put, List.setIfInBounds_toArray, List.set_cons_zero, List.set_cons_succ]
          refine wpAnyH_take (i := 6) (oi := ⟨some 68, Op.load 32 (Operand.tmp 6), 32, _, _, some (5, false)⟩) (v := ?v6n9k6) rfl (by kernel_rfl) (by kernel_rfl) (by kernel_rfl) (fun _ _ _ h => h) (Or.inl ⟨by rfl, ?y6n9k6⟩) hHeld ?z6n9k6
          case y6n9k6 => intro w hSw; (try dsimp only at hSw); go_simp <;> rfl
          try simp only [Act.put, List.setIfInBounds_toArray, List.set_cons_zero, List.set_cons_succ]
          refine wpAnyH_ready (rs := [7]) (by kernel_rfl) (by simp) ?_
          refine AllReadyH.cons (o := ⟨some 69, Op.call { callee := Callee.value (Operand.func 15), args := #[Operand.tmp 68], argTypes := #[32] }, 4, _, _, some (5, false)⟩) rfl (fun K hK => ?_) AllReadyH.nil
          go_simp
          refine (hri _).mono ?_
          rintro e v11 ⟨rfl, k11⟩
          have K11 := Lib.hid (K10.out.step k11)
          clear k11
          dsimp only
          refine hK.out _ _ ⟨HSS.out _ K11.out, CV.out _ K11.out⟩ (fun hHeld => ?_)
          clear hK K
          try simp only [Act.put, List.setIfInBounds_toArray, List.set_cons_zero, List.set_cons_succ]
          refine wpAnyH_take (i := 8) (oi := ⟨some 70, Op.move (Operand.tmp 69), 4, _, _, some (5, false)⟩) (v := ?v8n9k7) rfl (by kernel_rfl) (by kernel_rfl) (by kernel_rfl) (fun _ _ _ h => h) (Or.inl ⟨by rfl, ?y8n9k7⟩) hHeld ?z8n9k7
          case y8n9k7 => intro w hSw; (try dsimp only at hSw); go_simp <;> rfl
          try simp only [Act.put, List.setIfInBounds_toArray, List.set_cons_zero, List.set_cons_succ]
          refine wpAnyH_take (i := 9) (oi := ⟨some 71, Op.move (Operand.tmp 9), 4, _, _, some (8, true)⟩) (v := ?v9n9k8) rfl (by kernel_rfl) (by kernel_rfl) (by kernel_rfl) (fun _ _ _ h => h) (Or.inl ⟨by rfl, ?y9n9k8⟩) hHeld ?z9n9k8
          case y9n9k8 => intro w hSw; (try dsimp only at hSw); go_simp <;> rfl
          try simp only [Act.put, List.setIfInBounds_toArray, List.set_cons_zero, List.set_cons_succ]
          refine wpAnyH_take (i := 10) (oi := ⟨some 72, Op.unOp UnOp.not 4 (Operand.tmp 71), 4, _, _, some (8, true)⟩) (v := ?v10n9k9) rfl (by kernel_rfl) (by kernel_rfl) (by kernel_rfl) (fun _ _ _ h => h) (Or.inl ⟨by rfl, ?y10n9k9⟩) hHeld ?z10n9k9
          case y10n9k9 => intro w hSw; (try dsimp only at hSw); go_simp <;> rfl
          try simp only [Act.put, List.setIfInBounds_toArray, List.set_cons_zero, List.set_cons_succ]
          refine wpAnyH_take (i := 11) (oi := ⟨some 73, Op.move (Operand.tmp 72), 4, _, _, some (8, true)⟩) (v := ?v11n9k10) rfl (by kernel_rfl) (by kernel_rfl) (by kernel_rfl) (fun _ _ _ h => h) (Or.inl ⟨by rfl, ?y11n9k10⟩) hHeld ?z11n9k10
          case y11n9k10 => intro w hSw; (try dsimp only at hSw); go_simp <;> rfl
          try simp only [Act.put, List.setIfInBounds_toArray, List.set_cons_zero, List.set_cons_succ]
          refine wpAnyH_take (i := 12) (oi := ⟨some 74, Op.load 32 (Operand.tmp 8), 32, _, _, some (11, false)⟩) (v := ?v12n9k11) rfl (by kernel_rfl) (by kernel_rfl) (by kernel_rfl) (fun _ _ _ h => h) (Or.inl ⟨by rfl, ?y12n9k11⟩) hHeld ?z12n9k11
          case y12n9k11 => intro w hSw; (try dsimp only at hSw); go_simp <;> rfl
          try simp only [Act.put, List.setIfInBounds_toArray, List.set_cons_zero, List.set_cons_succ]
          refine wpAnyH_take (i := 13) (oi := ⟨some 75, Op.load 32 (Operand.tmp 6), 32, _, _, some (11, false)⟩) (v := ?v13n9k12) rfl (by kernel_rfl) (by kernel_rfl) (by kernel_rfl) (fun _ _ _ h => h) (Or.inl ⟨by rfl, ?y13n9k12⟩) hHeld ?z13n9k12
          case y13n9k12 => intro w hSw; (try dsimp only at hSw); go_simp <;> rfl
          try simp only [Act.put, List.setIfInBounds_toArray, List.set_cons_zero, List.set_cons_succ]
          refine wpAnyH_take (i := 14) (oi := ⟨some 76, Op.binOp BinOp.neq 32 (Operand.tmp 74) (Operand.tmp 75) 32, 4, _, _, some (11, false)⟩) (v := ?v14n9k13) rfl (by kernel_rfl) (by kernel_rfl) (by kernel_rfl) (fun _ _ _ h => h) (Or.inl ⟨by rfl, ?y14n9k13⟩) hHeld ?z14n9k13
          case y14n9k13 => intro w hSw; (try dsimp only at hSw); go_simp <;> rfl
          try simp only [Act.put, List.setIfInBounds_toArray, List.set_cons_zero, List.set_cons_succ]
          refine wpAnyH_take (i := 15) (oi := ⟨some 77, Op.pick (Operand.tmp 73) (Operand.const (Value.bool true)) (Operand.tmp 76), 4, _, _, some (8, true)⟩) (v := ?v15n9k14) rfl (by kernel_rfl) (by kernel_rfl) (by kernel_rfl) (fun _ _ _ h => h) (Or.inl ⟨by rfl, ?y15n9k14⟩) hHeld ?z15n9k14
          case y15n9k14 => intro w hSw; (try dsimp only at hSw); go_simp <;> rfl
          try simp only [Act.put, List.setIfInBounds_toArray, List.set_cons_zero, List.set_cons_succ]
          refine wpAnyH_take (i := 16) (oi := ⟨some 78, Op.pick (Operand.tmp 70) (Operand.tmp 77) (Operand.const (Value.bool false)), 4, _, _, some (5, false)⟩) (v := ?v16n9k15) rfl (by kernel_rfl) (by kernel_rfl) (by kernel_rfl) (fun _ _ _ h => h) (Or.inl ⟨by rfl, ?y16n9k15⟩) hHeld ?z16n9k15
          case y16n9k15 => intro w hSw; (try dsimp only at hSw); go_simp <;> rfl
          try simp only [Act.put, List.setIfInBounds_toArray, List.set_cons_zero, List.set_cons_succ]
          refine wpAnyH_take (i := 17) (oi := ⟨some 79, Op.pick (Operand.tmp 67) (Operand.const (Value.bool true)) (Operand.tmp 78), 4, _, _, none⟩) (v := ?v17n9k16) rfl (by kernel_rfl) (by kernel_rfl) (by kernel_rfl) (fun _ _ _ h => h) (Or.inl ⟨by rfl, ?y17n9k16⟩) hHeld ?z17n9k16
          case y17n9k16 => intro w hSw; (try dsimp only at hSw); go_simp <;> rfl
          try simp only [Act.put, List.setIfInBounds_toArray, List.set_cons_zero, List.set_cons_succ]
          refine wpAnyH_take (i := 18) (oi := ⟨some 80, Op.move (Operand.tmp 79), 4, _, _, none⟩) (v := ?v18n9k17) rfl (by kernel_rfl) (by kernel_rfl) (by kernel_rfl) (fun _ _ _ h => h) (Or.inl ⟨by rfl, ?y18n9k17⟩) hHeld ?z18n9k17
          case y18n9k17 => intro w hSw; (try dsimp only at hSw); go_simp <;> rfl
          try simp only [Act.put, List.setIfInBounds_toArray, List.set_cons_zero, List.set_cons_succ]
          refine wpAnyH_take (i := 19) (oi := ⟨some 81, Op.load 32 (Operand.tmp 6), 32, _, _, some (18, false)⟩) (v := ?v19n9k18) rfl (by kernel_rfl) (by kernel_rfl) (by kernel_rfl) (fun _ _ _ h => h) (Or.inl ⟨by rfl, ?y19n9k18⟩) hHeld ?z19n9k18
          case y19n9k18 => intro w hSw; (try dsimp only at hSw); go_simp <;> rfl
          try simp only [Act.put, List.setIfInBounds_toArray, List.set_cons_zero, List.set_cons_succ]
          refine wpAnyH_ready (rs := [20]) (by kernel_rfl) (by simp) ?_
          refine AllReadyH.cons (o := ⟨some 82, Op.call { callee := Callee.value (Operand.func 15), args := #[Operand.tmp 81], argTypes := #[32] }, 4, _, _, some (18, false)⟩) rfl (fun K hK => ?_) AllReadyH.nil
          go_simp
          refine (hri _).mono ?_
          rintro e v12 ⟨rfl, k12⟩
          have K12 := Lib.hid (K11.out.step k12)
          clear k12
          dsimp only
          refine hK.out _ _ ⟨HSS.out _ K12.out, CV.out _ K12.out⟩ (fun hHeld => ?_)
          clear hK K
          try simp only [Act.put, List.setIfInBounds_toArray, List.set_cons_zero, List.set_cons_succ]
          refine wpAnyH_take (i := 21) (oi := ⟨some 83, Op.unOp UnOp.not 4 (Operand.tmp 82), 4, _, _, some (18, false)⟩) (v := ?v21n9k19) rfl (by kernel_rfl) (by kernel_rfl) (by kernel_rfl) (fun _ _ _ h => h) (Or.inl ⟨by rfl, ?y21n9k19⟩) hHeld ?z21n9k19
          case y21n9k19 => intro w hSw; (try dsimp only at hSw); go_simp <;> rfl
          try simp only [Act.put, List.setIfInBounds_toArray, List.set_cons_zero, List.set_cons_succ]
          refine wpAnyH_take (i := 22) (oi := ⟨some 84, Op.move (Operand.tmp 83), 4, _, _, some (18, false)⟩) (v := ?v22n9k20) rfl (by kernel_rfl) (by kernel_rfl) (by kernel_rfl) (fun _ _ _ h => h) (Or.inl ⟨by rfl, ?y22n9k20⟩) hHeld ?z22n9k20
          case y22n9k20 => intro w hSw; (try dsimp only at hSw); go_simp <;> rfl
          try simp only [Act.put, List.setIfInBounds_toArray, List.set_cons_zero, List.set_cons_succ]
          refine wpAnyH_take (i := 23) (oi := ⟨some 85, Op.move (Operand.tmp 9), 4, _, _, some (22, true)⟩) (v := undef) rfl (by kernel_rfl) (by kernel_rfl) (by kernel_rfl) (fun _ _ _ h => h) (Or.inr ⟨by rfl, rfl⟩) hHeld ?z23n9k21
          try simp only [Act.put, List.setIfInBounds_toArray, List.set_cons_zero, List.set_cons_succ]
          refine wpAnyH_take (i := 24) (oi := ⟨some 86, Op.pick (Operand.tmp 84) (Operand.tmp 85) (Operand.const (Value.bool false)), 4, _, _, some (18, false)⟩) (v := ?v24n9k22) rfl (by kernel_rfl) (by kernel_rfl) (by kernel_rfl) (fun _ _ _ h => h) (Or.inl ⟨by rfl, ?y24n9k22⟩) hHeld ?z24n9k22
          case y24n9k22 => intro w hSw; (try dsimp only at hSw); go_simp <;> rfl
          try simp only [Act.put, List.setIfInBounds_toArray, List.set_cons_zero, List.set_cons_succ]
          refine wpAnyH_take (i := 25) (oi := ⟨some 87, Op.move (Operand.tmp 86), 4, _, _, some (18, false)⟩) (v := ?v25n9k23) rfl (by kernel_rfl) (by kernel_rfl) (by kernel_rfl) (fun _ _ _ h => h) (Or.inl ⟨by rfl, ?y25n9k23⟩) hHeld ?z25n9k23
          case y25n9k23 => intro w hSw; (try dsimp only at hSw); go_simp <;> rfl
          try simp only [Act.put, List.setIfInBounds_toArray, List.set_cons_zero, List.set_cons_succ]
          refine wpAnyH_take (i := 26) (oi := ⟨some 88, Op.load 32 (Operand.tmp 8), 32, _, _, some (25, true)⟩) (v := undef) rfl (by kernel_rfl) (by kernel_rfl) (by kernel_rfl) (fun _ _ _ h => h) (Or.inr ⟨by rfl, rfl⟩) hHeld ?z26n9k24
          try simp only [Act.put, List.setIfInBounds_toArray, List.set_cons_zero, List.set_cons_succ]
          refine wpAnyH_take (i := 27) (oi := ⟨some 89, Op.call { callee := Callee.value (Operand.func 20), args := #[Operand.tmp 88], argTypes := #[32] }, 9, _, _, some (25, true)⟩) (v := undef) rfl (by kernel_rfl) (by kernel_rfl) (by kernel_rfl) (fun _ _ _ h => h) (Or.inr ⟨by rfl, rfl⟩) hHeld ?z27n9k25
          try simp only [Act.put, List.setIfInBounds_toArray, List.set_cons_zero, List.set_cons_succ]
          refine wpAnyH_take (i := 28) (oi := ⟨some 90, Op.move (Operand.tmp 7), 42, _, _, some (25, true)⟩) (v := undef) rfl (by kernel_rfl) (by kernel_rfl) (by kernel_rfl) (fun _ _ _ h => h) (Or.inr ⟨by rfl, rfl⟩) hHeld ?z28n9k26
          try simp only [Act.put, List.setIfInBounds_toArray, List.set_cons_zero, List.set_cons_succ]
          refine wpAnyH_take (i := 29) (oi := ⟨some 91, Op.convert 42 9 (Operand.tmp 90), 9, _, _, some (25, true)⟩) (v := undef) rfl (by kernel_rfl) (by kernel_rfl) (by kernel_rfl) (fun _ _ _ h => h) (Or.inr ⟨by rfl, rfl⟩) hHeld ?z29n9k27
          try simp only [Act.put, List.setIfInBounds_toArray, List.set_cons_zero, List.set_cons_succ]
          refine wpAnyH_take (i := 30) (oi := ⟨some 92, Op.binOp BinOp.neq 9 (Operand.tmp 89) (Operand.tmp 91) 9, 4, _, _, some (25, true)⟩) (v := undef) rfl (by kernel_rfl) (by kernel_rfl) (by kernel_rfl) (fun _ _ _ h => h) (Or.inr ⟨by rfl, rfl⟩) hHeld ?z30n9k28
          try simp only [Act.put, List.setIfInBounds_toArray, List.set_cons_zero, List.set_cons_succ]
          refine wpAnyH_take (i := 31) (oi := ⟨some 93, Op.pick (Operand.tmp 87) (Operand.tmp 92) (Operand.const (Value.bool false)), 4, _, _, some (18, false)⟩) (v := ?v31n9k29) rfl (by kernel_rfl) (by kernel_rfl) (by kernel_rfl) (fun _ _ _ h => h) (Or.inl ⟨by rfl, ?y31n9k29⟩) hHeld ?z31n9k29
          case y31n9k29 => intro w hSw; (try dsimp only at hSw); go_simp <;> rfl
          try simp only [Act.put, List.setIfInBounds_toArray, List.set_cons_zero, List.set_cons_succ]
          refine wpAnyH_take (i := 32) (oi := ⟨some 94, Op.pick (Operand.tmp 80) (Operand.const (Value.bool true)) (Operand.tmp 93), 4, _, _, none⟩) (v := ?v32n9k30) rfl (by kernel_rfl) (by kernel_rfl) (by kernel_rfl) (fun _ _ _ h => h) (Or.inl ⟨by rfl, ?y32n9k30⟩) hHeld ?z32n9k30
          case y32n9k30 => intro w hSw; (try dsimp only at hSw); go_simp <;> rfl
          try simp only [Act.put, List.setIfInBounds_toArray, List.set_cons_zero, List.set_cons_succ]
          refine wpAnyH_take (i := 33) (oi := ⟨some 95, Op.move (Operand.tmp 94), 4, _, _, none⟩) (v := ?v33n9k31) rfl (by kernel_rfl) (by kernel_rfl) (by kernel_rfl) (fun _ _ _ h => h) (Or.inl ⟨by rfl, ?y33n9k31⟩) hHeld ?z33n9k31
          case y33n9k31 => intro w hSw; (try dsimp only at hSw); go_simp <;> rfl
          try simp only [Act.put, List.setIfInBounds_toArray, List.set_cons_zero, List.set_cons_succ]
          refine wpAnyH_take (i := 34) (oi := ⟨some 96, Op.move (Operand.tmp 9), 4, _, _, some (33, false)⟩) (v := ?v34n9k32) rfl (by kernel_rfl) (by kernel_rfl) (by kernel_rfl) (fun _ _ _ h => h) (Or.inl ⟨by rfl, ?y34n9k32⟩) hHeld ?z34n9k32
          case y34n9k32 => intro w hSw; (try dsimp only at hSw); go_simp <;> rfl
          try simp only [Act.put, List.setIfInBounds_toArray, List.set_cons_zero, List.set_cons_succ]
          refine wpAnyH_take (i := 35) (oi := ⟨some 97, Op.unOp UnOp.not 4 (Operand.tmp 96), 4, _, _, some (33, false)⟩) (v := ?v35n9k33) rfl (by kernel_rfl) (by kernel_rfl) (by kernel_rfl) (fun _ _ _ h => h) (Or.inl ⟨by rfl, ?y35n9k33⟩) hHeld ?z35n9k33
          case y35n9k33 => intro w hSw; (try dsimp only at hSw); go_simp <;> rfl
          try simp only [Act.put, List.setIfInBounds_toArray, List.set_cons_zero, List.set_cons_succ]
          refine wpAnyH_take (i := 36) (oi := ⟨some 98, Op.move (Operand.tmp 97), 4, _, _, some (33, false)⟩) (v := ?v36n9k34) rfl (by kernel_rfl) (by kernel_rfl) (by kernel_rfl) (fun _ _ _ h => h) (Or.inl ⟨by rfl, ?y36n9k34⟩) hHeld ?z36n9k34
          case y36n9k34 => intro w hSw; (try dsimp only at hSw); go_simp <;> rfl
          try simp only [Act.put, List.setIfInBounds_toArray, List.set_cons_zero, List.set_cons_succ]
          refine wpAnyH_take (i := 37) (oi := ⟨some 99, Op.load 32 (Operand.tmp 8), 32, _, _, some (36, true)⟩) (v := undef) rfl (by kernel_rfl) (by kernel_rfl) (by kernel_rfl) (fun _ _ _ h => h) (Or.inr ⟨by rfl, rfl⟩) hHeld ?z37n9k35
          try simp only [Act.put, List.setIfInBounds_toArray, List.set_cons_zero, List.set_cons_succ]
          refine wpAnyH_take (i := 38) (oi := ⟨some 100, Op.build 32 #[], 32, _, _, some (36, true)⟩) (v := undef) rfl (by kernel_rfl) (by kernel_rfl) (by kernel_rfl) (fun _ _ _ h => h) (Or.inr ⟨by rfl, rfl⟩) hHeld ?z38n9k36
          try simp only [Act.put, List.setIfInBounds_toArray, List.set_cons_zero, List.set_cons_succ]
          refine wpAnyH_take (i := 39) (oi := ⟨some 101, Op.binOp BinOp.neq 32 (Operand.tmp 99) (Operand.tmp 100) 32, 4, _, _, some (36, true)⟩) (v := undef) rfl (by kernel_rfl) (by kernel_rfl) (by kernel_rfl) (fun _ _ _ h => h) (Or.inr ⟨by rfl, rfl⟩) hHeld ?z39n9k37
          try simp only [Act.put, List.setIfInBounds_toArray, List.set_cons_zero, List.set_cons_succ]
          refine wpAnyH_take (i := 40) (oi := ⟨some 102, Op.pick (Operand.tmp 98) (Operand.tmp 101) (Operand.const (Value.bool false)), 4, _, _, some (33, false)⟩) (v := ?v40n9k38) rfl (by kernel_rfl) (by kernel_rfl) (by kernel_rfl) (fun _ _ _ h => h) (Or.inl ⟨by rfl, ?y40n9k38⟩) hHeld ?z40n9k38
          case y40n9k38 => intro w hSw; (try dsimp only at hSw); go_simp <;> rfl
          try simp only [Act.put, List.setIfInBounds_toArray, List.set_cons_zero, List.set_cons_succ]
          refine wpAnyH_take (i := 41) (oi := ⟨some 103, Op.pick (Operand.tmp 95) (Operand.const (Value.bool true)) (Operand.tmp 102), 4, _, _, none⟩) (v := ?v41n9k39) rfl (by kernel_rfl) (by kernel_rfl) (by kernel_rfl) (fun _ _ _ h => h) (Or.inl ⟨by rfl, ?y41n9k39⟩) hHeld ?z41n9k39
          case y41n9k39 => intro w hSw; (try dsimp only at hSw); go_simp <;> rfl
          try simp only [Act.put, List.setIfInBounds_toArray, List.set_cons_zero, List.set_cons_succ]
          refine wpAnyH_done (by kernel_rfl) ?_ _
          refine NoPanic.normal ?_
          go_wp2
          go_roundw
          case rel => exact ⟨k + 1, by omega, by go_num, Lib.hid (K5.out.step K12.out)⟩
          case measure => simp [intOf]; omega
        · rw [decide_eq_false hR] at hri
          cases ok
          · have hy0 : y = noEntry := by rw [← HYE.out]; exact gotB_none HOK.out
            have heq := fun w => entry_neq w y noEntry
            rw [show y.same noEntry = true by rw [hy0]; exact EntryV.same_self _] at heq
            unfold EntryV.val at heq hri hrx
            unfold noEntry noCmd at heq
            clear hy0 hX hR
            refine wp_region_noPanic ?_
            refine wp_region_held_drew (S := fun w' => (w'.cell? ⟨B6n, 0, none⟩ = some (.int .i64 x.index) ∧ w'.cell? ⟨B6n, 1, none⟩ = some (.int .i64 x.term) ∧ w'.cell? ⟨B6n, 2, none⟩ = some (.int .i64 x.cmd.op) ∧ w'.cell? ⟨B6n, 3, none⟩ = some (.int .i64 x.cmd.client) ∧ w'.cell? ⟨B6n, 4, none⟩ = some (.int .i64 x.cmd.seq) ∧ w'.cell? ⟨B6n, 5, none⟩ = some (.string x.cmd.key) ∧ w'.cell? ⟨B6n, 6, none⟩ = some (.string x.cmd.value) ∧ w'.cell? ⟨B6n, 7, none⟩ = some (.string x.cmd.old) ∧ w'.cell? ⟨B8n, 0, none⟩ = some (.int .i64 y.index) ∧ w'.cell? ⟨B8n, 1, none⟩ = some (.int .i64 y.term) ∧ w'.cell? ⟨B8n, 2, none⟩ = some (.int .i64 y.cmd.op) ∧ w'.cell? ⟨B8n, 3, none⟩ = some (.int .i64 y.cmd.client) ∧ w'.cell? ⟨B8n, 4, none⟩ = some (.int .i64 y.cmd.seq) ∧ w'.cell? ⟨B8n, 5, none⟩ = some (.string y.cmd.key) ∧ w'.cell? ⟨B8n, 6, none⟩ = some (.string y.cmd.value) ∧ w'.cell? ⟨B8n, 7, none⟩ = some (.string y.cmd.old)) ∧ (∀ c, (convert 42 9 (.slice P nx c)).run Try.prog w' = .ok (.string X) w')) (by kernel_rfl) ⟨HSS.out _ (Kept.drew _ _), CV.out _ (Kept.drew _ _)⟩ (fun hHeld => ?_)
            refine wpAnyH_take (i := 0) (oi := ⟨some 62, Op.move (Operand.tmp 7), 42, _, _, none⟩) (v := ?v0n10k1) rfl (by kernel_rfl) (by kernel_rfl) (by kernel_rfl) (fun _ _ _ h => h) (Or.inl ⟨by rfl, ?y0n10k1⟩) hHeld ?z0n10k1
            case y0n10k1 => intro w hSw; (try dsimp only at hSw); go_simp <;> rfl
            try simp only [Act.put, List.setIfInBounds_toArray, List.set_cons_zero, List.set_cons_succ]
            refine wpAnyH_take (i := 1) (oi := ⟨some 63, Op.convert 42 9 (Operand.tmp 62), 9, _, _, none⟩) (v := ?v1n10k2) rfl (by kernel_rfl) (by kernel_rfl) (by kernel_rfl) (fun _ _ _ h => h) (Or.inl ⟨by rfl, ?y1n10k2⟩) hHeld ?z1n10k2
            case y1n10k2 => intro w hSw; (try dsimp only at hSw); go_simp <;> rfl
            try simp only [Act.put, List.setIfInBounds_toArray, List.set_cons_zero, List.set_cons_succ]
            refine wpAnyH_take (i := 2) (oi := ⟨some 64, Op.load 32 (Operand.tmp 6), 32, _, _, none⟩) (v := ?v2n10k3) rfl (by kernel_rfl) (by kernel_rfl) (by kernel_rfl) (fun _ _ _ h => h) (Or.inl ⟨by rfl, ?y2n10k3⟩) hHeld ?z2n10k3
            case y2n10k3 => intro w hSw; (try dsimp only at hSw); go_simp <;> rfl
            try simp only [Act.put, List.setIfInBounds_toArray, List.set_cons_zero, List.set_cons_succ]
            refine wpAnyH_ready (rs := [3]) (by kernel_rfl) (by simp) ?_
            refine AllReadyH.cons (o := ⟨some 65, Op.call { callee := Callee.value (Operand.func 20), args := #[Operand.tmp 64], argTypes := #[32] }, 9, _, _, none⟩) rfl (fun K hK => ?_) AllReadyH.nil
            go_simp
            refine (hrx _).mono ?_
            rintro e v10 ⟨rfl, k10⟩
            have K10 := Lib.hid ((Kept.drew noBlock w5).step k10)
            clear k10
            dsimp only
            refine hK.out _ _ ⟨HSS.out _ K10.out, CV.out _ K10.out⟩ (fun hHeld => ?_)
            clear hK K
            try simp only [Act.put, List.setIfInBounds_toArray, List.set_cons_zero, List.set_cons_succ]
            refine wpAnyH_take (i := 4) (oi := ⟨some 66, Op.binOp BinOp.neq 9 (Operand.tmp 63) (Operand.tmp 65) 9, 4, _, _, none⟩) (v := ?v4n10k4) rfl (by kernel_rfl) (by kernel_rfl) (by kernel_rfl) (fun _ _ _ h => h) (Or.inl ⟨by rfl, ?y4n10k4⟩) hHeld ?z4n10k4
            case y4n10k4 => intro w hSw; (try dsimp only at hSw); go_simp <;> rfl
            try simp only [Act.put, List.setIfInBounds_toArray, List.set_cons_zero, List.set_cons_succ]
            refine wpAnyH_take (i := 5) (oi := ⟨some 67, Op.move (Operand.tmp 66), 4, _, _, none⟩) (v := ?v5n10k5) rfl (by kernel_rfl) (by kernel_rfl) (by kernel_rfl) (fun _ _ _ h => h) (Or.inl ⟨by rfl, ?y5n10k5⟩) hHeld ?z5n10k5
            case y5n10k5 => intro w hSw; (try dsimp only at hSw); go_simp <;> rfl
            try simp only [Act.put, List.setIfInBounds_toArray, List.set_cons_zero, List.set_cons_succ]
            refine wpAnyH_take (i := 6) (oi := ⟨some 68, Op.load 32 (Operand.tmp 6), 32, _, _, some (5, false)⟩) (v := ?v6n10k6) rfl (by kernel_rfl) (by kernel_rfl) (by kernel_rfl) (fun _ _ _ h => h) (Or.inl ⟨by rfl, ?y6n10k6⟩) hHeld ?z6n10k6
            case y6n10k6 => intro w hSw; (try dsimp only at hSw); go_simp <;> rfl
            try simp only [Act.put, List.setIfInBounds_toArray, List.set_cons_zero, List.set_cons_succ]
            refine wpAnyH_ready (rs := [7]) (by kernel_rfl) (by simp) ?_
            refine AllReadyH.cons (o := ⟨some 69, Op.call { callee := Callee.value (Operand.func 15), args := #[Operand.tmp 68], argTypes := #[32] }, 4, _, _, some (5, false)⟩) rfl (fun K hK => ?_) AllReadyH.nil
            go_simp
            refine (hri _).mono ?_
            rintro e v11 ⟨rfl, k11⟩
            have K11 := Lib.hid (K10.out.step k11)
            clear k11
            dsimp only
            refine hK.out _ _ ⟨HSS.out _ K11.out, CV.out _ K11.out⟩ (fun hHeld => ?_)
            clear hK K
            try simp only [Act.put, List.setIfInBounds_toArray, List.set_cons_zero, List.set_cons_succ]
            refine wpAnyH_take (i := 8) (oi := ⟨some 70, Op.move (Operand.tmp 69), 4, _, _, some (5, false)⟩) (v := ?v8n10k7) rfl (by kernel_rfl) (by kernel_rfl) (by kernel_rfl) (fun _ _ _ h => h) (Or.inl ⟨by rfl, ?y8n10k7⟩) hHeld ?z8n10k7
            case y8n10k7 => intro w hSw; (try dsimp only at hSw); go_simp <;> rfl
            try simp only [Act.put, List.setIfInBounds_toArray, List.set_cons_zero, List.set_cons_succ]
            refine wpAnyH_take (i := 9) (oi := ⟨some 71, Op.move (Operand.tmp 9), 4, _, _, some (8, true)⟩) (v := undef) rfl (by kernel_rfl) (by kernel_rfl) (by kernel_rfl) (fun _ _ _ h => h) (Or.inr ⟨by rfl, rfl⟩) hHeld ?z9n10k8
            try simp only [Act.put, List.setIfInBounds_toArray, List.set_cons_zero, List.set_cons_succ]
            refine wpAnyH_take (i := 10) (oi := ⟨some 72, Op.unOp UnOp.not 4 (Operand.tmp 71), 4, _, _, some (8, true)⟩) (v := undef) rfl (by kernel_rfl) (by kernel_rfl) (by kernel_rfl) (fun _ _ _ h => h) (Or.inr ⟨by rfl, rfl⟩) hHeld ?z10n10k9
            try simp only [Act.put, List.setIfInBounds_toArray, List.set_cons_zero, List.set_cons_succ]
            refine wpAnyH_take (i := 11) (oi := ⟨some 73, Op.move (Operand.tmp 72), 4, _, _, some (8, true)⟩) (v := undef) rfl (by kernel_rfl) (by kernel_rfl) (by kernel_rfl) (fun _ _ _ h => h) (Or.inr ⟨by rfl, rfl⟩) hHeld ?z11n10k10
            try simp only [Act.put, List.setIfInBounds_toArray, List.set_cons_zero, List.set_cons_succ]
            refine wpAnyH_take (i := 12) (oi := ⟨some 74, Op.load 32 (Operand.tmp 8), 32, _, _, some (11, false)⟩) (v := undef) rfl (by kernel_rfl) (by kernel_rfl) (by kernel_rfl) (fun _ _ _ h => h) (Or.inr ⟨by rfl, rfl⟩) hHeld ?z12n10k11
            try simp only [Act.put, List.setIfInBounds_toArray, List.set_cons_zero, List.set_cons_succ]
            refine wpAnyH_take (i := 13) (oi := ⟨some 75, Op.load 32 (Operand.tmp 6), 32, _, _, some (11, false)⟩) (v := undef) rfl (by kernel_rfl) (by kernel_rfl) (by kernel_rfl) (fun _ _ _ h => h) (Or.inr ⟨by rfl, rfl⟩) hHeld ?z13n10k12
            try simp only [Act.put, List.setIfInBounds_toArray, List.set_cons_zero, List.set_cons_succ]
            refine wpAnyH_take (i := 14) (oi := ⟨some 76, Op.binOp BinOp.neq 32 (Operand.tmp 74) (Operand.tmp 75) 32, 4, _, _, some (11, false)⟩) (v := undef) rfl (by kernel_rfl) (by kernel_rfl) (by kernel_rfl) (fun _ _ _ h => h) (Or.inr ⟨by rfl, rfl⟩) hHeld ?z14n10k13
            try simp only [Act.put, List.setIfInBounds_toArray, List.set_cons_zero, List.set_cons_succ]
            refine wpAnyH_take (i := 15) (oi := ⟨some 77, Op.pick (Operand.tmp 73) (Operand.const (Value.bool true)) (Operand.tmp 76), 4, _, _, some (8, true)⟩) (v := undef) rfl (by kernel_rfl) (by kernel_rfl) (by kernel_rfl) (fun _ _ _ h => h) (Or.inr ⟨by rfl, rfl⟩) hHeld ?z15n10k14
            try simp only [Act.put, List.setIfInBounds_toArray, List.set_cons_zero, List.set_cons_succ]
            refine wpAnyH_take (i := 16) (oi := ⟨some 78, Op.pick (Operand.tmp 70) (Operand.tmp 77) (Operand.const (Value.bool false)), 4, _, _, some (5, false)⟩) (v := ?v16n10k15) rfl (by kernel_rfl) (by kernel_rfl) (by kernel_rfl) (fun _ _ _ h => h) (Or.inl ⟨by rfl, ?y16n10k15⟩) hHeld ?z16n10k15
            case y16n10k15 => intro w hSw; (try dsimp only at hSw); go_simp <;> rfl
            try simp only [Act.put, List.setIfInBounds_toArray, List.set_cons_zero, List.set_cons_succ]
            refine wpAnyH_take (i := 17) (oi := ⟨some 79, Op.pick (Operand.tmp 67) (Operand.const (Value.bool true)) (Operand.tmp 78), 4, _, _, none⟩) (v := ?v17n10k16) rfl (by kernel_rfl) (by kernel_rfl) (by kernel_rfl) (fun _ _ _ h => h) (Or.inl ⟨by rfl, ?y17n10k16⟩) hHeld ?z17n10k16
            case y17n10k16 => intro w hSw; (try dsimp only at hSw); go_simp <;> rfl
            try simp only [Act.put, List.setIfInBounds_toArray, List.set_cons_zero, List.set_cons_succ]
            refine wpAnyH_take (i := 18) (oi := ⟨some 80, Op.move (Operand.tmp 79), 4, _, _, none⟩) (v := ?v18n10k17) rfl (by kernel_rfl) (by kernel_rfl) (by kernel_rfl) (fun _ _ _ h => h) (Or.inl ⟨by rfl, ?y18n10k17⟩) hHeld ?z18n10k17
            case y18n10k17 => intro w hSw; (try dsimp only at hSw); go_simp <;> rfl
            try simp only [Act.put, List.setIfInBounds_toArray, List.set_cons_zero, List.set_cons_succ]
            refine wpAnyH_take (i := 19) (oi := ⟨some 81, Op.load 32 (Operand.tmp 6), 32, _, _, some (18, false)⟩) (v := ?v19n10k18) rfl (by kernel_rfl) (by kernel_rfl) (by kernel_rfl) (fun _ _ _ h => h) (Or.inl ⟨by rfl, ?y19n10k18⟩) hHeld ?z19n10k18
            case y19n10k18 => intro w hSw; (try dsimp only at hSw); go_simp <;> rfl
            try simp only [Act.put, List.setIfInBounds_toArray, List.set_cons_zero, List.set_cons_succ]
            refine wpAnyH_ready (rs := [20]) (by kernel_rfl) (by simp) ?_
            refine AllReadyH.cons (o := ⟨some 82, Op.call { callee := Callee.value (Operand.func 15), args := #[Operand.tmp 81], argTypes := #[32] }, 4, _, _, some (18, false)⟩) rfl (fun K hK => ?_) AllReadyH.nil
            go_simp
            refine (hri _).mono ?_
            rintro e v12 ⟨rfl, k12⟩
            have K12 := Lib.hid (K11.out.step k12)
            clear k12
            dsimp only
            refine hK.out _ _ ⟨HSS.out _ K12.out, CV.out _ K12.out⟩ (fun hHeld => ?_)
            clear hK K
            try simp only [Act.put, List.setIfInBounds_toArray, List.set_cons_zero, List.set_cons_succ]
            refine wpAnyH_take (i := 21) (oi := ⟨some 83, Op.unOp UnOp.not 4 (Operand.tmp 82), 4, _, _, some (18, false)⟩) (v := ?v21n10k19) rfl (by kernel_rfl) (by kernel_rfl) (by kernel_rfl) (fun _ _ _ h => h) (Or.inl ⟨by rfl, ?y21n10k19⟩) hHeld ?z21n10k19
            case y21n10k19 => intro w hSw; (try dsimp only at hSw); go_simp <;> rfl
            try simp only [Act.put, List.setIfInBounds_toArray, List.set_cons_zero, List.set_cons_succ]
            refine wpAnyH_take (i := 22) (oi := ⟨some 84, Op.move (Operand.tmp 83), 4, _, _, some (18, false)⟩) (v := ?v22n10k20) rfl (by kernel_rfl) (by kernel_rfl) (by kernel_rfl) (fun _ _ _ h => h) (Or.inl ⟨by rfl, ?y22n10k20⟩) hHeld ?z22n10k20
            case y22n10k20 => intro w hSw; (try dsimp only at hSw); go_simp <;> rfl
            try simp only [Act.put, List.setIfInBounds_toArray, List.set_cons_zero, List.set_cons_succ]
            refine wpAnyH_take (i := 23) (oi := ⟨some 85, Op.move (Operand.tmp 9), 4, _, _, some (22, true)⟩) (v := ?v23n10k21) rfl (by kernel_rfl) (by kernel_rfl) (by kernel_rfl) (fun _ _ _ h => h) (Or.inl ⟨by rfl, ?y23n10k21⟩) hHeld ?z23n10k21
            case y23n10k21 => intro w hSw; (try dsimp only at hSw); go_simp <;> rfl
            try simp only [Act.put, List.setIfInBounds_toArray, List.set_cons_zero, List.set_cons_succ]
            refine wpAnyH_take (i := 24) (oi := ⟨some 86, Op.pick (Operand.tmp 84) (Operand.tmp 85) (Operand.const (Value.bool false)), 4, _, _, some (18, false)⟩) (v := ?v24n10k22) rfl (by kernel_rfl) (by kernel_rfl) (by kernel_rfl) (fun _ _ _ h => h) (Or.inl ⟨by rfl, ?y24n10k22⟩) hHeld ?z24n10k22
            case y24n10k22 => intro w hSw; (try dsimp only at hSw); go_simp <;> rfl
            try simp only [Act.put, List.setIfInBounds_toArray, List.set_cons_zero, List.set_cons_succ]
            refine wpAnyH_take (i := 25) (oi := ⟨some 87, Op.move (Operand.tmp 86), 4, _, _, some (18, false)⟩) (v := ?v25n10k23) rfl (by kernel_rfl) (by kernel_rfl) (by kernel_rfl) (fun _ _ _ h => h) (Or.inl ⟨by rfl, ?y25n10k23⟩) hHeld ?z25n10k23
            case y25n10k23 => intro w hSw; (try dsimp only at hSw); go_simp <;> rfl
            try simp only [Act.put, List.setIfInBounds_toArray, List.set_cons_zero, List.set_cons_succ]
            refine wpAnyH_take (i := 26) (oi := ⟨some 88, Op.load 32 (Operand.tmp 8), 32, _, _, some (25, true)⟩) (v := undef) rfl (by kernel_rfl) (by kernel_rfl) (by kernel_rfl) (fun _ _ _ h => h) (Or.inr ⟨by rfl, rfl⟩) hHeld ?z26n10k24
            try simp only [Act.put, List.setIfInBounds_toArray, List.set_cons_zero, List.set_cons_succ]
            refine wpAnyH_take (i := 27) (oi := ⟨some 89, Op.call { callee := Callee.value (Operand.func 20), args := #[Operand.tmp 88], argTypes := #[32] }, 9, _, _, some (25, true)⟩) (v := undef) rfl (by kernel_rfl) (by kernel_rfl) (by kernel_rfl) (fun _ _ _ h => h) (Or.inr ⟨by rfl, rfl⟩) hHeld ?z27n10k25
            try simp only [Act.put, List.setIfInBounds_toArray, List.set_cons_zero, List.set_cons_succ]
            refine wpAnyH_take (i := 28) (oi := ⟨some 90, Op.move (Operand.tmp 7), 42, _, _, some (25, true)⟩) (v := undef) rfl (by kernel_rfl) (by kernel_rfl) (by kernel_rfl) (fun _ _ _ h => h) (Or.inr ⟨by rfl, rfl⟩) hHeld ?z28n10k26
            try simp only [Act.put, List.setIfInBounds_toArray, List.set_cons_zero, List.set_cons_succ]
            refine wpAnyH_take (i := 29) (oi := ⟨some 91, Op.convert 42 9 (Operand.tmp 90), 9, _, _, some (25, true)⟩) (v := undef) rfl (by kernel_rfl) (by kernel_rfl) (by kernel_rfl) (fun _ _ _ h => h) (Or.inr ⟨by rfl, rfl⟩) hHeld ?z29n10k27
            try simp only [Act.put, List.setIfInBounds_toArray, List.set_cons_zero, List.set_cons_succ]
            refine wpAnyH_take (i := 30) (oi := ⟨some 92, Op.binOp BinOp.neq 9 (Operand.tmp 89) (Operand.tmp 91) 9, 4, _, _, some (25, true)⟩) (v := undef) rfl (by kernel_rfl) (by kernel_rfl) (by kernel_rfl) (fun _ _ _ h => h) (Or.inr ⟨by rfl, rfl⟩) hHeld ?z30n10k28
            try simp only [Act.put, List.setIfInBounds_toArray, List.set_cons_zero, List.set_cons_succ]
            refine wpAnyH_take (i := 31) (oi := ⟨some 93, Op.pick (Operand.tmp 87) (Operand.tmp 92) (Operand.const (Value.bool false)), 4, _, _, some (18, false)⟩) (v := ?v31n10k29) rfl (by kernel_rfl) (by kernel_rfl) (by kernel_rfl) (fun _ _ _ h => h) (Or.inl ⟨by rfl, ?y31n10k29⟩) hHeld ?z31n10k29
            case y31n10k29 => intro w hSw; (try dsimp only at hSw); go_simp <;> rfl
            try simp only [Act.put, List.setIfInBounds_toArray, List.set_cons_zero, List.set_cons_succ]
            refine wpAnyH_take (i := 32) (oi := ⟨some 94, Op.pick (Operand.tmp 80) (Operand.const (Value.bool true)) (Operand.tmp 93), 4, _, _, none⟩) (v := ?v32n10k30) rfl (by kernel_rfl) (by kernel_rfl) (by kernel_rfl) (fun _ _ _ h => h) (Or.inl ⟨by rfl, ?y32n10k30⟩) hHeld ?z32n10k30
            case y32n10k30 => intro w hSw; (try dsimp only at hSw); go_simp <;> rfl
            try simp only [Act.put, List.setIfInBounds_toArray, List.set_cons_zero, List.set_cons_succ]
            refine wpAnyH_take (i := 33) (oi := ⟨some 95, Op.move (Operand.tmp 94), 4, _, _, none⟩) (v := ?v33n10k31) rfl (by kernel_rfl) (by kernel_rfl) (by kernel_rfl) (fun _ _ _ h => h) (Or.inl ⟨by rfl, ?y33n10k31⟩) hHeld ?z33n10k31
            case y33n10k31 => intro w hSw; (try dsimp only at hSw); go_simp <;> rfl
            try simp only [Act.put, List.setIfInBounds_toArray, List.set_cons_zero, List.set_cons_succ]
            refine wpAnyH_take (i := 34) (oi := ⟨some 96, Op.move (Operand.tmp 9), 4, _, _, some (33, false)⟩) (v := ?v34n10k32) rfl (by kernel_rfl) (by kernel_rfl) (by kernel_rfl) (fun _ _ _ h => h) (Or.inl ⟨by rfl, ?y34n10k32⟩) hHeld ?z34n10k32
            case y34n10k32 => intro w hSw; (try dsimp only at hSw); go_simp <;> rfl
            try simp only [Act.put, List.setIfInBounds_toArray, List.set_cons_zero, List.set_cons_succ]
            refine wpAnyH_take (i := 35) (oi := ⟨some 97, Op.unOp UnOp.not 4 (Operand.tmp 96), 4, _, _, some (33, false)⟩) (v := ?v35n10k33) rfl (by kernel_rfl) (by kernel_rfl) (by kernel_rfl) (fun _ _ _ h => h) (Or.inl ⟨by rfl, ?y35n10k33⟩) hHeld ?z35n10k33
            case y35n10k33 => intro w hSw; (try dsimp only at hSw); go_simp <;> rfl
            try simp only [Act.put, List.setIfInBounds_toArray, List.set_cons_zero, List.set_cons_succ]
            refine wpAnyH_take (i := 36) (oi := ⟨some 98, Op.move (Operand.tmp 97), 4, _, _, some (33, false)⟩) (v := ?v36n10k34) rfl (by kernel_rfl) (by kernel_rfl) (by kernel_rfl) (fun _ _ _ h => h) (Or.inl ⟨by rfl, ?y36n10k34⟩) hHeld ?z36n10k34
            case y36n10k34 => intro w hSw; (try dsimp only at hSw); go_simp <;> rfl
            try simp only [Act.put, List.setIfInBounds_toArray, List.set_cons_zero, List.set_cons_succ]
            refine wpAnyH_take (i := 37) (oi := ⟨some 99, Op.load 32 (Operand.tmp 8), 32, _, _, some (36, true)⟩) (v := ?v37n10k35) rfl (by kernel_rfl) (by kernel_rfl) (by kernel_rfl) (fun _ _ _ h => h) (Or.inl ⟨by rfl, ?y37n10k35⟩) hHeld ?z37n10k35
            case y37n10k35 => intro w hSw; (try dsimp only at hSw); go_simp <;> rfl
            try simp only [Act.put, List.setIfInBounds_toArray, List.set_cons_zero, List.set_cons_succ]
            refine wpAnyH_take (i := 38) (oi := ⟨some 100, Op.build 32 #[], 32, _, _, some (36, true)⟩) (v := ?v38n10k36) rfl (by kernel_rfl) (by kernel_rfl) (by kernel_rfl) (fun _ _ _ h => h) (Or.inl ⟨by rfl, ?y38n10k36⟩) hHeld ?z38n10k36
            case y38n10k36 => intro w hSw; (try dsimp only at hSw); go_simp <;> rfl
            try simp only [Act.put, List.setIfInBounds_toArray, List.set_cons_zero, List.set_cons_succ]
            refine wpAnyH_take (i := 39) (oi := ⟨some 101, Op.binOp BinOp.neq 32 (Operand.tmp 99) (Operand.tmp 100) 32, 4, _, _, some (36, true)⟩) (v := ?v39n10k37) rfl (by kernel_rfl) (by kernel_rfl) (by kernel_rfl) (fun _ _ _ h => h) (Or.inl ⟨by rfl, ?y39n10k37⟩) hHeld ?z39n10k37
            case y39n10k37 => intro w hSw; (try dsimp only at hSw); go_simp <;> rfl
            try simp only [Act.put, List.setIfInBounds_toArray, List.set_cons_zero, List.set_cons_succ]
            refine wpAnyH_take (i := 40) (oi := ⟨some 102, Op.pick (Operand.tmp 98) (Operand.tmp 101) (Operand.const (Value.bool false)), 4, _, _, some (33, false)⟩) (v := ?v40n10k38) rfl (by kernel_rfl) (by kernel_rfl) (by kernel_rfl) (fun _ _ _ h => h) (Or.inl ⟨by rfl, ?y40n10k38⟩) hHeld ?z40n10k38
            case y40n10k38 => intro w hSw; (try dsimp only at hSw); go_simp <;> rfl
            try simp only [Act.put, List.setIfInBounds_toArray, List.set_cons_zero, List.set_cons_succ]
            refine wpAnyH_take (i := 41) (oi := ⟨some 103, Op.pick (Operand.tmp 95) (Operand.const (Value.bool true)) (Operand.tmp 102), 4, _, _, none⟩) (v := ?v41n10k39) rfl (by kernel_rfl) (by kernel_rfl) (by kernel_rfl) (fun _ _ _ h => h) (Or.inl ⟨by rfl, ?y41n10k39⟩) hHeld ?z41n10k39
            case y41n10k39 => intro w hSw; (try dsimp only at hSw); go_simp <;> rfl
            try simp only [Act.put, List.setIfInBounds_toArray, List.set_cons_zero, List.set_cons_succ]
            refine wpAnyH_done (by kernel_rfl) ?_ _
            refine NoPanic.normal ?_
            go_wp2
            go_roundw
            case rel => exact ⟨k + 1, by omega, by go_num, Lib.hid (K5.out.step K12.out)⟩
            case measure => simp [intOf]; omega
          · have hgs := gotB_some HOK.out
            rw [HYE.out] at hgs
            have hry := fun w => ref_bytes y w (by rw [hgs.2, HNX.out]; omega)
            rw [hgs.2, ← hX] at hry
            unfold EntryV.val at hri hrx hry
            clear hgs hX hR
            refine wp_region_noPanic ?_
            refine wp_region_held_drew (S := fun w' => (w'.cell? ⟨B6n, 0, none⟩ = some (.int .i64 x.index) ∧ w'.cell? ⟨B6n, 1, none⟩ = some (.int .i64 x.term) ∧ w'.cell? ⟨B6n, 2, none⟩ = some (.int .i64 x.cmd.op) ∧ w'.cell? ⟨B6n, 3, none⟩ = some (.int .i64 x.cmd.client) ∧ w'.cell? ⟨B6n, 4, none⟩ = some (.int .i64 x.cmd.seq) ∧ w'.cell? ⟨B6n, 5, none⟩ = some (.string x.cmd.key) ∧ w'.cell? ⟨B6n, 6, none⟩ = some (.string x.cmd.value) ∧ w'.cell? ⟨B6n, 7, none⟩ = some (.string x.cmd.old) ∧ w'.cell? ⟨B8n, 0, none⟩ = some (.int .i64 y.index) ∧ w'.cell? ⟨B8n, 1, none⟩ = some (.int .i64 y.term) ∧ w'.cell? ⟨B8n, 2, none⟩ = some (.int .i64 y.cmd.op) ∧ w'.cell? ⟨B8n, 3, none⟩ = some (.int .i64 y.cmd.client) ∧ w'.cell? ⟨B8n, 4, none⟩ = some (.int .i64 y.cmd.seq) ∧ w'.cell? ⟨B8n, 5, none⟩ = some (.string y.cmd.key) ∧ w'.cell? ⟨B8n, 6, none⟩ = some (.string y.cmd.value) ∧ w'.cell? ⟨B8n, 7, none⟩ = some (.string y.cmd.old)) ∧ (∀ c, (convert 42 9 (.slice P nx c)).run Try.prog w' = .ok (.string X) w')) (by kernel_rfl) ⟨HSS.out _ (Kept.drew _ _), CV.out _ (Kept.drew _ _)⟩ (fun hHeld => ?_)
            refine wpAnyH_take (i := 0) (oi := ⟨some 62, Op.move (Operand.tmp 7), 42, _, _, none⟩) (v := ?v0n11k1) rfl (by kernel_rfl) (by kernel_rfl) (by kernel_rfl) (fun _ _ _ h => h) (Or.inl ⟨by rfl, ?y0n11k1⟩) hHeld ?z0n11k1
            case y0n11k1 => intro w hSw; (try dsimp only at hSw); go_simp <;> rfl
            try simp only [Act.put, List.setIfInBounds_toArray, List.set_cons_zero, List.set_cons_succ]
            refine wpAnyH_take (i := 1) (oi := ⟨some 63, Op.convert 42 9 (Operand.tmp 62), 9, _, _, none⟩) (v := ?v1n11k2) rfl (by kernel_rfl) (by kernel_rfl) (by kernel_rfl) (fun _ _ _ h => h) (Or.inl ⟨by rfl, ?y1n11k2⟩) hHeld ?z1n11k2
            case y1n11k2 => intro w hSw; (try dsimp only at hSw); go_simp <;> rfl
            try simp only [Act.put, List.setIfInBounds_toArray, List.set_cons_zero, List.set_cons_succ]
            refine wpAnyH_take (i := 2) (oi := ⟨some 64, Op.load 32 (Operand.tmp 6), 32, _, _, none⟩) (v := ?v2n11k3) rfl (by kernel_rfl) (by kernel_rfl) (by kernel_rfl) (fun _ _ _ h => h) (Or.inl ⟨by rfl, ?y2n11k3⟩) hHeld ?z2n11k3
            case y2n11k3 => intro w hSw; (try dsimp only at hSw); go_simp <;> rfl
            try simp only [Act.put, List.setIfInBounds_toArray, List.set_cons_zero, List.set_cons_succ]
            refine wpAnyH_ready (rs := [3]) (by kernel_rfl) (by simp) ?_
            refine AllReadyH.cons (o := ⟨some 65, Op.call { callee := Callee.value (Operand.func 20), args := #[Operand.tmp 64], argTypes := #[32] }, 9, _, _, none⟩) rfl (fun K hK => ?_) AllReadyH.nil
            go_simp
            refine (hrx _).mono ?_
            rintro e v10 ⟨rfl, k10⟩
            have K10 := Lib.hid ((Kept.drew noBlock w5).step k10)
            clear k10
            dsimp only
            refine hK.out _ _ ⟨HSS.out _ K10.out, CV.out _ K10.out⟩ (fun hHeld => ?_)
            clear hK K
            try simp only [Act.put, List.setIfInBounds_toArray, List.set_cons_zero, List.set_cons_succ]
            refine wpAnyH_take (i := 4) (oi := ⟨some 66, Op.binOp BinOp.neq 9 (Operand.tmp 63) (Operand.tmp 65) 9, 4, _, _, none⟩) (v := ?v4n11k4) rfl (by kernel_rfl) (by kernel_rfl) (by kernel_rfl) (fun _ _ _ h => h) (Or.inl ⟨by rfl, ?y4n11k4⟩) hHeld ?z4n11k4
            case y4n11k4 => intro w hSw; (try dsimp only at hSw); go_simp <;> rfl
            try simp only [Act.put, List.setIfInBounds_toArray, List.set_cons_zero, List.set_cons_succ]
            refine wpAnyH_take (i := 5) (oi := ⟨some 67, Op.move (Operand.tmp 66), 4, _, _, none⟩) (v := ?v5n11k5) rfl (by kernel_rfl) (by kernel_rfl) (by kernel_rfl) (fun _ _ _ h => h) (Or.inl ⟨by rfl, ?y5n11k5⟩) hHeld ?z5n11k5
            case y5n11k5 => intro w hSw; (try dsimp only at hSw); go_simp <;> rfl
            try simp only [Act.put, List.setIfInBounds_toArray, List.set_cons_zero, List.set_cons_succ]
            refine wpAnyH_take (i := 6) (oi := ⟨some 68, Op.load 32 (Operand.tmp 6), 32, _, _, some (5, false)⟩) (v := ?v6n11k6) rfl (by kernel_rfl) (by kernel_rfl) (by kernel_rfl) (fun _ _ _ h => h) (Or.inl ⟨by rfl, ?y6n11k6⟩) hHeld ?z6n11k6
            case y6n11k6 => intro w hSw; (try dsimp only at hSw); go_simp <;> rfl
            try simp only [Act.put, List.setIfInBounds_toArray, List.set_cons_zero, List.set_cons_succ]
            refine wpAnyH_ready (rs := [7]) (by kernel_rfl) (by simp) ?_
            refine AllReadyH.cons (o := ⟨some 69, Op.call { callee := Callee.value (Operand.func 15), args := #[Operand.tmp 68], argTypes := #[32] }, 4, _, _, some (5, false)⟩) rfl (fun K hK => ?_) AllReadyH.nil
            go_simp
            refine (hri _).mono ?_
            rintro e v11 ⟨rfl, k11⟩
            have K11 := Lib.hid (K10.out.step k11)
            clear k11
            dsimp only
            refine hK.out _ _ ⟨HSS.out _ K11.out, CV.out _ K11.out⟩ (fun hHeld => ?_)
            clear hK K
            try simp only [Act.put, List.setIfInBounds_toArray, List.set_cons_zero, List.set_cons_succ]
            refine wpAnyH_take (i := 8) (oi := ⟨some 70, Op.move (Operand.tmp 69), 4, _, _, some (5, false)⟩) (v := ?v8n11k7) rfl (by kernel_rfl) (by kernel_rfl) (by kernel_rfl) (fun _ _ _ h => h) (Or.inl ⟨by rfl, ?y8n11k7⟩) hHeld ?z8n11k7
            case y8n11k7 => intro w hSw; (try dsimp only at hSw); go_simp <;> rfl
            try simp only [Act.put, List.setIfInBounds_toArray, List.set_cons_zero, List.set_cons_succ]
            refine wpAnyH_take (i := 9) (oi := ⟨some 71, Op.move (Operand.tmp 9), 4, _, _, some (8, true)⟩) (v := undef) rfl (by kernel_rfl) (by kernel_rfl) (by kernel_rfl) (fun _ _ _ h => h) (Or.inr ⟨by rfl, rfl⟩) hHeld ?z9n11k8
            try simp only [Act.put, List.setIfInBounds_toArray, List.set_cons_zero, List.set_cons_succ]
            refine wpAnyH_take (i := 10) (oi := ⟨some 72, Op.unOp UnOp.not 4 (Operand.tmp 71), 4, _, _, some (8, true)⟩) (v := undef) rfl (by kernel_rfl) (by kernel_rfl) (by kernel_rfl) (fun _ _ _ h => h) (Or.inr ⟨by rfl, rfl⟩) hHeld ?z10n11k9
            try simp only [Act.put, List.setIfInBounds_toArray, List.set_cons_zero, List.set_cons_succ]
            refine wpAnyH_take (i := 11) (oi := ⟨some 73, Op.move (Operand.tmp 72), 4, _, _, some (8, true)⟩) (v := undef) rfl (by kernel_rfl) (by kernel_rfl) (by kernel_rfl) (fun _ _ _ h => h) (Or.inr ⟨by rfl, rfl⟩) hHeld ?z11n11k10
            try simp only [Act.put, List.setIfInBounds_toArray, List.set_cons_zero, List.set_cons_succ]
            refine wpAnyH_take (i := 12) (oi := ⟨some 74, Op.load 32 (Operand.tmp 8), 32, _, _, some (11, false)⟩) (v := undef) rfl (by kernel_rfl) (by kernel_rfl) (by kernel_rfl) (fun _ _ _ h => h) (Or.inr ⟨by rfl, rfl⟩) hHeld ?z12n11k11
            try simp only [Act.put, List.setIfInBounds_toArray, List.set_cons_zero, List.set_cons_succ]
            refine wpAnyH_take (i := 13) (oi := ⟨some 75, Op.load 32 (Operand.tmp 6), 32, _, _, some (11, false)⟩) (v := undef) rfl (by kernel_rfl) (by kernel_rfl) (by kernel_rfl) (fun _ _ _ h => h) (Or.inr ⟨by rfl, rfl⟩) hHeld ?z13n11k12
            try simp only [Act.put, List.setIfInBounds_toArray, List.set_cons_zero, List.set_cons_succ]
            refine wpAnyH_take (i := 14) (oi := ⟨some 76, Op.binOp BinOp.neq 32 (Operand.tmp 74) (Operand.tmp 75) 32, 4, _, _, some (11, false)⟩) (v := undef) rfl (by kernel_rfl) (by kernel_rfl) (by kernel_rfl) (fun _ _ _ h => h) (Or.inr ⟨by rfl, rfl⟩) hHeld ?z14n11k13
            try simp only [Act.put, List.setIfInBounds_toArray, List.set_cons_zero, List.set_cons_succ]
            refine wpAnyH_take (i := 15) (oi := ⟨some 77, Op.pick (Operand.tmp 73) (Operand.const (Value.bool true)) (Operand.tmp 76), 4, _, _, some (8, true)⟩) (v := undef) rfl (by kernel_rfl) (by kernel_rfl) (by kernel_rfl) (fun _ _ _ h => h) (Or.inr ⟨by rfl, rfl⟩) hHeld ?z15n11k14
            try simp only [Act.put, List.setIfInBounds_toArray, List.set_cons_zero, List.set_cons_succ]
            refine wpAnyH_take (i := 16) (oi := ⟨some 78, Op.pick (Operand.tmp 70) (Operand.tmp 77) (Operand.const (Value.bool false)), 4, _, _, some (5, false)⟩) (v := ?v16n11k15) rfl (by kernel_rfl) (by kernel_rfl) (by kernel_rfl) (fun _ _ _ h => h) (Or.inl ⟨by rfl, ?y16n11k15⟩) hHeld ?z16n11k15
            case y16n11k15 => intro w hSw; (try dsimp only at hSw); go_simp <;> rfl
            try simp only [Act.put, List.setIfInBounds_toArray, List.set_cons_zero, List.set_cons_succ]
            refine wpAnyH_take (i := 17) (oi := ⟨some 79, Op.pick (Operand.tmp 67) (Operand.const (Value.bool true)) (Operand.tmp 78), 4, _, _, none⟩) (v := ?v17n11k16) rfl (by kernel_rfl) (by kernel_rfl) (by kernel_rfl) (fun _ _ _ h => h) (Or.inl ⟨by rfl, ?y17n11k16⟩) hHeld ?z17n11k16
            case y17n11k16 => intro w hSw; (try dsimp only at hSw); go_simp <;> rfl
            try simp only [Act.put, List.setIfInBounds_toArray, List.set_cons_zero, List.set_cons_succ]
            refine wpAnyH_take (i := 18) (oi := ⟨some 80, Op.move (Operand.tmp 79), 4, _, _, none⟩) (v := ?v18n11k17) rfl (by kernel_rfl) (by kernel_rfl) (by kernel_rfl) (fun _ _ _ h => h) (Or.inl ⟨by rfl, ?y18n11k17⟩) hHeld ?z18n11k17
            case y18n11k17 => intro w hSw; (try dsimp only at hSw); go_simp <;> rfl
            try simp only [Act.put, List.setIfInBounds_toArray, List.set_cons_zero, List.set_cons_succ]
            refine wpAnyH_take (i := 19) (oi := ⟨some 81, Op.load 32 (Operand.tmp 6), 32, _, _, some (18, false)⟩) (v := ?v19n11k18) rfl (by kernel_rfl) (by kernel_rfl) (by kernel_rfl) (fun _ _ _ h => h) (Or.inl ⟨by rfl, ?y19n11k18⟩) hHeld ?z19n11k18
            case y19n11k18 => intro w hSw; (try dsimp only at hSw); go_simp <;> rfl
            try simp only [Act.put, List.setIfInBounds_toArray, List.set_cons_zero, List.set_cons_succ]
            refine wpAnyH_ready (rs := [20]) (by kernel_rfl) (by simp) ?_
            refine AllReadyH.cons (o := ⟨some 82, Op.call { callee := Callee.value (Operand.func 15), args := #[Operand.tmp 81], argTypes := #[32] }, 4, _, _, some (18, false)⟩) rfl (fun K hK => ?_) AllReadyH.nil
            go_simp
            refine (hri _).mono ?_
            rintro e v12 ⟨rfl, k12⟩
            have K12 := Lib.hid (K11.out.step k12)
            clear k12
            dsimp only
            refine hK.out _ _ ⟨HSS.out _ K12.out, CV.out _ K12.out⟩ (fun hHeld => ?_)
            clear hK K
            try simp only [Act.put, List.setIfInBounds_toArray, List.set_cons_zero, List.set_cons_succ]
            refine wpAnyH_take (i := 21) (oi := ⟨some 83, Op.unOp UnOp.not 4 (Operand.tmp 82), 4, _, _, some (18, false)⟩) (v := ?v21n11k19) rfl (by kernel_rfl) (by kernel_rfl) (by kernel_rfl) (fun _ _ _ h => h) (Or.inl ⟨by rfl, ?y21n11k19⟩) hHeld ?z21n11k19
            case y21n11k19 => intro w hSw; (try dsimp only at hSw); go_simp <;> rfl
            try simp only [Act.put, List.setIfInBounds_toArray, List.set_cons_zero, List.set_cons_succ]
            refine wpAnyH_take (i := 22) (oi := ⟨some 84, Op.move (Operand.tmp 83), 4, _, _, some (18, false)⟩) (v := ?v22n11k20) rfl (by kernel_rfl) (by kernel_rfl) (by kernel_rfl) (fun _ _ _ h => h) (Or.inl ⟨by rfl, ?y22n11k20⟩) hHeld ?z22n11k20
            case y22n11k20 => intro w hSw; (try dsimp only at hSw); go_simp <;> rfl
            try simp only [Act.put, List.setIfInBounds_toArray, List.set_cons_zero, List.set_cons_succ]
            refine wpAnyH_take (i := 23) (oi := ⟨some 85, Op.move (Operand.tmp 9), 4, _, _, some (22, true)⟩) (v := ?v23n11k21) rfl (by kernel_rfl) (by kernel_rfl) (by kernel_rfl) (fun _ _ _ h => h) (Or.inl ⟨by rfl, ?y23n11k21⟩) hHeld ?z23n11k21
            case y23n11k21 => intro w hSw; (try dsimp only at hSw); go_simp <;> rfl
            try simp only [Act.put, List.setIfInBounds_toArray, List.set_cons_zero, List.set_cons_succ]
            refine wpAnyH_take (i := 24) (oi := ⟨some 86, Op.pick (Operand.tmp 84) (Operand.tmp 85) (Operand.const (Value.bool false)), 4, _, _, some (18, false)⟩) (v := ?v24n11k22) rfl (by kernel_rfl) (by kernel_rfl) (by kernel_rfl) (fun _ _ _ h => h) (Or.inl ⟨by rfl, ?y24n11k22⟩) hHeld ?z24n11k22
            case y24n11k22 => intro w hSw; (try dsimp only at hSw); go_simp <;> rfl
            try simp only [Act.put, List.setIfInBounds_toArray, List.set_cons_zero, List.set_cons_succ]
            refine wpAnyH_take (i := 25) (oi := ⟨some 87, Op.move (Operand.tmp 86), 4, _, _, some (18, false)⟩) (v := ?v25n11k23) rfl (by kernel_rfl) (by kernel_rfl) (by kernel_rfl) (fun _ _ _ h => h) (Or.inl ⟨by rfl, ?y25n11k23⟩) hHeld ?z25n11k23
            case y25n11k23 => intro w hSw; (try dsimp only at hSw); go_simp <;> rfl
            try simp only [Act.put, List.setIfInBounds_toArray, List.set_cons_zero, List.set_cons_succ]
            refine wpAnyH_take (i := 26) (oi := ⟨some 88, Op.load 32 (Operand.tmp 8), 32, _, _, some (25, true)⟩) (v := ?v26n11k24) rfl (by kernel_rfl) (by kernel_rfl) (by kernel_rfl) (fun _ _ _ h => h) (Or.inl ⟨by rfl, ?y26n11k24⟩) hHeld ?z26n11k24
            case y26n11k24 => intro w hSw; (try dsimp only at hSw); go_simp <;> rfl
            try simp only [Act.put, List.setIfInBounds_toArray, List.set_cons_zero, List.set_cons_succ]
            refine wpAnyH_take (i := 28) (oi := ⟨some 90, Op.move (Operand.tmp 7), 42, _, _, some (25, true)⟩) (v := ?v28n11k25) rfl (by kernel_rfl) (by kernel_rfl) (by kernel_rfl) (fun _ _ _ h => h) (Or.inl ⟨by rfl, ?y28n11k25⟩) hHeld ?z28n11k25
            case y28n11k25 => intro w hSw; (try dsimp only at hSw); go_simp <;> rfl
            try simp only [Act.put, List.setIfInBounds_toArray, List.set_cons_zero, List.set_cons_succ]
            refine wpAnyH_take (i := 29) (oi := ⟨some 91, Op.convert 42 9 (Operand.tmp 90), 9, _, _, some (25, true)⟩) (v := ?v29n11k26) rfl (by kernel_rfl) (by kernel_rfl) (by kernel_rfl) (fun _ _ _ h => h) (Or.inl ⟨by rfl, ?y29n11k26⟩) hHeld ?z29n11k26
            case y29n11k26 => intro w hSw; (try dsimp only at hSw); go_simp <;> rfl
            try simp only [Act.put, List.setIfInBounds_toArray, List.set_cons_zero, List.set_cons_succ]
            refine wpAnyH_ready (rs := [27]) (by kernel_rfl) (by simp) ?_
            refine AllReadyH.cons (o := ⟨some 89, Op.call { callee := Callee.value (Operand.func 20), args := #[Operand.tmp 88], argTypes := #[32] }, 9, _, _, some (25, true)⟩) rfl (fun K hK => ?_) AllReadyH.nil
            go_simp
            refine (hry _).mono ?_
            rintro e v13 ⟨rfl, k13⟩
            have K13 := Lib.hid (K12.out.step k13)
            clear k13
            dsimp only
            refine hK.out _ _ ⟨HSS.out _ K13.out, CV.out _ K13.out⟩ (fun hHeld => ?_)
            clear hK K
            try simp only [Act.put, List.setIfInBounds_toArray, List.set_cons_zero, List.set_cons_succ]
            refine wpAnyH_take (i := 30) (oi := ⟨some 92, Op.binOp BinOp.neq 9 (Operand.tmp 89) (Operand.tmp 91) 9, 4, _, _, some (25, true)⟩) (v := ?v30n11k27) rfl (by kernel_rfl) (by kernel_rfl) (by kernel_rfl) (fun _ _ _ h => h) (Or.inl ⟨by rfl, ?y30n11k27⟩) hHeld ?z30n11k27
            case y30n11k27 => intro w hSw; (try dsimp only at hSw); go_simp <;> rfl
            try simp only [Act.put, List.setIfInBounds_toArray, List.set_cons_zero, List.set_cons_succ]
            refine wpAnyH_take (i := 31) (oi := ⟨some 93, Op.pick (Operand.tmp 87) (Operand.tmp 92) (Operand.const (Value.bool false)), 4, _, _, some (18, false)⟩) (v := ?v31n11k28) rfl (by kernel_rfl) (by kernel_rfl) (by kernel_rfl) (fun _ _ _ h => h) (Or.inl ⟨by rfl, ?y31n11k28⟩) hHeld ?z31n11k28
            case y31n11k28 => intro w hSw; (try dsimp only at hSw); go_simp <;> rfl
            try simp only [Act.put, List.setIfInBounds_toArray, List.set_cons_zero, List.set_cons_succ]
            refine wpAnyH_take (i := 32) (oi := ⟨some 94, Op.pick (Operand.tmp 80) (Operand.const (Value.bool true)) (Operand.tmp 93), 4, _, _, none⟩) (v := ?v32n11k29) rfl (by kernel_rfl) (by kernel_rfl) (by kernel_rfl) (fun _ _ _ h => h) (Or.inl ⟨by rfl, ?y32n11k29⟩) hHeld ?z32n11k29
            case y32n11k29 => intro w hSw; (try dsimp only at hSw); go_simp <;> rfl
            try simp only [Act.put, List.setIfInBounds_toArray, List.set_cons_zero, List.set_cons_succ]
            refine wpAnyH_take (i := 33) (oi := ⟨some 95, Op.move (Operand.tmp 94), 4, _, _, none⟩) (v := ?v33n11k30) rfl (by kernel_rfl) (by kernel_rfl) (by kernel_rfl) (fun _ _ _ h => h) (Or.inl ⟨by rfl, ?y33n11k30⟩) hHeld ?z33n11k30
            case y33n11k30 => intro w hSw; (try dsimp only at hSw); go_simp <;> rfl
            try simp only [Act.put, List.setIfInBounds_toArray, List.set_cons_zero, List.set_cons_succ]
            refine wpAnyH_take (i := 34) (oi := ⟨some 96, Op.move (Operand.tmp 9), 4, _, _, some (33, false)⟩) (v := ?v34n11k31) rfl (by kernel_rfl) (by kernel_rfl) (by kernel_rfl) (fun _ _ _ h => h) (Or.inl ⟨by rfl, ?y34n11k31⟩) hHeld ?z34n11k31
            case y34n11k31 => intro w hSw; (try dsimp only at hSw); go_simp <;> rfl
            try simp only [Act.put, List.setIfInBounds_toArray, List.set_cons_zero, List.set_cons_succ]
            refine wpAnyH_take (i := 35) (oi := ⟨some 97, Op.unOp UnOp.not 4 (Operand.tmp 96), 4, _, _, some (33, false)⟩) (v := ?v35n11k32) rfl (by kernel_rfl) (by kernel_rfl) (by kernel_rfl) (fun _ _ _ h => h) (Or.inl ⟨by rfl, ?y35n11k32⟩) hHeld ?z35n11k32
            case y35n11k32 => intro w hSw; (try dsimp only at hSw); go_simp <;> rfl
            try simp only [Act.put, List.setIfInBounds_toArray, List.set_cons_zero, List.set_cons_succ]
            refine wpAnyH_take (i := 36) (oi := ⟨some 98, Op.move (Operand.tmp 97), 4, _, _, some (33, false)⟩) (v := ?v36n11k33) rfl (by kernel_rfl) (by kernel_rfl) (by kernel_rfl) (fun _ _ _ h => h) (Or.inl ⟨by rfl, ?y36n11k33⟩) hHeld ?z36n11k33
            case y36n11k33 => intro w hSw; (try dsimp only at hSw); go_simp <;> rfl
            try simp only [Act.put, List.setIfInBounds_toArray, List.set_cons_zero, List.set_cons_succ]
            refine wpAnyH_take (i := 37) (oi := ⟨some 99, Op.load 32 (Operand.tmp 8), 32, _, _, some (36, true)⟩) (v := undef) rfl (by kernel_rfl) (by kernel_rfl) (by kernel_rfl) (fun _ _ _ h => h) (Or.inr ⟨by rfl, rfl⟩) hHeld ?z37n11k34
            try simp only [Act.put, List.setIfInBounds_toArray, List.set_cons_zero, List.set_cons_succ]
            refine wpAnyH_take (i := 38) (oi := ⟨some 100, Op.build 32 #[], 32, _, _, some (36, true)⟩) (v := undef) rfl (by kernel_rfl) (by kernel_rfl) (by kernel_rfl) (fun _ _ _ h => h) (Or.inr ⟨by rfl, rfl⟩) hHeld ?z38n11k35
            try simp only [Act.put, List.setIfInBounds_toArray, List.set_cons_zero, List.set_cons_succ]
            refine wpAnyH_take (i := 39) (oi := ⟨some 101, Op.binOp BinOp.neq 32 (Operand.tmp 99) (Operand.tmp 100) 32, 4, _, _, some (36, true)⟩) (v := undef) rfl (by kernel_rfl) (by kernel_rfl) (by kernel_rfl) (fun _ _ _ h => h) (Or.inr ⟨by rfl, rfl⟩) hHeld ?z39n11k36
            try simp only [Act.put, List.setIfInBounds_toArray, List.set_cons_zero, List.set_cons_succ]
            refine wpAnyH_take (i := 40) (oi := ⟨some 102, Op.pick (Operand.tmp 98) (Operand.tmp 101) (Operand.const (Value.bool false)), 4, _, _, some (33, false)⟩) (v := ?v40n11k37) rfl (by kernel_rfl) (by kernel_rfl) (by kernel_rfl) (fun _ _ _ h => h) (Or.inl ⟨by rfl, ?y40n11k37⟩) hHeld ?z40n11k37
            case y40n11k37 => intro w hSw; (try dsimp only at hSw); go_simp <;> rfl
            try simp only [Act.put, List.setIfInBounds_toArray, List.set_cons_zero, List.set_cons_succ]
            refine wpAnyH_take (i := 41) (oi := ⟨some 103, Op.pick (Operand.tmp 95) (Operand.const (Value.bool true)) (Operand.tmp 102), 4, _, _, none⟩) (v := ?v41n11k38) rfl (by kernel_rfl) (by kernel_rfl) (by kernel_rfl) (fun _ _ _ h => h) (Or.inl ⟨by rfl, ?y41n11k38⟩) hHeld ?z41n11k38
            case y41n11k38 => intro w hSw; (try dsimp only at hSw); go_simp <;> rfl
            try simp only [Act.put, List.setIfInBounds_toArray, List.set_cons_zero, List.set_cons_succ]
            refine wpAnyH_done (by kernel_rfl) ?_ _
            refine NoPanic.normal ?_
            go_wp2
            go_roundw
            case rel => exact ⟨k + 1, by omega, by go_num, Lib.hid (K5.out.step K13.out)⟩
            case measure => simp [intOf]; omega
      · obtain rfl : k = M := by omega
        go_wp2
        go_ret
        exact ⟨rfl, HK.out.step HKr.out⟩

end Go.Proofs.Ytgffdobhdkieaaa
