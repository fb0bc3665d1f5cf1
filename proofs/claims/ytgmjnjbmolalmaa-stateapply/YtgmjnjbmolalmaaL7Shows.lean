/-
  The model shows the state that it has. No statement is proved here.
-/
import Derived.Test.YtgmjnjbmolalmaaMdV
import Derived.Test.YtgmjnjbmolalmaaL7Right
namespace Go.Proofs.Ytgmjnjbmolalmaa
open Go.RowKit Tot

set_option maxRecDepth 100000 in
set_option maxHeartbeats 1000000 in
theorem shows_any (F : Nat → Prop) (m b1 b2 b3 : Nat) (s : StV) (A : Option Addr) (c : Nat) (B : Option Addr) (d : Nat) (w : World) (h : Md w m b1 b2 b3 s) (hv : Sv w F s A c B d) (hs : s.Right) :
    Calls Try.prog 15 #[.pointer (some ⟨m, 0, none⟩), stv s A c B d] w (Says w true) := by
  obtain ⟨n, hnn⟩ : ∃ n, n = s.pairs.length := ⟨_, rfl⟩
  obtain ⟨m4, hmm⟩ : ∃ m4, m4 = s.sess.length := ⟨_, rfl⟩
  obtain ⟨ix, hix⟩ : ∃ ix, ix = s.index := ⟨_, rfl⟩
  obtain ⟨tm, htm⟩ : ∃ tm, tm = s.term := ⟨_, rfl⟩
  have ka := Kept.alloc noBlock w (.cells #[.int .i64 ix, .int .i64 tm, .slice A n c, .slice B m4 d] 33)
  have hb := heap_alloc_new w (.cells #[.int .i64 ix, .int .i64 tm, .slice A n c, .slice B m4 d] 33)
  have ri := fun u (k : Kept noBlock w u) => lright_any F s A c B d u (hv.kept k) (by have := hs.len; omega) (by have := hs.lens; omega)
  rw [decide_eq_true hs] at ri
  have hcp := hv.cp
  have hcs := hv.cs
  have hn6 := hs.len
  have hm4 := hs.lens
  unfold stv at ri ⊢
  rw [← hnn, ← hmm, ← hix, ← htm] at ri ⊢
  rw [← hnn] at hcp hn6
  rw [← hmm] at hcs hm4
  have RI := Lib.hid ri
  have HLP := Lib.hid hv.lp
  have HLS := Lib.hid hv.ls
  have HM := Lib.hid h
  have HS := Lib.hid hs
  have KA := Lib.hid ka
  have HB := Lib.hid hb
  have HN := Lib.hid hnn
  have HM4 := Lib.hid hmm
  have HIX := Lib.hid hix
  have HTM := Lib.hid htm
  clear h hv hs ka hb hnn hmm hix htm ri
  obtain ⟨X, hX⟩ : ∃ X, X = w.heap.size := ⟨_, rfl⟩
  have i1 : (ix != ix) = false := by simp
  have i2 : (tm != tm) = false := by simp
  have i3 : ((n : Int) != (n : Int)) = false := by simp
  have i4 : ((m4 : Int) != (m4 : Int)) = false := by simp
  go_enter Try.func15, Try.ntmps15
  go_upto_region 1 with (fail)
  rw [← hX] at HB ⊢
  generalize w.alloc (.cells #[.int .i64 ix, .int .i64 tm, .slice A n c, .slice B m4 d] 33) = w1 at KA HB ⊢
  clear hX
  have SM : Hid (∀ u, Kept noBlock w1 u → (u.cell? ⟨X, 0, none⟩ = some (.int .i64 ix) ∧ u.cell? ⟨X, 1, none⟩ = some (.int .i64 tm) ∧ u.cell? ⟨X, 2, none⟩ = some (.slice A n c) ∧ u.cell? ⟨X, 3, none⟩ = some (.slice B m4 d)) ∧
      (u.cell? ⟨m, 0, none⟩ = some (.int .i64 ix) ∧ u.cell? ⟨m, 1, none⟩ = some (.int .i64 tm) ∧ u.cell? ⟨m, 2, none⟩ = some (.map (some b1)) ∧ u.cell? ⟨m, 3, none⟩ = some (.map (some b2)) ∧ u.cell? ⟨m, 4, none⟩ = some (.map (some b3))) ∧
      (∀ ty, (Builtin.len_ #[25] ty #[.map (some b1)]).run Try.prog u = .ok (.int .i64 (n : Int)) u) ∧ (∀ ty, (Builtin.len_ #[26] ty #[.map (some b2)]).run Try.prog u = .ok (.int .i64 (m4 : Int)) u)) := fun u k => by
    have hu := HM.out.kept (KA.out.step k)
    have hc := hu.cells
    rw [← HIX.out, ← HTM.out] at hc
    refine ⟨st_cells (k.blk HB.out (fun h => h)), hc, fun ty => ?_, fun ty => ?_⟩
    · have := MS.run_size hu.keys ty
      rw [show (keysM s).length = n by unfold keysM; rw [mapV_len, HN.out]] at this
      exact this
    · have := MI.run_size hu.seqs ty
      rw [show (seqsM s).length = m4 by unfold seqsM; rw [mapV_len, HM4.out]] at this
      exact this
  refine wp_region_noPanic ?_
  refine wp_region_held_drew (S := fun u => (u.cell? ⟨X, 0, none⟩ = some (.int .i64 ix) ∧ u.cell? ⟨X, 1, none⟩ = some (.int .i64 tm) ∧ u.cell? ⟨X, 2, none⟩ = some (.slice A n c) ∧ u.cell? ⟨X, 3, none⟩ = some (.slice B m4 d)) ∧ (u.cell? ⟨m, 0, none⟩ = some (.int .i64 ix) ∧ u.cell? ⟨m, 1, none⟩ = some (.int .i64 tm) ∧ u.cell? ⟨m, 2, none⟩ = some (.map (some b1)) ∧ u.cell? ⟨m, 3, none⟩ = some (.map (some b2)) ∧ u.cell? ⟨m, 4, none⟩ = some (.map (some b3))) ∧ (∀ ty, (Builtin.len_ #[25] ty #[.map (some b1)]).run Try.prog u = .ok (.int .i64 (n : Int)) u) ∧ (∀ ty, (Builtin.len_ #[26] ty #[.map (some b2)]).run Try.prog u = .ok (.int .i64 (m4 : Int)) u)) (by kernel_rfl) (SM.out _ (Kept.drew _ _)) (fun hHeld => ?_)
  refine wpAnyH_take (i := 0) (oi := ⟨some 13, Op.fieldAddr 33 (Operand.tmp 3) 0, 0, _, _, none⟩) (v := ?v0n1k1) rfl (by kernel_rfl) (by kernel_rfl) (by kernel_rfl) (fun _ _ _ h => h) (Or.inl ⟨by rfl, ?y0n1k1⟩) hHeld ?z0n1k1
  case y0n1k1 => intro w hSw; (try dsimp only at hSw); go_simp <;> rfl
  try simp only [Act.put, List.setIfInBounds_toArray, List.set_cons_zero, List.set_cons_succ]
  refine wpAnyH_take (i := 1) (oi := ⟨some 14, Op.load 3 (Operand.tmp 13), 3, _, _, none⟩) (v := ?v1n1k2) rfl (by kernel_rfl) (by kernel_rfl) (by kernel_rfl) (fun _ _ _ h => h) (Or.inl ⟨by rfl, ?y1n1k2⟩) hHeld ?z1n1k2
  case y1n1k2 => intro w hSw; (try dsimp only at hSw); go_simp <;> rfl
  try simp only [Act.put, List.setIfInBounds_toArray, List.set_cons_zero, List.set_cons_succ]
  refine wpAnyH_take (i := 2) (oi := ⟨some 15, Op.move (Operand.tmp 0), 24, _, _, none⟩) (v := ?v2n1k3) rfl (by kernel_rfl) (by kernel_rfl) (by kernel_rfl) (fun _ _ _ h => h) (Or.inl ⟨by rfl, ?y2n1k3⟩) hHeld ?z2n1k3
  case y2n1k3 => intro w hSw; (try dsimp only at hSw); go_simp <;> rfl
  try simp only [Act.put, List.setIfInBounds_toArray, List.set_cons_zero, List.set_cons_succ]
  refine wpAnyH_take (i := 3) (oi := ⟨some 16, Op.nilCheck (Operand.tmp 15), 0, _, _, none⟩) (v := ?v3n1k4) rfl (by kernel_rfl) (by kernel_rfl) (by kernel_rfl) (fun _ _ _ h => h) (Or.inl ⟨by rfl, ?y3n1k4⟩) hHeld ?z3n1k4
  case y3n1k4 => intro w hSw; (try dsimp only at hSw); go_simp <;> rfl
  try simp only [Act.put, List.setIfInBounds_toArray, List.set_cons_zero, List.set_cons_succ]
  refine wpAnyH_take (i := 4) (oi := ⟨some 17, Op.fieldAddr 29 (Operand.tmp 16) 0, 0, _, _, none⟩) (v := ?v4n1k5) rfl (by kernel_rfl) (by kernel_rfl) (by kernel_rfl) (fun _ _ _ h => h) (Or.inl ⟨by rfl, ?y4n1k5⟩) hHeld ?z4n1k5
  case y4n1k5 => intro w hSw; (try dsimp only at hSw); go_simp <;> rfl
  try simp only [Act.put, List.setIfInBounds_toArray, List.set_cons_zero, List.set_cons_succ]
  refine wpAnyH_take (i := 5) (oi := ⟨some 18, Op.load 3 (Operand.tmp 17), 3, _, _, none⟩) (v := ?v5n1k6) rfl (by kernel_rfl) (by kernel_rfl) (by kernel_rfl) (fun _ _ _ h => h) (Or.inl ⟨by rfl, ?y5n1k6⟩) hHeld ?z5n1k6
  case y5n1k6 => intro w hSw; (try dsimp only at hSw); go_simp <;> rfl
  try simp only [Act.put, List.setIfInBounds_toArray, List.set_cons_zero, List.set_cons_succ]
  refine wpAnyH_take (i := 6) (oi := ⟨some 19, Op.binOp BinOp.neq 3 (Operand.tmp 14) (Operand.tmp 18) 3, 4, _, _, none⟩) (v := ?v6n1k7) rfl (by kernel_rfl) (by kernel_rfl) (by kernel_rfl) (fun _ _ _ h => h) (Or.inl ⟨by rfl, ?y6n1k7⟩) hHeld ?z6n1k7
  case y6n1k7 => intro w hSw; (try dsimp only at hSw); go_simp <;> rfl
  try simp only [Act.put, List.setIfInBounds_toArray, List.set_cons_zero, List.set_cons_succ]
  refine wpAnyH_take (i := 7) (oi := ⟨some 20, Op.move (Operand.tmp 19), 4, _, _, none⟩) (v := ?v7n1k8) rfl (by kernel_rfl) (by kernel_rfl) (by kernel_rfl) (fun _ _ _ h => h) (Or.inl ⟨by rfl, ?y7n1k8⟩) hHeld ?z7n1k8
  case y7n1k8 => intro w hSw; (try dsimp only at hSw); go_simp <;> rfl
  try simp only [Act.put, List.setIfInBounds_toArray, List.set_cons_zero, List.set_cons_succ]
  refine wpAnyH_take (i := 8) (oi := ⟨some 21, Op.fieldAddr 33 (Operand.tmp 3) 1, 0, _, _, some (7, false)⟩) (v := ?v8n1k9) rfl (by kernel_rfl) (by kernel_rfl) (by kernel_rfl) (fun _ _ _ h => h) (Or.inl ⟨by rfl, ?y8n1k9⟩) hHeld ?z8n1k9
  case y8n1k9 => intro w hSw; (try dsimp only at hSw); go_simp <;> rfl
  try simp only [Act.put, List.setIfInBounds_toArray, List.set_cons_zero, List.set_cons_succ]
  refine wpAnyH_take (i := 9) (oi := ⟨some 22, Op.load 3 (Operand.tmp 21), 3, _, _, some (7, false)⟩) (v := ?v9n1k10) rfl (by kernel_rfl) (by kernel_rfl) (by kernel_rfl) (fun _ _ _ h => h) (Or.inl ⟨by rfl, ?y9n1k10⟩) hHeld ?z9n1k10
  case y9n1k10 => intro w hSw; (try dsimp only at hSw); go_simp <;> rfl
  try simp only [Act.put, List.setIfInBounds_toArray, List.set_cons_zero, List.set_cons_succ]
  refine wpAnyH_take (i := 10) (oi := ⟨some 23, Op.move (Operand.tmp 0), 24, _, _, some (7, false)⟩) (v := ?v10n1k11) rfl (by kernel_rfl) (by kernel_rfl) (by kernel_rfl) (fun _ _ _ h => h) (Or.inl ⟨by rfl, ?y10n1k11⟩) hHeld ?z10n1k11
  case y10n1k11 => intro w hSw; (try dsimp only at hSw); go_simp <;> rfl
  try simp only [Act.put, List.setIfInBounds_toArray, List.set_cons_zero, List.set_cons_succ]
  refine wpAnyH_take (i := 11) (oi := ⟨some 24, Op.nilCheck (Operand.tmp 23), 0, _, _, some (7, false)⟩) (v := ?v11n1k12) rfl (by kernel_rfl) (by kernel_rfl) (by kernel_rfl) (fun _ _ _ h => h) (Or.inl ⟨by rfl, ?y11n1k12⟩) hHeld ?z11n1k12
  case y11n1k12 => intro w hSw; (try dsimp only at hSw); go_simp <;> rfl
  try simp only [Act.put, List.setIfInBounds_toArray, List.set_cons_zero, List.set_cons_succ]
  refine wpAnyH_take (i := 12) (oi := ⟨some 25, Op.fieldAddr 29 (Operand.tmp 24) 1, 0, _, _, some (7, false)⟩) (v := ?v12n1k13) rfl (by kernel_rfl) (by kernel_rfl) (by kernel_rfl) (fun _ _ _ h => h) (Or.inl ⟨by rfl, ?y12n1k13⟩) hHeld ?z12n1k13
  case y12n1k13 => intro w hSw; (try dsimp only at hSw); go_simp <;> rfl
  try simp only [Act.put, List.setIfInBounds_toArray, List.set_cons_zero, List.set_cons_succ]
  refine wpAnyH_take (i := 13) (oi := ⟨some 26, Op.load 3 (Operand.tmp 25), 3, _, _, some (7, false)⟩) (v := ?v13n1k14) rfl (by kernel_rfl) (by kernel_rfl) (by kernel_rfl) (fun _ _ _ h => h) (Or.inl ⟨by rfl, ?y13n1k14⟩) hHeld ?z13n1k14
  case y13n1k14 => intro w hSw; (try dsimp only at hSw); go_simp <;> rfl
  try simp only [Act.put, List.setIfInBounds_toArray, List.set_cons_zero, List.set_cons_succ]
  refine wpAnyH_take (i := 14) (oi := ⟨some 27, Op.binOp BinOp.neq 3 (Operand.tmp 22) (Operand.tmp 26) 3, 4, _, _, some (7, false)⟩) (v := ?v14n1k15) rfl (by kernel_rfl) (by kernel_rfl) (by kernel_rfl) (fun _ _ _ h => h) (Or.inl ⟨by rfl, ?y14n1k15⟩) hHeld ?z14n1k15
  case y14n1k15 => intro w hSw; (try dsimp only at hSw); go_simp <;> rfl
  try simp only [Act.put, List.setIfInBounds_toArray, List.set_cons_zero, List.set_cons_succ]
  refine wpAnyH_take (i := 15) (oi := ⟨some 28, Op.pick (Operand.tmp 20) (Operand.const (Value.bool true)) (Operand.tmp 27), 4, _, _, none⟩) (v := ?v15n1k16) rfl (by kernel_rfl) (by kernel_rfl) (by kernel_rfl) (fun _ _ _ h => h) (Or.inl ⟨by rfl, ?y15n1k16⟩) hHeld ?z15n1k16
  case y15n1k16 => intro w hSw; (try dsimp only at hSw); go_simp <;> rfl
  try simp only [Act.put, List.setIfInBounds_toArray, List.set_cons_zero, List.set_cons_succ]
  refine wpAnyH_take (i := 16) (oi := ⟨some 29, Op.move (Operand.tmp 28), 4, _, _, none⟩) (v := ?v16n1k17) rfl (by kernel_rfl) (by kernel_rfl) (by kernel_rfl) (fun _ _ _ h => h) (Or.inl ⟨by rfl, ?y16n1k17⟩) hHeld ?z16n1k17
  case y16n1k17 => intro w hSw; (try dsimp only at hSw); go_simp <;> rfl
  try simp only [Act.put, List.setIfInBounds_toArray, List.set_cons_zero, List.set_cons_succ]
  refine wpAnyH_take (i := 17) (oi := ⟨some 30, Op.fieldAddr 33 (Operand.tmp 3) 2, 0, _, _, some (16, false)⟩) (v := ?v17n1k18) rfl (by kernel_rfl) (by kernel_rfl) (by kernel_rfl) (fun _ _ _ h => h) (Or.inl ⟨by rfl, ?y17n1k18⟩) hHeld ?z17n1k18
  case y17n1k18 => intro w hSw; (try dsimp only at hSw); go_simp <;> rfl
  try simp only [Act.put, List.setIfInBounds_toArray, List.set_cons_zero, List.set_cons_succ]
  refine wpAnyH_take (i := 18) (oi := ⟨some 31, Op.load 30 (Operand.tmp 30), 30, _, _, some (16, false)⟩) (v := ?v18n1k19) rfl (by kernel_rfl) (by kernel_rfl) (by kernel_rfl) (fun _ _ _ h => h) (Or.inl ⟨by rfl, ?y18n1k19⟩) hHeld ?z18n1k19
  case y18n1k19 => intro w hSw; (try dsimp only at hSw); go_simp <;> rfl
  try simp only [Act.put, List.setIfInBounds_toArray, List.set_cons_zero, List.set_cons_succ]
  refine wpAnyH_take (i := 19) (oi := ⟨some 32, Op.call { callee := Callee.builtin Builtin.len, args := #[Operand.tmp 31], argTypes := #[30] }, 3, _, _, some (16, false)⟩) (v := ?v19n1k20) rfl (by kernel_rfl) (by kernel_rfl) (by kernel_rfl) (fun _ _ _ h => h) (Or.inl ⟨by rfl, ?y19n1k20⟩) hHeld ?z19n1k20
  case y19n1k20 => intro w hSw; (try dsimp only at hSw); go_simp <;> rfl
  try simp only [Act.put, List.setIfInBounds_toArray, List.set_cons_zero, List.set_cons_succ]
  refine wpAnyH_take (i := 20) (oi := ⟨some 33, Op.move (Operand.tmp 0), 24, _, _, some (16, false)⟩) (v := ?v20n1k21) rfl (by kernel_rfl) (by kernel_rfl) (by kernel_rfl) (fun _ _ _ h => h) (Or.inl ⟨by rfl, ?y20n1k21⟩) hHeld ?z20n1k21
  case y20n1k21 => intro w hSw; (try dsimp only at hSw); go_simp <;> rfl
  try simp only [Act.put, List.setIfInBounds_toArray, List.set_cons_zero, List.set_cons_succ]
  refine wpAnyH_take (i := 21) (oi := ⟨some 34, Op.nilCheck (Operand.tmp 33), 0, _, _, some (16, false)⟩) (v := ?v21n1k22) rfl (by kernel_rfl) (by kernel_rfl) (by kernel_rfl) (fun _ _ _ h => h) (Or.inl ⟨by rfl, ?y21n1k22⟩) hHeld ?z21n1k22
  case y21n1k22 => intro w hSw; (try dsimp only at hSw); go_simp <;> rfl
  try simp only [Act.put, List.setIfInBounds_toArray, List.set_cons_zero, List.set_cons_succ]
  refine wpAnyH_take (i := 22) (oi := ⟨some 35, Op.fieldAddr 29 (Operand.tmp 34) 2, 0, _, _, some (16, false)⟩) (v := ?v22n1k23) rfl (by kernel_rfl) (by kernel_rfl) (by kernel_rfl) (fun _ _ _ h => h) (Or.inl ⟨by rfl, ?y22n1k23⟩) hHeld ?z22n1k23
  case y22n1k23 => intro w hSw; (try dsimp only at hSw); go_simp <;> rfl
  try simp only [Act.put, List.setIfInBounds_toArray, List.set_cons_zero, List.set_cons_succ]
  refine wpAnyH_take (i := 23) (oi := ⟨some 36, Op.load 25 (Operand.tmp 35), 25, _, _, some (16, false)⟩) (v := ?v23n1k24) rfl (by kernel_rfl) (by kernel_rfl) (by kernel_rfl) (fun _ _ _ h => h) (Or.inl ⟨by rfl, ?y23n1k24⟩) hHeld ?z23n1k24
  case y23n1k24 => intro w hSw; (try dsimp only at hSw); go_simp <;> rfl
  try simp only [Act.put, List.setIfInBounds_toArray, List.set_cons_zero, List.set_cons_succ]
  refine wpAnyH_take (i := 24) (oi := ⟨some 37, Op.call { callee := Callee.builtin Builtin.len, args := #[Operand.tmp 36], argTypes := #[25] }, 3, _, _, some (16, false)⟩) (v := ?v24n1k25) rfl (by kernel_rfl) (by kernel_rfl) (by kernel_rfl) (fun _ _ _ h => h) (Or.inl ⟨by rfl, ?y24n1k25⟩) hHeld ?z24n1k25
  case y24n1k25 => intro w hSw; (try dsimp only at hSw); go_simp <;> rfl
  try simp only [Act.put, List.setIfInBounds_toArray, List.set_cons_zero, List.set_cons_succ]
  refine wpAnyH_take (i := 25) (oi := ⟨some 38, Op.binOp BinOp.neq 3 (Operand.tmp 32) (Operand.tmp 37) 3, 4, _, _, some (16, false)⟩) (v := ?v25n1k26) rfl (by kernel_rfl) (by kernel_rfl) (by kernel_rfl) (fun _ _ _ h => h) (Or.inl ⟨by rfl, ?y25n1k26⟩) hHeld ?z25n1k26
  case y25n1k26 => intro w hSw; (try dsimp only at hSw); go_simp <;> rfl
  try simp only [Act.put, List.setIfInBounds_toArray, List.set_cons_zero, List.set_cons_succ]
  refine wpAnyH_take (i := 26) (oi := ⟨some 39, Op.pick (Operand.tmp 29) (Operand.const (Value.bool true)) (Operand.tmp 38), 4, _, _, none⟩) (v := ?v26n1k27) rfl (by kernel_rfl) (by kernel_rfl) (by kernel_rfl) (fun _ _ _ h => h) (Or.inl ⟨by rfl, ?y26n1k27⟩) hHeld ?z26n1k27
  case y26n1k27 => intro w hSw; (try dsimp only at hSw); go_simp <;> rfl
  try simp only [Act.put, List.setIfInBounds_toArray, List.set_cons_zero, List.set_cons_succ]
  refine wpAnyH_take (i := 27) (oi := ⟨some 40, Op.move (Operand.tmp 39), 4, _, _, none⟩) (v := ?v27n1k28) rfl (by kernel_rfl) (by kernel_rfl) (by kernel_rfl) (fun _ _ _ h => h) (Or.inl ⟨by rfl, ?y27n1k28⟩) hHeld ?z27n1k28
  case y27n1k28 => intro w hSw; (try dsimp only at hSw); go_simp <;> rfl
  try simp only [Act.put, List.setIfInBounds_toArray, List.set_cons_zero, List.set_cons_succ]
  refine wpAnyH_take (i := 28) (oi := ⟨some 41, Op.fieldAddr 33 (Operand.tmp 3) 3, 0, _, _, some (27, false)⟩) (v := ?v28n1k29) rfl (by kernel_rfl) (by kernel_rfl) (by kernel_rfl) (fun _ _ _ h => h) (Or.inl ⟨by rfl, ?y28n1k29⟩) hHeld ?z28n1k29
  case y28n1k29 => intro w hSw; (try dsimp only at hSw); go_simp <;> rfl
  try simp only [Act.put, List.setIfInBounds_toArray, List.set_cons_zero, List.set_cons_succ]
  refine wpAnyH_take (i := 29) (oi := ⟨some 42, Op.load 31 (Operand.tmp 41), 31, _, _, some (27, false)⟩) (v := ?v29n1k30) rfl (by kernel_rfl) (by kernel_rfl) (by kernel_rfl) (fun _ _ _ h => h) (Or.inl ⟨by rfl, ?y29n1k30⟩) hHeld ?z29n1k30
  case y29n1k30 => intro w hSw; (try dsimp only at hSw); go_simp <;> rfl
  try simp only [Act.put, List.setIfInBounds_toArray, List.set_cons_zero, List.set_cons_succ]
  refine wpAnyH_take (i := 30) (oi := ⟨some 43, Op.call { callee := Callee.builtin Builtin.len, args := #[Operand.tmp 42], argTypes := #[31] }, 3, _, _, some (27, false)⟩) (v := ?v30n1k31) rfl (by kernel_rfl) (by kernel_rfl) (by kernel_rfl) (fun _ _ _ h => h) (Or.inl ⟨by rfl, ?y30n1k31⟩) hHeld ?z30n1k31
  case y30n1k31 => intro w hSw; (try dsimp only at hSw); go_simp <;> rfl
  try simp only [Act.put, List.setIfInBounds_toArray, List.set_cons_zero, List.set_cons_succ]
  refine wpAnyH_take (i := 31) (oi := ⟨some 44, Op.move (Operand.tmp 0), 24, _, _, some (27, false)⟩) (v := ?v31n1k32) rfl (by kernel_rfl) (by kernel_rfl) (by kernel_rfl) (fun _ _ _ h => h) (Or.inl ⟨by rfl, ?y31n1k32⟩) hHeld ?z31n1k32
  case y31n1k32 => intro w hSw; (try dsimp only at hSw); go_simp <;> rfl
  try simp only [Act.put, List.setIfInBounds_toArray, List.set_cons_zero, List.set_cons_succ]
  refine wpAnyH_take (i := 32) (oi := ⟨some 45, Op.nilCheck (Operand.tmp 44), 0, _, _, some (27, false)⟩) (v := ?v32n1k33) rfl (by kernel_rfl) (by kernel_rfl) (by kernel_rfl) (fun _ _ _ h => h) (Or.inl ⟨by rfl, ?y32n1k33⟩) hHeld ?z32n1k33
  case y32n1k33 => intro w hSw; (try dsimp only at hSw); go_simp <;> rfl
  try simp only [Act.put, List.setIfInBounds_toArray, List.set_cons_zero, List.set_cons_succ]
  refine wpAnyH_take (i := 33) (oi := ⟨some 46, Op.fieldAddr 29 (Operand.tmp 45) 3, 0, _, _, some (27, false)⟩) (v := ?v33n1k34) rfl (by kernel_rfl) (by kernel_rfl) (by kernel_rfl) (fun _ _ _ h => h) (Or.inl ⟨by rfl, ?y33n1k34⟩) hHeld ?z33n1k34
  case y33n1k34 => intro w hSw; (try dsimp only at hSw); go_simp <;> rfl
  try simp only [Act.put, List.setIfInBounds_toArray, List.set_cons_zero, List.set_cons_succ]
  refine wpAnyH_take (i := 34) (oi := ⟨some 47, Op.load 26 (Operand.tmp 46), 26, _, _, some (27, false)⟩) (v := ?v34n1k35) rfl (by kernel_rfl) (by kernel_rfl) (by kernel_rfl) (fun _ _ _ h => h) (Or.inl ⟨by rfl, ?y34n1k35⟩) hHeld ?z34n1k35
  case y34n1k35 => intro w hSw; (try dsimp only at hSw); go_simp <;> rfl
  try simp only [Act.put, List.setIfInBounds_toArray, List.set_cons_zero, List.set_cons_succ]
  refine wpAnyH_take (i := 35) (oi := ⟨some 48, Op.call { callee := Callee.builtin Builtin.len, args := #[Operand.tmp 47], argTypes := #[26] }, 3, _, _, some (27, false)⟩) (v := ?v35n1k36) rfl (by kernel_rfl) (by kernel_rfl) (by kernel_rfl) (fun _ _ _ h => h) (Or.inl ⟨by rfl, ?y35n1k36⟩) hHeld ?z35n1k36
  case y35n1k36 => intro w hSw; (try dsimp only at hSw); go_simp <;> rfl
  try simp only [Act.put, List.setIfInBounds_toArray, List.set_cons_zero, List.set_cons_succ]
  refine wpAnyH_take (i := 36) (oi := ⟨some 49, Op.binOp BinOp.neq 3 (Operand.tmp 43) (Operand.tmp 48) 3, 4, _, _, some (27, false)⟩) (v := ?v36n1k37) rfl (by kernel_rfl) (by kernel_rfl) (by kernel_rfl) (fun _ _ _ h => h) (Or.inl ⟨by rfl, ?y36n1k37⟩) hHeld ?z36n1k37
  case y36n1k37 => intro w hSw; (try dsimp only at hSw); go_simp <;> rfl
  try simp only [Act.put, List.setIfInBounds_toArray, List.set_cons_zero, List.set_cons_succ]
  refine wpAnyH_take (i := 37) (oi := ⟨some 50, Op.pick (Operand.tmp 40) (Operand.const (Value.bool true)) (Operand.tmp 49), 4, _, _, none⟩) (v := ?v37n1k38) rfl (by kernel_rfl) (by kernel_rfl) (by kernel_rfl) (fun _ _ _ h => h) (Or.inl ⟨by rfl, ?y37n1k38⟩) hHeld ?z37n1k38
  case y37n1k38 => intro w hSw; (try dsimp only at hSw); go_simp <;> rfl
  try simp only [Act.put, List.setIfInBounds_toArray, List.set_cons_zero, List.set_cons_succ]
  refine wpAnyH_done (by kernel_rfl) ?_ _
  refine NoPanic.normal ?_
  clear hHeld SM i1 i2 i3 i4
  have kd := Kept.drew noBlock w1
  generalize w1.drew = w2 at kd ⊢
  have K2 := Lib.hid (KA.out.step kd)
  have HB2 := Lib.hid (kd.blk HB.out (fun h => h))
  have HM2 := Lib.hid (HM.out.kept K2.out)
  clear kd KA HB
  obtain ⟨c0, c1, c2, c3⟩ := st_cells HB2.out
  go_wp2_with fail
  go_loopw [54] (fun i wr => ∃ k : Nat, k ≤ n ∧ i = .int .i64 (k : Int) ∧ Hid (Kept noBlock w2 wr)) (fun i _ => n - (intOf i).toNat)
  case atStart => exact ⟨0, by omega, rfl, Kept.refl _ _⟩
  case round =>
    obtain ⟨k, hk, rfl, HK⟩ := hrel
    by_cases hlt : k < n
    · obtain ⟨p, hp⟩ : ∃ p, s.pairs[k]? = some p := ⟨_, List.getElem?_eq_getElem (by have := HN.out; omega)⟩
      obtain ⟨g, o, rfl, _, cc⟩ := (HLP.out.keep (K2.out.step HK.out) (fun _ _ h => h)).elem PR.enc_len (by omega) hp
      have e0 := cc 0 _ rfl
      have e1 := cc 1 _ rfl
      have e2 := cc 2 _ rfl
      rw [Nat.add_zero] at e0
      have hlk : Srt.look (keysM s) p.1 = some p.2.1 := by
        unfold keysM
        rw [mapV_look, Srt.look_of_mem HS.out.up (k := p.1) (v := p.2) (List.mem_of_getElem? hp)]
        rfl
      have hfit := fits_key HS.out (List.mem_of_getElem? hp)
      obtain ⟨xk, xv, xg⟩ := p
      simp only at e0 e1 e2 hlk hfit
      have ka := Kept.alloc noBlock wr (.cells #[.string xk, .string xv, .bool xg] 61)
      have hb := heap_alloc_new wr (.cells #[.string xk, .string xv, .bool xg] 61)
      clear hp cc c0 c1 c2 c3
      go_upto_region 6 with (fail)
      obtain ⟨P, hP⟩ : ∃ P, P = wr.heap.size := ⟨_, rfl⟩
      rw [← hP] at hb ⊢
      generalize wr.alloc (.cells #[.string xk, .string xv, .bool xg] 61) = u1 at ka hb ⊢
      have KU := Lib.hid (HK.out.step ka)
      have HU := Lib.hid (HM2.out.kept KU.out)
      have HP1 := Lib.hid hb
      clear ka hb hP e0 e1 e2
      have SM : Hid (∀ u, Kept noBlock u1 u → u.cell? ⟨m, 2, none⟩ = some (.map (some b1)) ∧ (u.cell? ⟨P, 0, none⟩ = some (.string xk) ∧ u.cell? ⟨P, 1, none⟩ = some (.string xv)) ∧ (Instr.lookup 25 (.map (some b1)) (.string xk) true).run Try.prog u = .ok (.tuple #[.string xv, .bool true]) u) := fun u k => by
        have hu := HU.out.kept k
        have hr := MS.run_look2 hu.keys xk hfit
        unfold Srt.has at hr
        rw [hlk] at hr
        have hq := k.blk HP1.out (fun h => h)
        exact ⟨hu.cells.2.2.1, ⟨cell_of_row _ _ _ _ _ _ hq, cell_of_row _ _ _ _ _ _ hq⟩, hr⟩
      have hne : (xv.toList == xv.toList) = true := by simp
      clear hlk hfit
      refine wp_region_noPanic ?_
      refine wp_region_held_drew (S := fun u => u.cell? ⟨m, 2, none⟩ = some (.map (some b1)) ∧ (u.cell? ⟨P, 0, none⟩ = some (.string xk) ∧ u.cell? ⟨P, 1, none⟩ = some (.string xv)) ∧ (Instr.lookup 25 (.map (some b1)) (.string xk) true).run Try.prog u = .ok (.tuple #[.string xv, .bool true]) u) (by kernel_rfl) (SM.out _ (Kept.drew _ _)) (fun hHeld => ?_)
      refine wpAnyH_take (i := 0) (oi := ⟨some 59, Op.move (Operand.tmp 0), 24, _, _, none⟩) (v := ?v0n2k1) rfl (by kernel_rfl) (by kernel_rfl) (by kernel_rfl) (fun _ _ _ h => h) (Or.inl ⟨by rfl, ?y0n2k1⟩) hHeld ?z0n2k1
      case y0n2k1 => intro w hSw; (try dsimp only at hSw); go_simp <;> rfl
      try simp only [Act.put, List.setIfInBounds_toArray, List.set_cons_zero, List.set_cons_succ]
      refine wpAnyH_take (i := 1) (oi := ⟨some 60, Op.nilCheck (Operand.tmp 59), 0, _, _, none⟩) (v := ?v1n2k2) rfl (by kernel_rfl) (by kernel_rfl) (by kernel_rfl) (fun _ _ _ h => h) (Or.inl ⟨by rfl, ?y1n2k2⟩) hHeld ?z1n2k2
      case y1n2k2 => intro w hSw; (try dsimp only at hSw); go_simp <;> rfl
      try simp only [Act.put, List.setIfInBounds_toArray, List.set_cons_zero, List.set_cons_succ]
      refine wpAnyH_take (i := 2) (oi := ⟨some 61, Op.fieldAddr 29 (Operand.tmp 60) 2, 0, _, _, none⟩) (v := ?v2n2k3) rfl (by kernel_rfl) (by kernel_rfl) (by kernel_rfl) (fun _ _ _ h => h) (Or.inl ⟨by rfl, ?y2n2k3⟩) hHeld ?z2n2k3
      case y2n2k3 => intro w hSw; (try dsimp only at hSw); go_simp <;> rfl
      try simp only [Act.put, List.setIfInBounds_toArray, List.set_cons_zero, List.set_cons_succ]
      refine wpAnyH_take (i := 3) (oi := ⟨some 62, Op.load 25 (Operand.tmp 61), 25, _, _, none⟩) (v := ?v3n2k4) rfl (by kernel_rfl) (by kernel_rfl) (by kernel_rfl) (fun _ _ _ h => h) (Or.inl ⟨by rfl, ?y3n2k4⟩) hHeld ?z3n2k4
      case y3n2k4 => intro w hSw; (try dsimp only at hSw); go_simp <;> rfl
      try simp only [Act.put, List.setIfInBounds_toArray, List.set_cons_zero, List.set_cons_succ]
      refine wpAnyH_take (i := 4) (oi := ⟨some 63, Op.fieldAddr 61 (Operand.tmp 6) 0, 0, _, _, none⟩) (v := ?v4n2k5) rfl (by kernel_rfl) (by kernel_rfl) (by kernel_rfl) (fun _ _ _ h => h) (Or.inl ⟨by rfl, ?y4n2k5⟩) hHeld ?z4n2k5
      case y4n2k5 => intro w hSw; (try dsimp only at hSw); go_simp <;> rfl
      try simp only [Act.put, List.setIfInBounds_toArray, List.set_cons_zero, List.set_cons_succ]
      refine wpAnyH_take (i := 5) (oi := ⟨some 64, Op.load 9 (Operand.tmp 63), 9, _, _, none⟩) (v := ?v5n2k6) rfl (by kernel_rfl) (by kernel_rfl) (by kernel_rfl) (fun _ _ _ h => h) (Or.inl ⟨by rfl, ?y5n2k6⟩) hHeld ?z5n2k6
      case y5n2k6 => intro w hSw; (try dsimp only at hSw); go_simp <;> rfl
      try simp only [Act.put, List.setIfInBounds_toArray, List.set_cons_zero, List.set_cons_succ]
      refine wpAnyH_take (i := 6) (oi := ⟨some 65, Op.lookup 25 (Operand.tmp 62) (Operand.tmp 64) true, 49, _, _, none⟩) (v := ?v6n2k7) rfl (by kernel_rfl) (by kernel_rfl) (by kernel_rfl) (fun _ _ _ h => h) (Or.inl ⟨by rfl, ?y6n2k7⟩) hHeld ?z6n2k7
      case y6n2k7 => intro w hSw; (try dsimp only at hSw); go_simp <;> rfl
      try simp only [Act.put, List.setIfInBounds_toArray, List.set_cons_zero, List.set_cons_succ]
      refine wpAnyH_take (i := 7) (oi := ⟨some 58, Op.move (Operand.tmp 65), 49, _, _, none⟩) (v := ?v7n2k8) rfl (by kernel_rfl) (by kernel_rfl) (by kernel_rfl) (fun _ _ _ h => h) (Or.inl ⟨by rfl, ?y7n2k8⟩) hHeld ?z7n2k8
      case y7n2k8 => intro w hSw; (try dsimp only at hSw); go_simp <;> rfl
      try simp only [Act.put, List.setIfInBounds_toArray, List.set_cons_zero, List.set_cons_succ]
      refine wpAnyH_take (i := 8) (oi := ⟨some 66, Op.extract (Operand.tmp 58) 0, 9, _, _, none⟩) (v := ?v8n2k9) rfl (by kernel_rfl) (by kernel_rfl) (by kernel_rfl) (fun _ _ _ h => h) (Or.inl ⟨by rfl, ?y8n2k9⟩) hHeld ?z8n2k9
      case y8n2k9 => intro w hSw; (try dsimp only at hSw); go_simp <;> rfl
      try simp only [Act.put, List.setIfInBounds_toArray, List.set_cons_zero, List.set_cons_succ]
      refine wpAnyH_take (i := 9) (oi := ⟨some 67, Op.extract (Operand.tmp 58) 1, 4, _, _, none⟩) (v := ?v9n2k10) rfl (by kernel_rfl) (by kernel_rfl) (by kernel_rfl) (fun _ _ _ h => h) (Or.inl ⟨by rfl, ?y9n2k10⟩) hHeld ?z9n2k10
      case y9n2k10 => intro w hSw; (try dsimp only at hSw); go_simp <;> rfl
      try simp only [Act.put, List.setIfInBounds_toArray, List.set_cons_zero, List.set_cons_succ]
      refine wpAnyH_take (i := 10) (oi := ⟨some 7, Op.assign (Operand.tmp 66), 9, _, _, none⟩) (v := ?v10n2k11) rfl (by kernel_rfl) (by kernel_rfl) (by kernel_rfl) (fun _ _ _ h => h) (Or.inl ⟨by rfl, ?y10n2k11⟩) hHeld ?z10n2k11
      case y10n2k11 => intro w hSw; (try dsimp only at hSw); go_simp <;> rfl
      try simp only [Act.put, List.setIfInBounds_toArray, List.set_cons_zero, List.set_cons_succ]
      refine wpAnyH_take (i := 11) (oi := ⟨some 8, Op.assign (Operand.tmp 67), 4, _, _, none⟩) (v := ?v11n2k12) rfl (by kernel_rfl) (by kernel_rfl) (by kernel_rfl) (fun _ _ _ h => h) (Or.inl ⟨by rfl, ?y11n2k12⟩) hHeld ?z11n2k12
      case y11n2k12 => intro w hSw; (try dsimp only at hSw); go_simp <;> rfl
      try simp only [Act.put, List.setIfInBounds_toArray, List.set_cons_zero, List.set_cons_succ]
      refine wpAnyH_done (by kernel_rfl) ?_ _
      refine NoPanic.normal ?_
      have kd := Kept.drew noBlock u1
      have KW := Lib.hid (KU.out.step kd)
      obtain ⟨_, ⟨q0, q1⟩, _⟩ := SM.out _ kd
      clear hHeld kd SM
      go_wp2
      go_roundw
      case rel => exact ⟨k + 1, by omega, by go_num, KW⟩
      case measure => simp [intOf]; omega
    · obtain rfl : k = n := by omega
      have K3 := Lib.hid (K2.out.step HK.out)
      have HM3 := Lib.hid (HM.out.kept K3.out)
      have HB3 := Lib.hid (HK.out.blk HB2.out (fun h => h))
      clear c0 c1 c2 c3 HM2 HB2 K2 HLP
      obtain ⟨c0, c1, c2, c3⟩ := st_cells HB3.out
      go_wp2_with fail
      go_loopw [80] (fun i v5 => ∃ j : Nat, j ≤ m4 ∧ i = .int .i64 (j : Int) ∧ Hid (Kept noBlock wr v5)) (fun i _ => m4 - (intOf i).toNat)
      case atStart => exact ⟨0, by omega, rfl, Kept.refl _ _⟩
      case round =>
        obtain ⟨j, hj, rfl, HJ⟩ := hrel
        by_cases hlt2 : j < m4
        · obtain ⟨x, hx⟩ : ∃ x, s.sess[j]? = some x := ⟨_, List.getElem?_eq_getElem (by have := HM4.out; omega)⟩
          obtain ⟨g, o, rfl, _, cc⟩ := (HLS.out.keep (K3.out.step HJ.out) (fun _ _ h => h)).elem SN.enc_len (by omega) hx
          have e0 := cc 0 _ rfl
          have e1 := cc 1 _ rfl
          have e2 := cc 2 _ rfl
          have e3 := cc 3 _ rfl
          rw [Nat.add_zero] at e0
          have hl0 := Srt.look_of_mem HS.out.ups (k := x.1) (v := x.2) (List.mem_of_getElem? hx)
          have hl1 : Srt.look (seqsM s) x.1 = some x.2.1 := by unfold seqsM; rw [mapV_look, hl0]; rfl
          have hl2 : Srt.look (toldM s) x.1 = some x.2.2 := by unfold toldM; rw [mapV_look, hl0]; rfl
          have hfit := fits_client HS.out (List.mem_of_getElem? hx)
          obtain ⟨xc, xq, xe, xv⟩ := x
          simp only at e0 e1 e2 e3 hl1 hl2 hfit
          have ka := Kept.alloc noBlock wr (.cells #[.int .i64 xc, .int .i64 xq, .int .i64 xe, .string xv] 84)
          have hb := heap_alloc_new wr (.cells #[.int .i64 xc, .int .i64 xq, .int .i64 xe, .string xv] 84)
          clear hx cc c0 c1 c2 c3 hl0
          go_upto_region 13 with (fail)
          obtain ⟨P, hP⟩ : ∃ P, P = wr.heap.size := ⟨_, rfl⟩
          rw [← hP] at hb ⊢
          generalize wr.alloc (.cells #[.int .i64 xc, .int .i64 xq, .int .i64 xe, .string xv] 84) = u1 at ka hb ⊢
          have KU := Lib.hid (HJ.out.step ka)
          have HU := Lib.hid (HM3.out.kept KU.out)
          have HP1 := Lib.hid hb
          clear ka hb hP e0 e1 e2 e3
          have SM : Hid (∀ u, Kept noBlock u1 u → (u.cell? ⟨m, 3, none⟩ = some (.map (some b2)) ∧ u.cell? ⟨m, 4, none⟩ = some (.map (some b3))) ∧ (u.cell? ⟨P, 0, none⟩ = some (.int .i64 xc) ∧ u.cell? ⟨P, 1, none⟩ = some (.int .i64 xq) ∧ u.cell? ⟨P, 2, none⟩ = some (.int .i64 xe) ∧ u.cell? ⟨P, 3, none⟩ = some (.string xv)) ∧ (Instr.lookup 26 (.map (some b2)) (.int .i64 xc) true).run Try.prog u = .ok (.tuple #[.int .i64 xq, .bool true]) u ∧
              (Instr.lookup 27 (.map (some b3)) (.int .i64 xc) false).run Try.prog u = .ok (.agg #[.int .i64 xe, .string xv]) u) := fun u k => by
            have hu := HU.out.kept k
            have hr := MI.run_look2 hu.seqs xc hfit
            unfold Srt.has at hr
            rw [hl1] at hr
            have hr2 := MR.run_look1 hu.told xc hfit
            rw [hl2] at hr2
            exact ⟨⟨hu.cells.2.2.2.1, hu.cells.2.2.2.2⟩, st_cells (k.blk HP1.out (fun h => h)), hr, hr2⟩
          have hne : (xq != xq) = false := by simp
          have RN : ∀ u, (binOp .neq 44 (.agg #[.int .i64 xe, .string xv]) (.agg #[.int .i64 xe, .string xv])).run Try.prog u = .ok (.bool false) u := fun u => by
            have := rep_neq u ⟨xe, xv⟩ ⟨xe, xv⟩
            rw [RepV.same_self] at this
            exact this
          clear hl1 hl2 hfit
          refine wp_region_noPanic ?_
          refine wp_region_held_drew (S := fun u => (u.cell? ⟨m, 3, none⟩ = some (.map (some b2)) ∧ u.cell? ⟨m, 4, none⟩ = some (.map (some b3))) ∧ (u.cell? ⟨P, 0, none⟩ = some (.int .i64 xc) ∧ u.cell? ⟨P, 1, none⟩ = some (.int .i64 xq) ∧ u.cell? ⟨P, 2, none⟩ = some (.int .i64 xe) ∧ u.cell? ⟨P, 3, none⟩ = some (.string xv)) ∧ (Instr.lookup 26 (.map (some b2)) (.int .i64 xc) true).run Try.prog u = .ok (.tuple #[.int .i64 xq, .bool true]) u ∧ (Instr.lookup 27 (.map (some b3)) (.int .i64 xc) false).run Try.prog u = .ok (.agg #[.int .i64 xe, .string xv]) u) (by kernel_rfl) (SM.out _ (Kept.drew _ _)) (fun hHeld => ?_)
          refine wpAnyH_take (i := 0) (oi := ⟨some 85, Op.move (Operand.tmp 0), 24, _, _, none⟩) (v := ?v0n3k1) rfl (by kernel_rfl) (by kernel_rfl) (by kernel_rfl) (fun _ _ _ h => h) (Or.inl ⟨by rfl, ?y0n3k1⟩) hHeld ?z0n3k1
          case y0n3k1 => intro w hSw; (try dsimp only at hSw); go_simp <;> rfl
          try simp only [Act.put, List.setIfInBounds_toArray, List.set_cons_zero, List.set_cons_succ]
          refine wpAnyH_take (i := 1) (oi := ⟨some 86, Op.nilCheck (Operand.tmp 85), 0, _, _, none⟩) (v := ?v1n3k2) rfl (by kernel_rfl) (by kernel_rfl) (by kernel_rfl) (fun _ _ _ h => h) (Or.inl ⟨by rfl, ?y1n3k2⟩) hHeld ?z1n3k2
          case y1n3k2 => intro w hSw; (try dsimp only at hSw); go_simp <;> rfl
          try simp only [Act.put, List.setIfInBounds_toArray, List.set_cons_zero, List.set_cons_succ]
          refine wpAnyH_take (i := 2) (oi := ⟨some 87, Op.fieldAddr 29 (Operand.tmp 86) 3, 0, _, _, none⟩) (v := ?v2n3k3) rfl (by kernel_rfl) (by kernel_rfl) (by kernel_rfl) (fun _ _ _ h => h) (Or.inl ⟨by rfl, ?y2n3k3⟩) hHeld ?z2n3k3
          case y2n3k3 => intro w hSw; (try dsimp only at hSw); go_simp <;> rfl
          try simp only [Act.put, List.setIfInBounds_toArray, List.set_cons_zero, List.set_cons_succ]
          refine wpAnyH_take (i := 3) (oi := ⟨some 88, Op.load 26 (Operand.tmp 87), 26, _, _, none⟩) (v := ?v3n3k4) rfl (by kernel_rfl) (by kernel_rfl) (by kernel_rfl) (fun _ _ _ h => h) (Or.inl ⟨by rfl, ?y3n3k4⟩) hHeld ?z3n3k4
          case y3n3k4 => intro w hSw; (try dsimp only at hSw); go_simp <;> rfl
          try simp only [Act.put, List.setIfInBounds_toArray, List.set_cons_zero, List.set_cons_succ]
          refine wpAnyH_take (i := 4) (oi := ⟨some 89, Op.fieldAddr 84 (Operand.tmp 10) 0, 0, _, _, none⟩) (v := ?v4n3k5) rfl (by kernel_rfl) (by kernel_rfl) (by kernel_rfl) (fun _ _ _ h => h) (Or.inl ⟨by rfl, ?y4n3k5⟩) hHeld ?z4n3k5
          case y4n3k5 => intro w hSw; (try dsimp only at hSw); go_simp <;> rfl
          try simp only [Act.put, List.setIfInBounds_toArray, List.set_cons_zero, List.set_cons_succ]
          refine wpAnyH_take (i := 5) (oi := ⟨some 90, Op.load 3 (Operand.tmp 89), 3, _, _, none⟩) (v := ?v5n3k6) rfl (by kernel_rfl) (by kernel_rfl) (by kernel_rfl) (fun _ _ _ h => h) (Or.inl ⟨by rfl, ?y5n3k6⟩) hHeld ?z5n3k6
          case y5n3k6 => intro w hSw; (try dsimp only at hSw); go_simp <;> rfl
          try simp only [Act.put, List.setIfInBounds_toArray, List.set_cons_zero, List.set_cons_succ]
          refine wpAnyH_take (i := 6) (oi := ⟨some 91, Op.lookup 26 (Operand.tmp 88) (Operand.tmp 90) true, 90, _, _, none⟩) (v := ?v6n3k7) rfl (by kernel_rfl) (by kernel_rfl) (by kernel_rfl) (fun _ _ _ h => h) (Or.inl ⟨by rfl, ?y6n3k7⟩) hHeld ?z6n3k7
          case y6n3k7 => intro w hSw; (try dsimp only at hSw); go_simp <;> rfl
          try simp only [Act.put, List.setIfInBounds_toArray, List.set_cons_zero, List.set_cons_succ]
          refine wpAnyH_take (i := 7) (oi := ⟨some 84, Op.move (Operand.tmp 91), 90, _, _, none⟩) (v := ?v7n3k8) rfl (by kernel_rfl) (by kernel_rfl) (by kernel_rfl) (fun _ _ _ h => h) (Or.inl ⟨by rfl, ?y7n3k8⟩) hHeld ?z7n3k8
          case y7n3k8 => intro w hSw; (try dsimp only at hSw); go_simp <;> rfl
          try simp only [Act.put, List.setIfInBounds_toArray, List.set_cons_zero, List.set_cons_succ]
          refine wpAnyH_take (i := 8) (oi := ⟨some 92, Op.extract (Operand.tmp 84) 0, 3, _, _, none⟩) (v := ?v8n3k9) rfl (by kernel_rfl) (by kernel_rfl) (by kernel_rfl) (fun _ _ _ h => h) (Or.inl ⟨by rfl, ?y8n3k9⟩) hHeld ?z8n3k9
          case y8n3k9 => intro w hSw; (try dsimp only at hSw); go_simp <;> rfl
          try simp only [Act.put, List.setIfInBounds_toArray, List.set_cons_zero, List.set_cons_succ]
          refine wpAnyH_take (i := 9) (oi := ⟨some 93, Op.extract (Operand.tmp 84) 1, 4, _, _, none⟩) (v := ?v9n3k10) rfl (by kernel_rfl) (by kernel_rfl) (by kernel_rfl) (fun _ _ _ h => h) (Or.inl ⟨by rfl, ?y9n3k10⟩) hHeld ?z9n3k10
          case y9n3k10 => intro w hSw; (try dsimp only at hSw); go_simp <;> rfl
          try simp only [Act.put, List.setIfInBounds_toArray, List.set_cons_zero, List.set_cons_succ]
          refine wpAnyH_take (i := 10) (oi := ⟨some 11, Op.assign (Operand.tmp 92), 3, _, _, none⟩) (v := ?v10n3k11) rfl (by kernel_rfl) (by kernel_rfl) (by kernel_rfl) (fun _ _ _ h => h) (Or.inl ⟨by rfl, ?y10n3k11⟩) hHeld ?z10n3k11
          case y10n3k11 => intro w hSw; (try dsimp only at hSw); go_simp <;> rfl
          try simp only [Act.put, List.setIfInBounds_toArray, List.set_cons_zero, List.set_cons_succ]
          refine wpAnyH_take (i := 11) (oi := ⟨some 12, Op.assign (Operand.tmp 93), 4, _, _, none⟩) (v := ?v11n3k12) rfl (by kernel_rfl) (by kernel_rfl) (by kernel_rfl) (fun _ _ _ h => h) (Or.inl ⟨by rfl, ?y11n3k12⟩) hHeld ?z11n3k12
          case y11n3k12 => intro w hSw; (try dsimp only at hSw); go_simp <;> rfl
          try simp only [Act.put, List.setIfInBounds_toArray, List.set_cons_zero, List.set_cons_succ]
          refine wpAnyH_done (by kernel_rfl) ?_ _
          refine NoPanic.normal ?_
          clear hHeld
          have kd := Kept.drew noBlock u1
          have SM2 := Lib.hid (fun u (k : Kept noBlock u1.drew u) => SM.out u (kd.step k))
          have KW := Lib.hid (KU.out.step kd)
          clear SM kd
          go_upto_region 14 with (fail)
          generalize u1.drew = u2 at SM2 KW ⊢
          refine wp_region_noPanic ?_
          refine wp_region_held_drew (S := fun u => (u.cell? ⟨m, 3, none⟩ = some (.map (some b2)) ∧ u.cell? ⟨m, 4, none⟩ = some (.map (some b3))) ∧ (u.cell? ⟨P, 0, none⟩ = some (.int .i64 xc) ∧ u.cell? ⟨P, 1, none⟩ = some (.int .i64 xq) ∧ u.cell? ⟨P, 2, none⟩ = some (.int .i64 xe) ∧ u.cell? ⟨P, 3, none⟩ = some (.string xv)) ∧ (Instr.lookup 26 (.map (some b2)) (.int .i64 xc) true).run Try.prog u = .ok (.tuple #[.int .i64 xq, .bool true]) u ∧ (Instr.lookup 27 (.map (some b3)) (.int .i64 xc) false).run Try.prog u = .ok (.agg #[.int .i64 xe, .string xv]) u) (by kernel_rfl) (SM2.out _ (Kept.drew _ _)) (fun hHeld => ?_)
          refine wpAnyH_take (i := 0) (oi := ⟨some 94, Op.move (Operand.tmp 12), 4, _, _, none⟩) (v := ?v0n4k1) rfl (by kernel_rfl) (by kernel_rfl) (by kernel_rfl) (fun _ _ _ h => h) (Or.inl ⟨by rfl, ?y0n4k1⟩) hHeld ?z0n4k1
          case y0n4k1 => intro w hSw; (try dsimp only at hSw); go_simp <;> rfl
          try simp only [Act.put, List.setIfInBounds_toArray, List.set_cons_zero, List.set_cons_succ]
          refine wpAnyH_take (i := 1) (oi := ⟨some 95, Op.unOp UnOp.not 4 (Operand.tmp 94), 4, _, _, none⟩) (v := ?v1n4k2) rfl (by kernel_rfl) (by kernel_rfl) (by kernel_rfl) (fun _ _ _ h => h) (Or.inl ⟨by rfl, ?y1n4k2⟩) hHeld ?z1n4k2
          case y1n4k2 => intro w hSw; (try dsimp only at hSw); go_simp <;> rfl
          try simp only [Act.put, List.setIfInBounds_toArray, List.set_cons_zero, List.set_cons_succ]
          refine wpAnyH_take (i := 2) (oi := ⟨some 96, Op.move (Operand.tmp 95), 4, _, _, none⟩) (v := ?v2n4k3) rfl (by kernel_rfl) (by kernel_rfl) (by kernel_rfl) (fun _ _ _ h => h) (Or.inl ⟨by rfl, ?y2n4k3⟩) hHeld ?z2n4k3
          case y2n4k3 => intro w hSw; (try dsimp only at hSw); go_simp <;> rfl
          try simp only [Act.put, List.setIfInBounds_toArray, List.set_cons_zero, List.set_cons_succ]
          refine wpAnyH_take (i := 3) (oi := ⟨some 97, Op.move (Operand.tmp 11), 3, _, _, some (2, false)⟩) (v := ?v3n4k4) rfl (by kernel_rfl) (by kernel_rfl) (by kernel_rfl) (fun _ _ _ h => h) (Or.inl ⟨by rfl, ?y3n4k4⟩) hHeld ?z3n4k4
          case y3n4k4 => intro w hSw; (try dsimp only at hSw); go_simp <;> rfl
          try simp only [Act.put, List.setIfInBounds_toArray, List.set_cons_zero, List.set_cons_succ]
          refine wpAnyH_take (i := 4) (oi := ⟨some 98, Op.fieldAddr 84 (Operand.tmp 10) 1, 0, _, _, some (2, false)⟩) (v := ?v4n4k5) rfl (by kernel_rfl) (by kernel_rfl) (by kernel_rfl) (fun _ _ _ h => h) (Or.inl ⟨by rfl, ?y4n4k5⟩) hHeld ?z4n4k5
          case y4n4k5 => intro w hSw; (try dsimp only at hSw); go_simp <;> rfl
          try simp only [Act.put, List.setIfInBounds_toArray, List.set_cons_zero, List.set_cons_succ]
          refine wpAnyH_take (i := 5) (oi := ⟨some 99, Op.load 3 (Operand.tmp 98), 3, _, _, some (2, false)⟩) (v := ?v5n4k6) rfl (by kernel_rfl) (by kernel_rfl) (by kernel_rfl) (fun _ _ _ h => h) (Or.inl ⟨by rfl, ?y5n4k6⟩) hHeld ?z5n4k6
          case y5n4k6 => intro w hSw; (try dsimp only at hSw); go_simp <;> rfl
          try simp only [Act.put, List.setIfInBounds_toArray, List.set_cons_zero, List.set_cons_succ]
          refine wpAnyH_take (i := 6) (oi := ⟨some 100, Op.binOp BinOp.neq 3 (Operand.tmp 97) (Operand.tmp 99) 3, 4, _, _, some (2, false)⟩) (v := ?v6n4k7) rfl (by kernel_rfl) (by kernel_rfl) (by kernel_rfl) (fun _ _ _ h => h) (Or.inl ⟨by rfl, ?y6n4k7⟩) hHeld ?z6n4k7
          case y6n4k7 => intro w hSw; (try dsimp only at hSw); go_simp <;> rfl
          try simp only [Act.put, List.setIfInBounds_toArray, List.set_cons_zero, List.set_cons_succ]
          refine wpAnyH_take (i := 7) (oi := ⟨some 101, Op.pick (Operand.tmp 96) (Operand.const (Value.bool true)) (Operand.tmp 100), 4, _, _, none⟩) (v := ?v7n4k8) rfl (by kernel_rfl) (by kernel_rfl) (by kernel_rfl) (fun _ _ _ h => h) (Or.inl ⟨by rfl, ?y7n4k8⟩) hHeld ?z7n4k8
          case y7n4k8 => intro w hSw; (try dsimp only at hSw); go_simp <;> rfl
          try simp only [Act.put, List.setIfInBounds_toArray, List.set_cons_zero, List.set_cons_succ]
          refine wpAnyH_take (i := 8) (oi := ⟨some 102, Op.move (Operand.tmp 101), 4, _, _, none⟩) (v := ?v8n4k9) rfl (by kernel_rfl) (by kernel_rfl) (by kernel_rfl) (fun _ _ _ h => h) (Or.inl ⟨by rfl, ?y8n4k9⟩) hHeld ?z8n4k9
          case y8n4k9 => intro w hSw; (try dsimp only at hSw); go_simp <;> rfl
          try simp only [Act.put, List.setIfInBounds_toArray, List.set_cons_zero, List.set_cons_succ]
          refine wpAnyH_take (i := 9) (oi := ⟨some 103, Op.move (Operand.tmp 0), 24, _, _, some (8, false)⟩) (v := ?v9n4k10) rfl (by kernel_rfl) (by kernel_rfl) (by kernel_rfl) (fun _ _ _ h => h) (Or.inl ⟨by rfl, ?y9n4k10⟩) hHeld ?z9n4k10
          case y9n4k10 => intro w hSw; (try dsimp only at hSw); go_simp <;> rfl
          try simp only [Act.put, List.setIfInBounds_toArray, List.set_cons_zero, List.set_cons_succ]
          refine wpAnyH_take (i := 10) (oi := ⟨some 104, Op.nilCheck (Operand.tmp 103), 0, _, _, some (8, false)⟩) (v := ?v10n4k11) rfl (by kernel_rfl) (by kernel_rfl) (by kernel_rfl) (fun _ _ _ h => h) (Or.inl ⟨by rfl, ?y10n4k11⟩) hHeld ?z10n4k11
          case y10n4k11 => intro w hSw; (try dsimp only at hSw); go_simp <;> rfl
          try simp only [Act.put, List.setIfInBounds_toArray, List.set_cons_zero, List.set_cons_succ]
          refine wpAnyH_take (i := 11) (oi := ⟨some 105, Op.fieldAddr 29 (Operand.tmp 104) 4, 0, _, _, some (8, false)⟩) (v := ?v11n4k12) rfl (by kernel_rfl) (by kernel_rfl) (by kernel_rfl) (fun _ _ _ h => h) (Or.inl ⟨by rfl, ?y11n4k12⟩) hHeld ?z11n4k12
          case y11n4k12 => intro w hSw; (try dsimp only at hSw); go_simp <;> rfl
          try simp only [Act.put, List.setIfInBounds_toArray, List.set_cons_zero, List.set_cons_succ]
          refine wpAnyH_take (i := 12) (oi := ⟨some 106, Op.load 27 (Operand.tmp 105), 27, _, _, some (8, false)⟩) (v := ?v12n4k13) rfl (by kernel_rfl) (by kernel_rfl) (by kernel_rfl) (fun _ _ _ h => h) (Or.inl ⟨by rfl, ?y12n4k13⟩) hHeld ?z12n4k13
          case y12n4k13 => intro w hSw; (try dsimp only at hSw); go_simp <;> rfl
          try simp only [Act.put, List.setIfInBounds_toArray, List.set_cons_zero, List.set_cons_succ]
          refine wpAnyH_take (i := 13) (oi := ⟨some 107, Op.fieldAddr 84 (Operand.tmp 10) 0, 0, _, _, some (8, false)⟩) (v := ?v13n4k14) rfl (by kernel_rfl) (by kernel_rfl) (by kernel_rfl) (fun _ _ _ h => h) (Or.inl ⟨by rfl, ?y13n4k14⟩) hHeld ?z13n4k14
          case y13n4k14 => intro w hSw; (try dsimp only at hSw); go_simp <;> rfl
          try simp only [Act.put, List.setIfInBounds_toArray, List.set_cons_zero, List.set_cons_succ]
          refine wpAnyH_take (i := 14) (oi := ⟨some 108, Op.load 3 (Operand.tmp 107), 3, _, _, some (8, false)⟩) (v := ?v14n4k15) rfl (by kernel_rfl) (by kernel_rfl) (by kernel_rfl) (fun _ _ _ h => h) (Or.inl ⟨by rfl, ?y14n4k15⟩) hHeld ?z14n4k15
          case y14n4k15 => intro w hSw; (try dsimp only at hSw); go_simp <;> rfl
          try simp only [Act.put, List.setIfInBounds_toArray, List.set_cons_zero, List.set_cons_succ]
          refine wpAnyH_take (i := 15) (oi := ⟨some 109, Op.lookup 27 (Operand.tmp 106) (Operand.tmp 108) false, 44, _, _, some (8, false)⟩) (v := ?v15n4k16) rfl (by kernel_rfl) (by kernel_rfl) (by kernel_rfl) (fun _ _ _ h => h) (Or.inl ⟨by rfl, ?y15n4k16⟩) hHeld ?z15n4k16
          case y15n4k16 => intro w hSw; (try dsimp only at hSw); go_simp <;> rfl
          try simp only [Act.put, List.setIfInBounds_toArray, List.set_cons_zero, List.set_cons_succ]
          refine wpAnyH_take (i := 16) (oi := ⟨some 110, Op.fieldAddr 84 (Operand.tmp 10) 2, 0, _, _, some (8, false)⟩) (v := ?v16n4k17) rfl (by kernel_rfl) (by kernel_rfl) (by kernel_rfl) (fun _ _ _ h => h) (Or.inl ⟨by rfl, ?y16n4k17⟩) hHeld ?z16n4k17
          case y16n4k17 => intro w hSw; (try dsimp only at hSw); go_simp <;> rfl
          try simp only [Act.put, List.setIfInBounds_toArray, List.set_cons_zero, List.set_cons_succ]
          refine wpAnyH_take (i := 17) (oi := ⟨some 111, Op.load 44 (Operand.tmp 110), 44, _, _, some (8, false)⟩) (v := ?v17n4k18) rfl (by kernel_rfl) (by kernel_rfl) (by kernel_rfl) (fun _ _ _ h => h) (Or.inl ⟨by rfl, ?y17n4k18⟩) hHeld ?z17n4k18
          case y17n4k18 => intro w hSw; (try dsimp only at hSw); go_simp <;> rfl
          try simp only [Act.put, List.setIfInBounds_toArray, List.set_cons_zero, List.set_cons_succ]
          refine wpAnyH_take (i := 18) (oi := ⟨some 112, Op.binOp BinOp.neq 44 (Operand.tmp 109) (Operand.tmp 111) 44, 4, _, _, some (8, false)⟩) (v := ?v18n4k19) rfl (by kernel_rfl) (by kernel_rfl) (by kernel_rfl) (fun _ _ _ h => h) (Or.inl ⟨by rfl, ?y18n4k19⟩) hHeld ?z18n4k19
          case y18n4k19 => intro w hSw; (try dsimp only at hSw); go_simp <;> rfl
          try simp only [Act.put, List.setIfInBounds_toArray, List.set_cons_zero, List.set_cons_succ]
          refine wpAnyH_take (i := 19) (oi := ⟨some 113, Op.pick (Operand.tmp 102) (Operand.const (Value.bool true)) (Operand.tmp 112), 4, _, _, none⟩) (v := ?v19n4k20) rfl (by kernel_rfl) (by kernel_rfl) (by kernel_rfl) (fun _ _ _ h => h) (Or.inl ⟨by rfl, ?y19n4k20⟩) hHeld ?z19n4k20
          case y19n4k20 => intro w hSw; (try dsimp only at hSw); go_simp <;> rfl
          try simp only [Act.put, List.setIfInBounds_toArray, List.set_cons_zero, List.set_cons_succ]
          refine wpAnyH_done (by kernel_rfl) ?_ _
          refine NoPanic.normal ?_
          have KX := Lib.hid (KW.out.step (Kept.drew noBlock u2))
          clear hHeld SM2 RN hne
          go_wp2
          go_roundw
          case rel => exact ⟨j + 1, by omega, by go_num, KX⟩
          case measure => simp [intOf]; omega
        · obtain rfl : j = m4 := by omega
          have RW := Lib.hid (RI.out wr (K3.out.step HJ.out))
          have a0 := HJ.out.cell c0 (fun h => h)
          have a1 := HJ.out.cell c1 (fun h => h)
          have a2 := HJ.out.cell c2 (fun h => h)
          have a3 := HJ.out.cell c3 (fun h => h)
          have KF := Lib.hid (K3.out.step HJ.out)
          clear c0 c1 c2 c3
          go_wp2_with fail
          refine RW.out.mono ?_
          rintro en u ⟨rfl, ku⟩
          have KZ := Lib.hid (KF.out.step ku)
          clear ku RW RI a0 a1 a2 a3
          go_wp2
          go_ret
          exact ⟨rfl, KZ.out⟩
end Go.Proofs.Ytgmjnjbmolalmaa
