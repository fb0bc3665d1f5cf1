/-
  PackKeeps: what it does with whatever text and number. No statement is proved here.
-/
import Derived.Test.YtnenbohnbojjgaaL1Awake
import Derived.Deep.DeepCutAuto
import Derived.Deep.RegionHeld3
import Derived.Deep.RegionLaw
namespace Go.Proofs.Ytnenbohnbojjgaa
open Go.RowKit

theorem mk_size (l : List UInt8) : (ByteArray.mk l.toArray).size = l.length := by simp [ByteArray.size]

set_option maxHeartbeats 1000000 in
theorem keeps_walk (s : ByteArray) (n : Int) (w : World) (hs : s.size ≤ 140737488351232) :
    Calls Try.prog 7 #[.string s, .int .i64 n] w fun e w' => e = .returned (.bool true) ∧ Kept noBlock w w' := by
  obtain ⟨xs, hxs⟩ : ∃ xs, xs = be8 s.size ++ s.data.toList := ⟨_, rfl⟩
  obtain ⟨S, hS⟩ : ∃ S, S = ByteArray.mk xs.toArray := ⟨_, rfl⟩
  obtain ⟨ys, hys⟩ : ∃ ys, ys = xs ++ be8 n := ⟨_, rfl⟩
  obtain ⟨T, hT⟩ : ∃ T, T = ByteArray.mk ys.toArray := ⟨_, rfl⟩
  have hxl : xs.length = S.size := by rw [hS, mk_size]
  have hxl' : xs.length = s.size + 8 := by rw [hxs]; simp [be8_length]; omega
  have hyl : ys.length = T.size := by rw [hT, mk_size]
  have hyl' : ys.length = s.size + 16 := by rw [hys, List.length_append, be8_length]; omega
  obtain ⟨x0, hx0⟩ : ∃ x, xs[0]? = some x := ⟨_, List.getElem?_eq_getElem (by omega)⟩
  have hyt : ys.take S.size = xs := by rw [hys, ← hxl]; exact List.take_left
  have hST : S.size = s.size + 8 := by omega
  have hTT : T.size = s.size + 16 := by omega
  have HE := Lib.hid (show (T.size : Int) = (s.size : Int) + 16 by omega)
  have HXS := Lib.hid hxs; clear hxs
  have HS := Lib.hid hS; clear hS
  have HYS := Lib.hid hys; clear hys
  have HT := Lib.hid hT; clear hT
  have HXL := Lib.hid hxl; clear hxl
  have HYL := Lib.hid hyl; clear hyl
  have HX0 := Lib.hid hx0; clear hx0
  have HYT := Lib.hid hyt; clear hyt
  have hS1 : 0 < S.size := by omega
  have hS2 : S.size ≤ 140737488355328 - 8 := by omega
  have hS3 : S.size ≤ T.size := by omega
  have hT2 : T.size ≤ 140737488355328 := by omega
  clear hxl' hyl' hST hTT
  go_enter Try.func7, Try.ntmps7
  go_wp2_with fail
  refine (awake_any w).mono ?_
  rintro e w1 ⟨rfl, k1⟩
  go_wp2_with fail
  refine (wtext_any _ _ [] s _ (Wr.new w1) (by simp; omega)).mono ?_
  rintro e w2 ⟨rfl, k2, h2⟩
  rw [List.nil_append, ← HXS.out] at h2
  go_wp2_with fail
  refine (wbytes_n _ _ xs S.size _ h2 HXL.out (by omega)).mono ?_
  rintro e w3 ⟨A, c, rfl, h3, k3⟩
  have hl3 : Lies w3 (fresh w2 w3) A (xs.map bv) := Lies.of_own h3 (fun k hk => h3.lt k hk)
  have hcv3 := fun c => run_str_lies (P := Try.prog) 25 9 5 Try.underlying25 Try.underlying5 Try.underlying9 hl3 HXL.out c
  rw [← HS.out] at hcv3
  go_wp2_with fail
  refine (wnum_any _ _ xs n w3 (h2.keep k3 (fun _ _ h => h)) (by have := HXL.out; omega)).mono ?_
  rintro e w4 ⟨rfl, k4, h4⟩
  rw [← HYS.out] at h4
  clear hcv3
  go_wp2_with fail
  refine (wbytes_n _ _ ys T.size _ h4 HYL.out (by omega)).mono ?_
  rintro e w5 ⟨B, d, rfl, h5, k5⟩
  have hTd : T.size ≤ d := by obtain ⟨_, _, e, hle⟩ := own_form h5; injection e with _ _ e; omega
  have hSd : S.size ≤ d := by omega
  obtain ⟨g, cg, hA, hg1, hg2⟩ := h3.form (by omega)
  obtain rfl : A = some ⟨g, 0, none⟩ := by injection hA
  have hcell3 : w3.cell? ⟨g, 0, none⟩ = some (.int .u8 (x0.toNat : Int)) := h3.cells (g := g) rfl 0 (bv x0) (by simp [HX0.out])
  have hfro3 : w3.frozen? ⟨g, 0, none⟩ = false := h3.frozenAt 0
  have hg4 : ∀ i, (i = w1.heap.size ∨ fresh (w1.alloc (.cells #[.slice none 0 0] 27)) w2 i) → i ≠ g := fun i hi e => by have := h2.lt i hi; omega
  have hlt4 := h4.lt
  have k35 := (k4.mono (T := fun i => i ≠ g) (fun i _ h => hg4 i h)).step (k5.mono (T := fun i => i ≠ g) (fun _ _ h => h.elim))
  have hcell5 : w5.cell? ⟨g, 0, none⟩ = some (.int .u8 (x0.toNat : Int)) := (World.cell?_of_block (k35.block g hg2 (fun h => h rfl))).trans hcell3
  have hfro5 : w5.frozen? ⟨g, 0, none⟩ = false := (World.frozen?_of_block (k35.block g hg2 (fun h => h rfl))).trans hfro3
  obtain ⟨u, hu⟩ : ∃ u, u = Value.int .u8 (((x0.toNat : Int) + 1) % 256) := ⟨_, rfl⟩
  have k6 : Kept (fun i => i = g) w5 (w5.setCell ⟨g, 0, none⟩ u) := Kept.setCell w5 (by rfl) u
  have hl6 : Lies (w5.setCell ⟨g, 0, none⟩ u) (fresh w4 w5) B (ys.map bv) := (Lies.of_own h5 (fun k hk => h5.lt k hk)).keep k6 (fun i hi e => by have := hi.1; have := k4.size; omega)
  have h6 := (h4.keep k5 (fun _ _ h => h)).keep k6 (fun i hi e => by rcases hi with h | h; exact hg4 i h e; have := h.1; omega)
  have q2 : Kept noBlock w w2 := (k1.step (Kept.alloc _ _ _)).trans k2 (fun i hi h => by have := k1.size; omega)
  have q4 : Kept noBlock w w4 := (q2.step k3).trans k4 (fun i hi h => by rcases h with h | h; have := k1.size; omega; have h1 := h.1; have := k1.size; rw [World.size_alloc] at h1; omega)
  have q6 : Kept noBlock w (w5.setCell ⟨g, 0, none⟩ u) := (q4.step k5).trans k6 (fun i hi h => by have := q2.size; omega)
  subst hu
  clear hcell3 hfro3 k35 h4 h5 hlt4 h2 h3 hg4 hg1 hg2 hA hl3 k6
  go_wp2
  generalize w5.setCell ⟨g, 0, none⟩ (.int .u8 (((x0.toNat : Int) + 1) % 256)) = w6 at *
  have h6d := h6.keep (Kept.drew noBlock w6) (fun _ _ h => h)
  have hl6d := hl6.keep (Kept.drew noBlock w6) (fun _ _ h => h)
  have hcv : ∀ (w : World), Lies w (fresh w4 w5) B (ys.map bv) → (∀ c, (convert 25 9 (.slice B T.size c)).run Try.prog w = .ok (.string T) w) ∧ (∀ c, (convert 25 9 (.slice B S.size c)).run Try.prog w = .ok (.string S) w) := by
    intro w hl
    have q1 := fun c => run_str_lies (P := Try.prog) 25 9 5 Try.underlying25 Try.underlying5 Try.underlying9 hl HYL.out c
    have q2 := fun c => run_str_lies (P := Try.prog) (l := xs) 25 9 5 Try.underlying25 Try.underlying5 Try.underlying9 (by have := hl.take S.size; rw [← List.map_take, HYT.out] at this; exact this) HXL.out c
    rw [← HT.out] at q1
    rw [← HS.out] at q2
    exact ⟨q1, q2⟩
  have HCV := Lib.hid hcv
  clear hcv h6 hl6
  obtain ⟨c1, c2⟩ := HCV.out _ hl6d
  have hcvC : ∀ (C : Option Addr) (F : Nat → Prop) (w : World), Lies w F C (ys.map bv) → (∀ c, (convert 25 9 (.slice C T.size c)).run Try.prog w = .ok (.string T) w) := by
    intro C F w hl
    have q1 := fun c => run_str_lies (P := Try.prog) 25 9 5 Try.underlying25 Try.underlying5 Try.underlying9 hl HYL.out c
    rw [← HT.out] at q1
    exact q1
  have HCC := Lib.hid hcvC
  clear hcvC
  refine wp_region_noPanic ?_
  refine wp_region_held_drew (S := fun w' => (∀ c, (convert 25 9 (.slice B T.size c)).run Try.prog w' = .ok (.string T) w') ∧ (∀ c, (convert 25 9 (.slice B S.size c)).run Try.prog w' = .ok (.string S) w')) (by kernel_rfl) ⟨c1, c2⟩ (fun hHeld => ?_)
  refine wpAnyH_take (i := 0) (oi := ⟨some 31, Op.move (Operand.tmp 8), 25, _, _, none⟩) (v := ?v0) rfl (by kernel_rfl) (by kernel_rfl) (by kernel_rfl) (fun _ _ _ h => h) (Or.inl ⟨by rfl, ?y0⟩) hHeld ?z0
  case y0 => intro w hSw; (try dsimp only at hSw); go_simp <;> rfl
  try simp only [Act.put, List.setIfInBounds_toArray, List.set_cons_zero, List.set_cons_succ]
  refine wpAnyH_take (i := 1) (oi := ⟨some 32, Op.move (Operand.tmp 7), 9, _, _, none⟩) (v := ?v1) rfl (by kernel_rfl) (by kernel_rfl) (by kernel_rfl) (fun _ _ _ h => h) (Or.inl ⟨by rfl, ?y1⟩) hHeld ?z1
  case y1 => intro w hSw; (try dsimp only at hSw); go_simp <;> rfl
  try simp only [Act.put, List.setIfInBounds_toArray, List.set_cons_zero, List.set_cons_succ]
  refine wpAnyH_take (i := 2) (oi := ⟨some 33, Op.call { callee := Callee.builtin Builtin.len, args := #[Operand.tmp 32], argTypes := #[9] }, 3, _, _, none⟩) (v := ?v2) rfl (by kernel_rfl) (by kernel_rfl) (by kernel_rfl) (fun _ _ _ h => h) (Or.inl ⟨by rfl, ?y2⟩) hHeld ?z2
  case y2 => intro w hSw; (try dsimp only at hSw); go_simp <;> rfl
  try simp only [Act.put, List.setIfInBounds_toArray, List.set_cons_zero, List.set_cons_succ]
  refine wpAnyH_take (i := 3) (oi := ⟨some 34, Op.slice 25 (Operand.tmp 31) none (some (Operand.tmp 33)) none, 25, _, _, none⟩) (v := ?v3) rfl (by kernel_rfl) (by kernel_rfl) (by kernel_rfl) (fun _ _ _ h => h) (Or.inl ⟨by rfl, ?y3⟩) hHeld ?z3
  case y3 => intro w hSw; (try dsimp only at hSw); go_simp <;> rfl
  try simp only [Act.put, List.setIfInBounds_toArray, List.set_cons_zero, List.set_cons_succ]
  refine wpAnyH_take (i := 4) (oi := ⟨some 35, Op.convert 25 9 (Operand.tmp 34), 9, _, _, none⟩) (v := ?v4) rfl (by kernel_rfl) (by kernel_rfl) (by kernel_rfl) (fun _ _ _ h => h) (Or.inl ⟨by rfl, ?y4⟩) hHeld ?z4
  case y4 => intro w hSw; (try dsimp only at hSw); go_simp <;> rfl
  try simp only [Act.put, List.setIfInBounds_toArray, List.set_cons_zero, List.set_cons_succ]
  refine wpAnyH_take (i := 5) (oi := ⟨some 36, Op.move (Operand.tmp 7), 9, _, _, none⟩) (v := ?v5) rfl (by kernel_rfl) (by kernel_rfl) (by kernel_rfl) (fun _ _ _ h => h) (Or.inl ⟨by rfl, ?y5⟩) hHeld ?z5
  case y5 => intro w hSw; (try dsimp only at hSw); go_simp <;> rfl
  try simp only [Act.put, List.setIfInBounds_toArray, List.set_cons_zero, List.set_cons_succ]
  refine wpAnyH_take (i := 6) (oi := ⟨some 37, Op.binOp BinOp.eql 9 (Operand.tmp 35) (Operand.tmp 36) 9, 4, _, _, none⟩) (v := ?v6) rfl (by kernel_rfl) (by kernel_rfl) (by kernel_rfl) (fun _ _ _ h => h) (Or.inl ⟨by rfl, ?y6⟩) hHeld ?z6
  case y6 => intro w hSw; (try dsimp only at hSw); go_simp <;> rfl
  try simp only [Act.put, List.setIfInBounds_toArray, List.set_cons_zero, List.set_cons_succ]
  refine wpAnyH_take (i := 7) (oi := ⟨some 38, Op.move (Operand.tmp 37), 4, _, _, none⟩) (v := ?v7) rfl (by kernel_rfl) (by kernel_rfl) (by kernel_rfl) (fun _ _ _ h => h) (Or.inl ⟨by rfl, ?y7⟩) hHeld ?z7
  case y7 => intro w hSw; (try dsimp only at hSw); go_simp <;> rfl
  try simp only [Act.put, List.setIfInBounds_toArray, List.set_cons_zero, List.set_cons_succ]
  first
    | (refine wpAnyH_take (i := 8) (oi := ⟨some 39, Op.move (Operand.tmp 5), 24, _, _, some (7, true)⟩) (v := ?v8) rfl (by kernel_rfl) (by kernel_rfl) (by kernel_rfl) (fun _ _ _ h => h) (Or.inl ⟨by rfl, ?y8⟩) hHeld ?z8; (case y8 => intro w hSw; (try dsimp only at hSw); go_simp <;> rfl))
    | (refine wpAnyH_take (i := 8) (oi := ⟨some 39, Op.move (Operand.tmp 5), 24, _, _, some (7, true)⟩) (v := undef) rfl (by kernel_rfl) (by kernel_rfl) (by kernel_rfl) (fun _ _ _ h => h) (Or.inr ⟨by rfl, rfl⟩) hHeld ?z8)
  try simp only [Act.put, List.setIfInBounds_toArray, List.set_cons_zero, List.set_cons_succ]
  first
    | (refine wpAnyH_take (i := 11) (oi := ⟨some 42, Op.move (Operand.tmp 8), 25, _, _, some (7, true)⟩) (v := ?v11) rfl (by kernel_rfl) (by kernel_rfl) (by kernel_rfl) (fun _ _ _ h => h) (Or.inl ⟨by rfl, ?y11⟩) hHeld ?z11; (case y11 => intro w hSw; (try dsimp only at hSw); go_simp <;> rfl))
    | (refine wpAnyH_take (i := 11) (oi := ⟨some 42, Op.move (Operand.tmp 8), 25, _, _, some (7, true)⟩) (v := undef) rfl (by kernel_rfl) (by kernel_rfl) (by kernel_rfl) (fun _ _ _ h => h) (Or.inr ⟨by rfl, rfl⟩) hHeld ?z11)
  try simp only [Act.put, List.setIfInBounds_toArray, List.set_cons_zero, List.set_cons_succ]
  first
    | (refine wpAnyH_take (i := 12) (oi := ⟨some 43, Op.convert 25 9 (Operand.tmp 42), 9, _, _, some (7, true)⟩) (v := ?v12) rfl (by kernel_rfl) (by kernel_rfl) (by kernel_rfl) (fun _ _ _ h => h) (Or.inl ⟨by rfl, ?y12⟩) hHeld ?z12; (case y12 => intro w hSw; (try dsimp only at hSw); go_simp <;> rfl))
    | (refine wpAnyH_take (i := 12) (oi := ⟨some 43, Op.convert 25 9 (Operand.tmp 42), 9, _, _, some (7, true)⟩) (v := undef) rfl (by kernel_rfl) (by kernel_rfl) (by kernel_rfl) (fun _ _ _ h => h) (Or.inr ⟨by rfl, rfl⟩) hHeld ?z12)
  try simp only [Act.put, List.setIfInBounds_toArray, List.set_cons_zero, List.set_cons_succ]
  refine wpAnyH_ready (rs := [9]) (by kernel_rfl) (by simp) ?_
  refine AllReadyH.cons (o := ⟨some 40, Op.call { callee := Callee.value (Operand.func 13), args := #[Operand.tmp 39], argTypes := #[24] }, 25, _, _, some (7, true)⟩) rfl (fun K hK => ?_) AllReadyH.nil
  go_simp
  refine (wbytes_n _ _ ys T.size _ h6d HYL.out (by omega)).mono ?_
  rintro e w7 ⟨C, d', rfl, h7, k7⟩
  obtain ⟨c3, c4⟩ := HCV.out _ (hl6d.keep k7 (fun _ _ h => h))
  have c5 := HCC.out C _ w7 (Lies.of_own h7 (fun k hk => h7.lt k hk))
  have K7 := Lib.hid k7
  clear h7 k7
  dsimp only
  refine hK.out _ _ ⟨c3, c4⟩ (fun hHeld => ?_)
  clear hK K
  try simp only [Act.put, List.setIfInBounds_toArray, List.set_cons_zero, List.set_cons_succ]
  refine wpAnyH_more (S2 := fun w' => ((∀ c, (convert 25 9 (.slice B T.size c)).run Try.prog w' = .ok (.string T) w') ∧ (∀ c, (convert 25 9 (.slice B S.size c)).run Try.prog w' = .ok (.string S) w')) ∧ (∀ c, (convert 25 9 (.slice C T.size c)).run Try.prog w' = .ok (.string T) w')) (fun _ h => h.1) ?_
  clear hHeld
  have hHeld : (fun w' => ((∀ c, (convert 25 9 (.slice B T.size c)).run Try.prog w' = .ok (.string T) w') ∧ (∀ c, (convert 25 9 (.slice B S.size c)).run Try.prog w' = .ok (.string S) w')) ∧ (∀ c, (convert 25 9 (.slice C T.size c)).run Try.prog w' = .ok (.string T) w')) _ := ⟨⟨c3, c4⟩, c5⟩
  first
    | (refine wpAnyH_take (i := 10) (oi := ⟨some 41, Op.convert 25 9 (Operand.tmp 40), 9, _, _, some (7, true)⟩) (v := ?v10) rfl (by kernel_rfl) (by kernel_rfl) (by kernel_rfl) (fun _ _ _ h => h) (Or.inl ⟨by rfl, ?y10⟩) hHeld ?z10; (case y10 => intro w hSw; (try dsimp only at hSw); go_simp <;> rfl))
    | (refine wpAnyH_take (i := 10) (oi := ⟨some 41, Op.convert 25 9 (Operand.tmp 40), 9, _, _, some (7, true)⟩) (v := undef) rfl (by kernel_rfl) (by kernel_rfl) (by kernel_rfl) (fun _ _ _ h => h) (Or.inr ⟨by rfl, rfl⟩) hHeld ?z10)
  try simp only [Act.put, List.setIfInBounds_toArray, List.set_cons_zero, List.set_cons_succ]
  first
    | (refine wpAnyH_take (i := 13) (oi := ⟨some 44, Op.binOp BinOp.eql 9 (Operand.tmp 41) (Operand.tmp 43) 9, 4, _, _, some (7, true)⟩) (v := ?v13) rfl (by kernel_rfl) (by kernel_rfl) (by kernel_rfl) (fun _ _ _ h => h) (Or.inl ⟨by rfl, ?y13⟩) hHeld ?z13; (case y13 => intro w hSw; (try dsimp only at hSw); go_simp <;> rfl))
    | (refine wpAnyH_take (i := 13) (oi := ⟨some 44, Op.binOp BinOp.eql 9 (Operand.tmp 41) (Operand.tmp 43) 9, 4, _, _, some (7, true)⟩) (v := undef) rfl (by kernel_rfl) (by kernel_rfl) (by kernel_rfl) (fun _ _ _ h => h) (Or.inr ⟨by rfl, rfl⟩) hHeld ?z13)
  try simp only [Act.put, List.setIfInBounds_toArray, List.set_cons_zero, List.set_cons_succ]
  refine wpAnyH_take (i := 14) (oi := ⟨some 45, Op.pick (Operand.tmp 38) (Operand.tmp 44) (Operand.const (Value.bool false)), 4, _, _, none⟩) (v := ?v14) rfl (by kernel_rfl) (by kernel_rfl) (by kernel_rfl) (fun _ _ _ h => h) (Or.inl ⟨by rfl, ?y14⟩) hHeld ?z14
  case y14 => intro w hSw; (try dsimp only at hSw); go_simp <;> rfl
  try simp only [Act.put, List.setIfInBounds_toArray, List.set_cons_zero, List.set_cons_succ]
  refine wpAnyH_take (i := 15) (oi := ⟨some 46, Op.move (Operand.tmp 45), 4, _, _, none⟩) (v := ?v15) rfl (by kernel_rfl) (by kernel_rfl) (by kernel_rfl) (fun _ _ _ h => h) (Or.inl ⟨by rfl, ?y15⟩) hHeld ?z15
  case y15 => intro w hSw; (try dsimp only at hSw); go_simp <;> rfl
  try simp only [Act.put, List.setIfInBounds_toArray, List.set_cons_zero, List.set_cons_succ]
  first
    | (refine wpAnyH_take (i := 16) (oi := ⟨some 47, Op.move (Operand.tmp 8), 25, _, _, some (15, true)⟩) (v := ?v16) rfl (by kernel_rfl) (by kernel_rfl) (by kernel_rfl) (fun _ _ _ h => h) (Or.inl ⟨by rfl, ?y16⟩) hHeld ?z16; (case y16 => intro w hSw; (try dsimp only at hSw); go_simp <;> rfl))
    | (refine wpAnyH_take (i := 16) (oi := ⟨some 47, Op.move (Operand.tmp 8), 25, _, _, some (15, true)⟩) (v := undef) rfl (by kernel_rfl) (by kernel_rfl) (by kernel_rfl) (fun _ _ _ h => h) (Or.inr ⟨by rfl, rfl⟩) hHeld ?z16)
  try simp only [Act.put, List.setIfInBounds_toArray, List.set_cons_zero, List.set_cons_succ]
  first
    | (refine wpAnyH_take (i := 17) (oi := ⟨some 48, Op.call { callee := Callee.builtin Builtin.len, args := #[Operand.tmp 47], argTypes := #[25] }, 3, _, _, some (15, true)⟩) (v := ?v17) rfl (by kernel_rfl) (by kernel_rfl) (by kernel_rfl) (fun _ _ _ h => h) (Or.inl ⟨by rfl, ?y17⟩) hHeld ?z17; (case y17 => intro w hSw; (try dsimp only at hSw); go_simp <;> rfl))
    | (refine wpAnyH_take (i := 17) (oi := ⟨some 48, Op.call { callee := Callee.builtin Builtin.len, args := #[Operand.tmp 47], argTypes := #[25] }, 3, _, _, some (15, true)⟩) (v := undef) rfl (by kernel_rfl) (by kernel_rfl) (by kernel_rfl) (fun _ _ _ h => h) (Or.inr ⟨by rfl, rfl⟩) hHeld ?z17)
  try simp only [Act.put, List.setIfInBounds_toArray, List.set_cons_zero, List.set_cons_succ]
  first
    | (refine wpAnyH_take (i := 18) (oi := ⟨some 49, Op.move (Operand.tmp 0), 9, _, _, some (15, true)⟩) (v := ?v18) rfl (by kernel_rfl) (by kernel_rfl) (by kernel_rfl) (fun _ _ _ h => h) (Or.inl ⟨by rfl, ?y18⟩) hHeld ?z18; (case y18 => intro w hSw; (try dsimp only at hSw); go_simp <;> rfl))
    | (refine wpAnyH_take (i := 18) (oi := ⟨some 49, Op.move (Operand.tmp 0), 9, _, _, some (15, true)⟩) (v := undef) rfl (by kernel_rfl) (by kernel_rfl) (by kernel_rfl) (fun _ _ _ h => h) (Or.inr ⟨by rfl, rfl⟩) hHeld ?z18)
  try simp only [Act.put, List.setIfInBounds_toArray, List.set_cons_zero, List.set_cons_succ]
  first
    | (refine wpAnyH_take (i := 19) (oi := ⟨some 50, Op.call { callee := Callee.builtin Builtin.len, args := #[Operand.tmp 49], argTypes := #[9] }, 3, _, _, some (15, true)⟩) (v := ?v19) rfl (by kernel_rfl) (by kernel_rfl) (by kernel_rfl) (fun _ _ _ h => h) (Or.inl ⟨by rfl, ?y19⟩) hHeld ?z19; (case y19 => intro w hSw; (try dsimp only at hSw); go_simp <;> rfl))
    | (refine wpAnyH_take (i := 19) (oi := ⟨some 50, Op.call { callee := Callee.builtin Builtin.len, args := #[Operand.tmp 49], argTypes := #[9] }, 3, _, _, some (15, true)⟩) (v := undef) rfl (by kernel_rfl) (by kernel_rfl) (by kernel_rfl) (fun _ _ _ h => h) (Or.inr ⟨by rfl, rfl⟩) hHeld ?z19)
  try simp only [Act.put, List.setIfInBounds_toArray, List.set_cons_zero, List.set_cons_succ]
  first
    | (refine wpAnyH_take (i := 20) (oi := ⟨some 51, Op.binOp BinOp.add 3 (Operand.tmp 50) (Operand.const (Value.int IntKind.i64 16)) 3, 3, _, _, some (15, true)⟩) (v := ?v20) rfl (by kernel_rfl) (by kernel_rfl) (by kernel_rfl) (fun _ _ _ h => h) (Or.inl ⟨by rfl, ?y20⟩) hHeld ?z20; (case y20 => intro w hSw; (try dsimp only at hSw); go_simp <;> rfl))
    | (refine wpAnyH_take (i := 20) (oi := ⟨some 51, Op.binOp BinOp.add 3 (Operand.tmp 50) (Operand.const (Value.int IntKind.i64 16)) 3, 3, _, _, some (15, true)⟩) (v := undef) rfl (by kernel_rfl) (by kernel_rfl) (by kernel_rfl) (fun _ _ _ h => h) (Or.inr ⟨by rfl, rfl⟩) hHeld ?z20)
  try simp only [Act.put, List.setIfInBounds_toArray, List.set_cons_zero, List.set_cons_succ]
  first
    | (refine wpAnyH_take (i := 21) (oi := ⟨some 52, Op.binOp BinOp.eql 3 (Operand.tmp 48) (Operand.tmp 51) 3, 4, _, _, some (15, true)⟩) (v := ?v21) rfl (by kernel_rfl) (by kernel_rfl) (by kernel_rfl) (fun _ _ _ h => h) (Or.inl ⟨by rfl, ?y21⟩) hHeld ?z21; (case y21 => intro w hSw; (try dsimp only at hSw); go_simp <;> rfl))
    | (refine wpAnyH_take (i := 21) (oi := ⟨some 52, Op.binOp BinOp.eql 3 (Operand.tmp 48) (Operand.tmp 51) 3, 4, _, _, some (15, true)⟩) (v := undef) rfl (by kernel_rfl) (by kernel_rfl) (by kernel_rfl) (fun _ _ _ h => h) (Or.inr ⟨by rfl, rfl⟩) hHeld ?z21)
  try simp only [Act.put, List.setIfInBounds_toArray, List.set_cons_zero, List.set_cons_succ]
  refine wpAnyH_take (i := 22) (oi := ⟨some 53, Op.pick (Operand.tmp 46) (Operand.tmp 52) (Operand.const (Value.bool false)), 4, _, _, none⟩) (v := ?v22) rfl (by kernel_rfl) (by kernel_rfl) (by kernel_rfl) (fun _ _ _ h => h) (Or.inl ⟨by rfl, ?y22⟩) hHeld ?z22
  case y22 => intro w hSw; (try dsimp only at hSw); go_simp <;> rfl
  try simp only [Act.put, List.setIfInBounds_toArray, List.set_cons_zero, List.set_cons_succ]
  refine wpAnyH_take (i := 23) (oi := ⟨some 4, Op.assign (Operand.tmp 53), 4, _, _, none⟩) (v := ?v23) rfl (by kernel_rfl) (by kernel_rfl) (by kernel_rfl) (fun _ _ _ h => h) (Or.inl ⟨by rfl, ?y23⟩) hHeld ?z23
  case y23 => intro w hSw; (try dsimp only at hSw); go_simp <;> rfl
  try simp only [Act.put, List.setIfInBounds_toArray, List.set_cons_zero, List.set_cons_succ]
  refine wpAnyH_done (by kernel_rfl) ?_ _
  refine NoPanic.normal ?_
  go_wp2
  go_ret
  refine ⟨?_, (q6.step (Kept.drew _ _)).step K7.out⟩
  show Ending.returned (.bool _) = _
  rw [IntWalk.i64_in _ (by omega), HE.out]
  simp

end Go.Proofs.Ytnenbohnbojjgaa
