/-
  FrameOne: what it does with whatever bytes, place and change. No statement is proved here.
-/
import Derived.Test.YthankjgebaanpaaL3Ref
import Derived.Test.YthankjgebaanpaaSep
import Derived.Laws.IdiomStrings
namespace Go.Proofs.Ythankjgebaanpaa
open Go.RowKit

/-- A string as bytes: a block of its own. -/
theorem run_bytes (w : World) (l : List UInt8) : ∃ c' w', (convert 9 22 (.string (str l))).run Try.prog w = .ok (.slice (some ⟨w.heap.size, 0, none⟩) l.length c') w' ∧ Lies w' (fun i => i = w.heap.size) (some ⟨w.heap.size, 0, none⟩) (l.map bv) ∧ Kept noBlock w w' ∧ l.length ≤ c' ∧ w.heap.size < w'.heap.size := by
  have h := run_bytes_of_string (P := Try.prog) w 9 22 5 (str l) Try.underlying9 Try.underlying22 Try.underlying5
  rw [str_size] at h
  refine ⟨_, _, h, fun _ => ⟨_, rfl, rfl, fun j u hu => ?_⟩, (Kept.drew _ _).step (Kept.alloc _ _ _), grownCap_ge _ _ _ _, by simp⟩
  have hnew := heap_alloc_new w.drew (.cells (bytesRow (str l) (grownCap w l.length 0 5)) 5 ((bytesRow (str l) (grownCap w l.length 0 5)).size, (bytesRow (str l) (grownCap w l.length 0 5)).size + 1))
  have hnew2 := cell_of_row _ _ j _ _ _ hnew
  rw [add_plain, Nat.zero_add]
  refine Eq.trans hnew2 ?_
  rw [List.getElem?_map] at hu
  obtain ⟨x, hx, rfl⟩ : ∃ x, l[j]? = some x ∧ bv x = u := by
    cases hx : l[j]? with
    | none => rw [hx] at hu; cases hu
    | some x => rw [hx] at hu; injection hu with hu; exact ⟨x, rfl, hu⟩
  obtain ⟨hj, e⟩ := List.getElem?_eq_some_iff.1 hx
  rw [bytesRow_at (str l) _ j (by simpa [str] using hj)]
  simp [str, bv, e]

/-- Bytes that One is asked for. -/
structure Asked (w : World) (v : Value) (l : List UInt8) : Prop where
  is : ∃ a c, v = .slice a l.length c ∧ Lies w (fun _ => True) a (l.map bv) ∧ l.length ≤ c
theorem Asked.keep {w w' : World} {v : Value} {l : List UInt8} (h : Asked w v l) (k : Kept noBlock w w') : Asked w' v l := by
  obtain ⟨a, c, e, h1, h2⟩ := h.is
  exact ⟨a, c, e, h1.keep k (fun _ _ h => h), h2⟩

set_option maxRecDepth 100000 in
set_option maxHeartbeats 2000000 in
theorem one_walk (F : Nat → Prop) (a r : Option Addr) (n c n' c' : Nat) (l l' : List UInt8) (at_ : Nat) (y : UInt8) (w : World) (ha : at_ < 65536) (h : Lies w F a (l.map bv)) (h' : Lies w F r (l'.map bv)) (hl : l.length = n) (hl' : l'.length = n') (hc : n ≤ c) (hc' : n' ≤ c')
    (hn' : n' ≤ 140737488355328) :
    Calls Try.prog 4 #[.slice a n c, .slice r n' c', .int .u16 (at_ : Int), .int .u8 (y.toNat : Int)] w fun e w' => e = .returned (.bool true) ∧ Kept noBlock w w' := by
  go_enter Try.func4, Try.ntmps4
  go_wp2_with fail
  refine (awake_any w).mono ?_
  rintro e w1 ⟨rfl, k1⟩
  have h1 := h.keep k1 (fun _ _ h => h)
  have hr1 := h'.keep k1 (fun _ _ h => h)
  clear h h'
  obtain ⟨m, hm⟩ : ∃ m, m = min n 300 := ⟨_, rfl⟩
  have q1 : (if (300 : Int) < (n : Int) then (300 : Int) else (n : Int)) = (m : Int) := by split <;> omega
  have i1 : (m : Int) ≤ c := by omega
  obtain ⟨us, hus⟩ : ∃ us, us = l.take m := ⟨_, rfl⟩
  have hul : us.length = m := by rw [hus, List.length_take]; omega
  have hu : Lies w1 F a (us.map bv) := by rw [hus, List.map_take]; exact h1.take m
  have hm3 : m ≤ 300 := by omega
  have HUL := Lib.hid hul; clear hul
  clear hus h1 hm hc hl
  go_wp2_with fail
  refine (form_any F a m c us w1 hu HUL.out (by omega)).mono ?_
  rintro e w2 ⟨rfl, k2⟩
  obtain ⟨X, hX⟩ : ∃ X, X = frm us := ⟨_, rfl⟩
  obtain ⟨N, hN⟩ : ∃ N, N = X.length := ⟨_, rfl⟩
  have hN9 : 9 ≤ N := by rw [hN, hX, frm_length]; omega
  have hN3 : N ≤ 309 := by rw [hN, hX, frm_length, HUL.out]; omega
  rw [← hX]
  obtain ⟨cx, w3, hcv, l3, k3, hcx, hlt3⟩ := run_bytes w2 X
  rw [← hN] at hcv hcx
  obtain ⟨S, hS⟩ : ∃ S, S = str X := ⟨_, rfl⟩
  rw [← hS] at hcv ⊢
  obtain ⟨B, hB⟩ : ∃ B, B = w2.heap.size := ⟨_, rfl⟩
  rw [← hB] at hcv l3
  clear q1 i1 hu hS
  have hsrc : Src Try.prog 1 22 (.slice (some ⟨B, 0, none⟩) N cx) N (X.map bv) w3 := src_lies Try.underlying22 l3 (by simp [hN]) (bv_one X)
  have HX := Lib.hid hX; clear hX
  have HN := Lib.hid hN; clear hN
  have HB := Lib.hid hB; clear hB
  go_wp2_with (at_builtin; refine wpList_append_src rfl _ _ 22 22 rfl 5 (.int .u8 0) 1 1 Try.underlying22 Try.infoU8 rfl (.slice none 0 0) 0 [] rfl (World.ownsRow_nil _ _ _ _) _ N (X.map bv) rfl hsrc ?c3 ?c4 ?_)
  case c3 => unfold maxLen; omega
  case c4 => omega
  intro A4 c4 w4 o4 k4 hat4
  obtain ⟨g, cap, hv, _, _⟩ := o4.form (by omega)
  obtain ⟨rfl, rfl⟩ : A4 = some ⟨g, 0, none⟩ ∧ c4 = cap := by injection hv with a b c; exact ⟨a, c⟩
  have hg : fresh w3 w4 g := by
    rcases hat4 g rfl with h | h
    · cases h
    · exact h
  have k34 : Kept noBlock w3 w4 := k4.mono (fun i _ h => by simp [Value.ownBlock] at h)
  have hcap4 : N ≤ c4 := by obtain ⟨_, _, e, hle⟩ := own_form o4; injection e with _ _ e; omega
  clear hcv hsrc hat4 k4 hv
  obtain ⟨k, hk⟩ : ∃ k, k = at_ % N := ⟨_, rfl⟩
  have hkN : k < N := by rw [hk]; exact Nat.mod_lt _ (by omega)
  have hrem : (at_ : Int) % (N : Int) = (k : Int) := by rw [hk]; omega
  obtain ⟨x, hx⟩ : ∃ x, X[k]? = some x := ⟨_, List.getElem?_eq_getElem (by rw [← HN.out]; omega)⟩
  have hcx4 : w4.cell? ⟨g, k, none⟩ = some (.int .u8 (x.toNat : Int)) := by rw [o4.cellAt k (by omega)]; rw [List.getElem?_map, hx]; rfl
  have hf4 : w4.frozen? ⟨g, k, none⟩ = false := o4.frozenAt _
  obtain ⟨z, hz⟩ : ∃ z : UInt8, z = x ^^^ y := ⟨_, rfl⟩
  have hxor : bits BinOp.xor IntKind.u8 (x.toNat : Int) (y.toNat : Int) = (z.toNat : Int) := by rw [hz, UInt8.toNat_xor]; exact u8_xor_nat _ _ x.toNat_lt y.toNat_lt
  have hset : (X.map bv).set k (.int .u8 (z.toNat : Int)) = (X.set k z).map bv := by rw [List.map_set]; rfl
  have HS := Lib.hid (o4.stored k (.int .u8 (z.toNat : Int)))
  rw [hset] at HS
  have hki : (k : Int) < (N : Int) := by omega
  have HK := Lib.hid hk; clear hk
  have HXX := Lib.hid hx; clear hx
  clear hz hset o4
  have hN0 : ¬ N = 0 := by omega
  go_wp2_with fail
  have k5 : Kept noBlock w3 (w4.setCell ⟨g, k, none⟩ (.int .u8 (z.toNat : Int))) := k34.trans (Kept.setCell (S := fun i => i = g) _ (by rfl) _) (fun i hi h => by have := hg.1; omega)
  have l5 := Lies.of_own (F := fun _ => True) HS.out.1 (fun _ _ => trivial)
  generalize w4.setCell ⟨g, k, none⟩ (.int .u8 (z.toNat : Int)) = w5 at k5 l5 ⊢
  clear hf4 hcx4 hxor HS
  have kd := Kept.drew noBlock w5
  have k35 := k5.step kd
  have kall := ((k1.step k2).step k3).step k35
  have l3d := l3.keep k35 (fun _ _ h => h)
  have l5d := l5.keep kd (fun _ _ h => h)
  have hrd := hr1.keep ((k2.step k3).step k35) (fun _ _ h => h)
  clear l3 l5 hr1 k5 kd k35 k34
  have jw : IntKind.i64.wrap (at_ : Int) = (at_ : Int) := by rw [IntWalk.i64_in _ (by omega)]
  have jt : (at_ : Int).tmod (N : Int) = (k : Int) := by rw [Int.tmod_eq_emod_of_nonneg (by omega)]; exact hrem
  have jk : IntKind.i64.wrap (k : Int) = (k : Int) := by rw [IntWalk.i64_in _ (by omega)]
  have jc : (k : Int) ≤ cx := by omega
  refine wp_region_noPanic ?_
  refine wp_region_held_drew (S := fun _ => True) (by kernel_rfl) trivial (fun hHeld => ?_)
  refine wpAnyH_take (i := 0) (oi := ⟨some 41, Op.move (Operand.tmp 1), 22, _, _, none⟩) (v := ?v0n7k1) rfl (by kernel_rfl) (by kernel_rfl) (by kernel_rfl) (fun _ _ _ h => h) (Or.inl ⟨by rfl, ?y0n7k1⟩) hHeld ?z0n7k1
  case y0n7k1 => intro w hSw; (try dsimp only at hSw); go_simp <;> rfl
  try simp only [Act.put, List.setIfInBounds_toArray, List.set_cons_zero, List.set_cons_succ]
  refine wpAnyH_take (i := 1) (oi := ⟨some 42, Op.move (Operand.tmp 10), 22, _, _, none⟩) (v := ?v1n7k2) rfl (by kernel_rfl) (by kernel_rfl) (by kernel_rfl) (fun _ _ _ h => h) (Or.inl ⟨by rfl, ?y1n7k2⟩) hHeld ?z1n7k2
  case y1n7k2 => intro w hSw; (try dsimp only at hSw); go_simp <;> rfl
  try simp only [Act.put, List.setIfInBounds_toArray, List.set_cons_zero, List.set_cons_succ]
  refine wpAnyH_take (i := 2) (oi := ⟨some 43, Op.move (Operand.tmp 9), 22, _, _, none⟩) (v := ?v2n7k3) rfl (by kernel_rfl) (by kernel_rfl) (by kernel_rfl) (fun _ _ _ h => h) (Or.inl ⟨by rfl, ?y2n7k3⟩) hHeld ?z2n7k3
  case y2n7k3 => intro w hSw; (try dsimp only at hSw); go_simp <;> rfl
  try simp only [Act.put, List.setIfInBounds_toArray, List.set_cons_zero, List.set_cons_succ]
  refine wpAnyH_take (i := 3) (oi := ⟨some 44, Op.move (Operand.tmp 2), 23, _, _, none⟩) (v := ?v3n7k4) rfl (by kernel_rfl) (by kernel_rfl) (by kernel_rfl) (fun _ _ _ h => h) (Or.inl ⟨by rfl, ?y3n7k4⟩) hHeld ?z3n7k4
  case y3n7k4 => intro w hSw; (try dsimp only at hSw); go_simp <;> rfl
  try simp only [Act.put, List.setIfInBounds_toArray, List.set_cons_zero, List.set_cons_succ]
  refine wpAnyH_take (i := 4) (oi := ⟨some 45, Op.convert 23 3 (Operand.tmp 44), 3, _, _, none⟩) (v := ?v4n7k5) rfl (by kernel_rfl) (by kernel_rfl) (by kernel_rfl) (fun _ _ _ h => h) (Or.inl ⟨by rfl, ?y4n7k5⟩) hHeld ?z4n7k5
  case y4n7k5 => intro w hSw; (try dsimp only at hSw); go_simp <;> rfl
  try simp only [Act.put, List.setIfInBounds_toArray, List.set_cons_zero, List.set_cons_succ]
  refine wpAnyH_take (i := 5) (oi := ⟨some 46, Op.move (Operand.tmp 9), 22, _, _, none⟩) (v := ?v5n7k6) rfl (by kernel_rfl) (by kernel_rfl) (by kernel_rfl) (fun _ _ _ h => h) (Or.inl ⟨by rfl, ?y5n7k6⟩) hHeld ?z5n7k6
  case y5n7k6 => intro w hSw; (try dsimp only at hSw); go_simp <;> rfl
  try simp only [Act.put, List.setIfInBounds_toArray, List.set_cons_zero, List.set_cons_succ]
  refine wpAnyH_take (i := 6) (oi := ⟨some 47, Op.call { callee := Callee.builtin Builtin.len, args := #[Operand.tmp 46], argTypes := #[22] }, 3, _, _, none⟩) (v := ?v6n7k7) rfl (by kernel_rfl) (by kernel_rfl) (by kernel_rfl) (fun _ _ _ h => h) (Or.inl ⟨by rfl, ?y6n7k7⟩) hHeld ?z6n7k7
  case y6n7k7 => intro w hSw; (try dsimp only at hSw); go_simp <;> rfl
  try simp only [Act.put, List.setIfInBounds_toArray, List.set_cons_zero, List.set_cons_succ]
  refine wpAnyH_take (i := 7) (oi := ⟨some 48, Op.binOp BinOp.rem 3 (Operand.tmp 45) (Operand.tmp 47) 3, 3, _, _, none⟩) (v := ?v7n7k8) rfl (by kernel_rfl) (by kernel_rfl) (by kernel_rfl) (fun _ _ _ h => h) (Or.inl ⟨by rfl, ?y7n7k8⟩) hHeld ?z7n7k8
  case y7n7k8 => intro w hSw; (try dsimp only at hSw); go_simp <;> rfl
  try simp only [Act.put, List.setIfInBounds_toArray, List.set_cons_zero, List.set_cons_succ]
  refine wpAnyH_take (i := 8) (oi := ⟨some 49, Op.slice 22 (Operand.tmp 43) none (some (Operand.tmp 48)) none, 22, _, _, none⟩) (v := ?v8n7k9) rfl (by kernel_rfl) (by kernel_rfl) (by kernel_rfl) (fun _ _ _ h => h) (Or.inl ⟨by rfl, ?y8n7k9⟩) hHeld ?z8n7k9
  case y8n7k9 => intro w hSw; (try dsimp only at hSw); go_simp <;> rfl
  try simp only [Act.put, List.setIfInBounds_toArray, List.set_cons_zero, List.set_cons_succ]
  refine wpAnyH_take (i := 9) (oi := ⟨some 50, Op.move (Operand.tmp 9), 22, _, _, none⟩) (v := ?v9n7k10) rfl (by kernel_rfl) (by kernel_rfl) (by kernel_rfl) (fun _ _ _ h => h) (Or.inl ⟨by rfl, ?y9n7k10⟩) hHeld ?z9n7k10
  case y9n7k10 => intro w hSw; (try dsimp only at hSw); go_simp <;> rfl
  try simp only [Act.put, List.setIfInBounds_toArray, List.set_cons_zero, List.set_cons_succ]
  refine wpAnyH_take (i := 11) (oi := ⟨some 52, Op.move (Operand.tmp 1), 22, _, _, none⟩) (v := ?v11n7k11) rfl (by kernel_rfl) (by kernel_rfl) (by kernel_rfl) (fun _ _ _ h => h) (Or.inl ⟨by rfl, ?y11n7k11⟩) hHeld ?z11n7k11
  case y11n7k11 => intro w hSw; (try dsimp only at hSw); go_simp <;> rfl
  try simp only [Act.put, List.setIfInBounds_toArray, List.set_cons_zero, List.set_cons_succ]
  refine wpAnyH_take (i := 15) (oi := ⟨some 56, Op.move (Operand.const (Value.int IntKind.i64 0)), 3, _, _, none⟩) (v := ?v15n7k12) rfl (by kernel_rfl) (by kernel_rfl) (by kernel_rfl) (fun _ _ _ h => h) (Or.inl ⟨by rfl, ?y15n7k12⟩) hHeld ?z15n7k12
  case y15n7k12 => intro w hSw; (try dsimp only at hSw); go_simp <;> rfl
  try simp only [Act.put, List.setIfInBounds_toArray, List.set_cons_zero, List.set_cons_succ]
  refine wpAnyH_ready (rs := [10]) (by kernel_rfl) (by simp) ?_
  refine AllReadyH.cons (o := ⟨some 51, Op.call { callee := Callee.builtin Builtin.append, args := #[Operand.const (Value.slice none 0 0), Operand.tmp 50], argTypes := #[22, 22] }, 22, _, _, none⟩) rfl (fun K hK => ?_) AllReadyH.nil
  refine step_append_src rfl (.const (.slice none 0 0)) (.tmp 50) 22 22 rfl 5 (.int .u8 0) 1 1 Try.underlying22 Try.infoU8 rfl (.slice none 0 0) 0 [] rfl (World.ownsRow_nil _ _ _ _) _ N (X.map bv) rfl (src_lies Try.underlying22 l3d (by simp [HN.out]) (bv_one X)) (by unfold maxLen; omega) (by omega) ?_
  intro A6 c6 w6 o6 k6 hat6
  refine hK.out _ _ trivial (fun hHeld => ?_)
  clear hK K
  try simp only [Act.put, List.setIfInBounds_toArray, List.set_cons_zero, List.set_cons_succ]
  refine wpAnyH_ready (rs := [12]) (by kernel_rfl) (by simp) ?_
  refine AllReadyH.cons (o := ⟨some 53, Op.call { callee := Callee.builtin Builtin.append, args := #[Operand.tmp 51, Operand.tmp 52], argTypes := #[22, 22] }, 22, _, _, none⟩) rfl (fun K hK => ?_) AllReadyH.nil
  refine step_append_src rfl (.tmp 51) (.tmp 52) 22 22 rfl 5 (.int .u8 0) 1 1 Try.underlying22 Try.infoU8 rfl (.slice A6 (0 + N) c6) (0 + N) _ rfl o6 _ n' (l'.map bv) rfl (src_lies Try.underlying22 (hrd.keep (k6.mono (T := noBlock) (fun i _ h => by simp [Value.ownBlock] at h)) (fun _ _ h => h)) (by simp [hl']) (bv_one l')) (by unfold maxLen; omega) (by omega) ?_
  intro A7 c7 w7 o7 k7 hat7
  refine hK.out _ _ trivial (fun hHeld => ?_)
  clear hK K
  try simp only [Act.put, List.setIfInBounds_toArray, List.set_cons_zero, List.set_cons_succ]
  refine wpAnyH_ready (rs := [13]) (by kernel_rfl) (by simp) ?_
  refine AllReadyH.cons (o := ⟨some 54, Op.buildSlice 32 4 #[(0, Operand.tmp 41), (1, Operand.tmp 42), (2, Operand.tmp 49), (3, Operand.tmp 53)], 32, _, _, none⟩) rfl (fun K hK => ?_) AllReadyH.nil
  go_simp
  refine hK.out _ _ trivial (fun hHeld => ?_)
  clear hK K
  try simp only [Act.put, List.setIfInBounds_toArray, List.set_cons_zero, List.set_cons_succ]
  refine wpAnyH_take (i := 14) (oi := ⟨some 55, Op.call { callee := Callee.builtin Builtin.len, args := #[Operand.tmp 54], argTypes := #[32] }, 3, _, _, none⟩) (v := ?v14n7k13) rfl (by kernel_rfl) (by kernel_rfl) (by kernel_rfl) (fun _ _ _ h => h) (Or.inl ⟨by rfl, ?y14n7k13⟩) hHeld ?z14n7k13
  case y14n7k13 => intro w hSw; (try dsimp only at hSw); go_simp <;> rfl
  try simp only [Act.put, List.setIfInBounds_toArray, List.set_cons_zero, List.set_cons_succ]
  refine wpAnyH_done (by kernel_rfl) ?_ _
  refine NoPanic.normal ?_
  have k56 : Kept noBlock w5.drew w6 := k6.mono (fun i _ h => by simp [Value.ownBlock] at h)
  have k57 : Kept noBlock w5.drew w7 := k56.trans k7 (fun i hi h => by
    rcases hat6 i h with h | h
    · cases h
    · have := h.1; omega)
  have k78 := Kept.alloc noBlock w7 (.cells #[.slice r n' c', .slice (some ⟨g, 0, none⟩) N c4, .slice (some ⟨B, 0, none⟩) k cx, .slice A7 (N + n') c7] 22)
  have k58 := k57.step k78
  have hcap7 : N + n' ≤ c7 := by obtain ⟨_, _, e, hle⟩ := own_form o7; injection e with _ _ e; omega
  have o7' : w7.ownsRow 0 5 1 (.slice A7 (N + n') c7) (N + n') ((X ++ l').map bv) := by simpa using o7
  have ask : ∀ i, i < 4 → ∃ (a' : Option Addr) (n1 c1 : Nat) (l1 : List UInt8), (w7.alloc (.cells #[.slice r n' c', .slice (some ⟨g, 0, none⟩) N c4, .slice (some ⟨B, 0, none⟩) k cx, .slice A7 (N + n') c7] 22)).cell? ⟨w7.heap.size, i, none⟩ = some (.slice a' n1 c1) ∧
      l1.length = n1 ∧ n1 ≤ c1 ∧ n1 ≤ 200000000000000 ∧ Lies (w7.alloc (.cells #[.slice r n' c', .slice (some ⟨g, 0, none⟩) N c4, .slice (some ⟨B, 0, none⟩) k cx, .slice A7 (N + n') c7] 22)) (fun _ => True) a' (l1.map bv) := by
    intro i hi
    have hcl := fun i => cell_of_row _ _ i _ _ _ (heap_alloc_new w7 (.cells #[.slice r n' c', .slice (some ⟨g, 0, none⟩) N c4, .slice (some ⟨B, 0, none⟩) k cx, .slice A7 (N + n') c7] 22))
    rcases (by omega : i = 0 ∨ i = 1 ∨ i = 2 ∨ i = 3) with rfl | rfl | rfl | rfl
    · exact ⟨r, n', c', l', hcl 0, hl', hc', by omega, (hrd.keep k58 (fun _ _ h => h)).mono (fun _ _ => trivial)⟩
    · exact ⟨_, N, c4, X.set k z, hcl 1, by rw [List.length_set, HN.out], hcap4, by omega, l5d.keep k58 (fun _ _ h => h)⟩
    · refine ⟨_, k, cx, X.take k, hcl 2, by rw [List.length_take, ← HN.out]; omega, by omega, by omega, ?_⟩
      rw [List.map_take]
      exact ((l3d.keep k58 (fun _ _ h => h)).mono (fun _ _ => trivial)).take k
    · exact ⟨A7, N + n', c7, X ++ l', hcl 3, by rw [List.length_append, ← HN.out, hl'], hcap7, by omega, (Lies.of_own o7' (fun _ _ => trivial)).keep k78 (fun _ _ h => h)⟩
  have kk := kall.step k58
  obtain ⟨D, hD⟩ : ∃ D, D = w7.heap.size := ⟨_, rfl⟩
  rw [← hD] at ask ⊢
  generalize (w7.alloc (.cells #[.slice r n' c', .slice (some ⟨g, 0, none⟩) N c4, .slice (some ⟨B, 0, none⟩) k cx, .slice A7 (N + n') c7] 22)) = w8 at ask kk ⊢
  clear hD o7 o7' o6 hat6 hat7 k6 k7 k56 k57 k58 k78 l3d l5d hrd jw jt jk jc hrem hki hN0
  have ASK := Lib.hid ask; clear ask
  go_wp2
  go_loopw [56] (fun i wr => ∃ j : Nat, j ≤ 4 ∧ i = .int .i64 j ∧ Kept noBlock w8 wr) (fun i _ => 4 - (intOf i).toNat)
  case atStart => exact ⟨0, by omega, rfl, Kept.refl _ _⟩
  case round =>
    obtain ⟨j, hj, rfl, kr⟩ := hrel
    by_cases hlt : j < 4
    · obtain ⟨a1, n1, c1, l1, hcell, hl1, hc1, hb1, hlie⟩ := ASK.out j hlt
      have hcell' := kr.cell hcell (fun h => h)
      have hlie' := hlie.keep kr (fun _ _ h => h)
      have ji : (j : Int) < 4 := by omega
      clear hcell hlie
      go_wp2_with fail
      refine (fone_any _ a1 n1 c1 l1 wr hlie' hl1 hb1 hc1).mono ?_
      rintro e w9 ⟨A9, c9, rfl, o9, k9⟩
      have l9 := Lies.of_own (F := fun _ => True) o9 (fun _ _ => trivial)
      have hlie9 := hlie'.keep k9 (fun _ _ h => h)
      clear o9 hlie' hcell'
      obtain ⟨u, hu⟩ : ∃ u, u = rd l1 := ⟨_, rfl⟩
      rw [← hu] at l9 ⊢
      have HU := Lib.hid hu; clear hu
      go_wp2_with fail
      refine (lone_any _ a1 n1 c1 l1 w9 hlie9 hl1 hb1 hc1).mono ?_
      rw [← HU.out]
      rintro e w10 ⟨A10, c10, rfl, l10, k10⟩
      have v1 := run_str (l9.keep k10 (fun _ _ h => h)) rfl
      have v2 := run_str l10 rfl
      obtain ⟨S1, hS1⟩ : ∃ S1, S1 = str u.1 := ⟨_, rfl⟩
      rw [← hS1] at v1 v2
      clear hS1 l9 l10 hlie9
      go_wp2
      go_roundw
      case rel => exact ⟨j + 1, by omega, by go_num, (kr.step k9).step k10⟩
      case measure => simp [intOf]; omega
    · obtain rfl : j = 4 := by omega
      go_wp2
      go_ret
      exact ⟨rfl, kk.step kr⟩

end Go.Proofs.Ythankjgebaanpaa
