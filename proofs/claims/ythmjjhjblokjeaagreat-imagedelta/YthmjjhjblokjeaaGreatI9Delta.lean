/-
  The contract of image.Delta. No statement is proved here.
-/
import Derived.Test.YthmjjhjblokjeaaGreatI9Head
import Derived.Test.YthmjjhjblokjeaaGreatConK
namespace Go.Proofs.YthmjjhjblokjeaaGreat
open Go.RowKit Tot

set_option maxRecDepth 100000 in
set_option maxHeartbeats 1000000 in
theorem dfile_any (F : Nat → Prop) (s : DltV) (A : Option Addr) (c : Nat) (B : Option Addr) (d : Nat) (m : Nat) (w : World) (h : Dv w F s A c B d) (hm : s.bytes.length = m) (hb : m ≤ 16384) :
    Calls Tryz.prog 7 #[dtv s A c B d] w fun e w' => ∃ P cp, e = .returned (.tuple #[.slice P (m + 35) cp, .int .i64 0]) ∧ w'.ownsRow w.heap.size 5 1 (.slice P (m + 35) cp) (m + 35) ((deltaB s).map bv) ∧ Kept noBlock w w' := by
  obtain ⟨w1, hw1⟩ : ∃ w1, w1 = w.alloc (.cells #[.int .i64 s.from_, .int .i64 s.to_, .int .i64 s.term, .slice A s.pairs.length c, .slice B s.sess.length d] 31) := ⟨_, rfl⟩
  have k1 : Kept noBlock w w1 := by rw [hw1]; exact Kept.alloc _ _ _
  have b1 : w1.heap[w.heap.size]? = some (.cells #[.int .i64 s.from_, .int .i64 s.to_, .int .i64 s.term, .slice A s.pairs.length c, .slice B s.sess.length d] 31 (0, 0)) := by rw [hw1]; exact heap_alloc_new w _
  have BS := Lib.hid (fun u (k : Kept noBlock w u) => dbytes_any F s A c B d m u (h.kept k) hm (by omega))
  have HD : Hid (∀ u, Calls Tryz.prog 26 #[.int .i64 1, .int .i64 s.from_, .int .i64 s.to_] u fun e w' => ∃ A c, e = .returned (.slice A 26 c) ∧ w'.ownsRow u.heap.size 5 1 (.slice A 26 c) 26 ((headB 1 s.from_ s.to_).map bv) ∧ Kept noBlock u w') := fun u => head_any 1 s.from_ s.to_ u
  have CE : Hid (∀ u, Kept noBlock w1 u → u.cell? ⟨w.heap.size, 0, none⟩ = some (.int .i64 s.from_) ∧ u.cell? ⟨w.heap.size, 1, none⟩ = some (.int .i64 s.to_) ∧ u.cell? ⟨w.heap.size, 2, none⟩ = some (.int .i64 s.term) ∧ u.cell? ⟨w.heap.size, 3, none⟩ = some (.slice A s.pairs.length c) ∧ u.cell? ⟨w.heap.size, 4, none⟩ = some (.slice B s.sess.length d)) := fun u k => dl_cells (k.blk b1 (fun h => h))
  have K1 := Lib.hid k1
  have HF : Hid (deltaB s = headB 1 s.from_ s.to_ ++ frm s.bytes) := Lib.hid rfl
  rw [HF.out]
  obtain ⟨X, hX⟩ : ∃ X, X = s.bytes := ⟨_, rfl⟩
  obtain ⟨H, hH⟩ : ∃ H, H = headB 1 s.from_ s.to_ := ⟨_, rfl⟩
  rw [← hX] at BS hm ⊢
  rw [← hH] at HD ⊢
  have HM := Lib.hid hm
  clear hX hH hm k1 b1 h HF
  unfold dtv at *
  go_enter Tryz.func7, Tryz.ntmps7
  go_upto_region 1 with (fail)
  rw [← hw1]
  clear hw1
  refine wp_region_noPanic ?_
  refine wp_region_held_drew (S := fun u => u.cell? ⟨w.heap.size, 0, none⟩ = some (.int .i64 s.from_) ∧ u.cell? ⟨w.heap.size, 1, none⟩ = some (.int .i64 s.to_) ∧ u.cell? ⟨w.heap.size, 2, none⟩ = some (.int .i64 s.term) ∧ u.cell? ⟨w.heap.size, 3, none⟩ = some (.slice A s.pairs.length c) ∧ u.cell? ⟨w.heap.size, 4, none⟩ = some (.slice B s.sess.length d)) (by kernel_rfl) (CE.out _ (Kept.drew _ _)) (fun hHeld => ?_)
  refine wpAnyH_take (i := 0) (oi := ⟨some 4, Op.fieldAddr 31 (Operand.tmp 1) 0, 0, _, _, none⟩) (v := ?v0n27k1) rfl (by kernel_rfl) (by kernel_rfl) (by kernel_rfl) (fun _ _ _ h => h) (Or.inl ⟨by rfl, ?y0n27k1⟩) hHeld ?z0n27k1
  case y0n27k1 => intro w hSw; (try dsimp only at hSw); go_simp <;> rfl
  try simp only [Act.put, List.setIfInBounds_toArray, List.set_cons_zero, List.set_cons_succ]
  refine wpAnyH_take (i := 1) (oi := ⟨some 5, Op.load 3 (Operand.tmp 4), 3, _, _, none⟩) (v := ?v1n27k2) rfl (by kernel_rfl) (by kernel_rfl) (by kernel_rfl) (fun _ _ _ h => h) (Or.inl ⟨by rfl, ?y1n27k2⟩) hHeld ?z1n27k2
  case y1n27k2 => intro w hSw; (try dsimp only at hSw); go_simp <;> rfl
  try simp only [Act.put, List.setIfInBounds_toArray, List.set_cons_zero, List.set_cons_succ]
  refine wpAnyH_take (i := 2) (oi := ⟨some 6, Op.fieldAddr 31 (Operand.tmp 1) 1, 0, _, _, none⟩) (v := ?v2n27k3) rfl (by kernel_rfl) (by kernel_rfl) (by kernel_rfl) (fun _ _ _ h => h) (Or.inl ⟨by rfl, ?y2n27k3⟩) hHeld ?z2n27k3
  case y2n27k3 => intro w hSw; (try dsimp only at hSw); go_simp <;> rfl
  try simp only [Act.put, List.setIfInBounds_toArray, List.set_cons_zero, List.set_cons_succ]
  refine wpAnyH_take (i := 3) (oi := ⟨some 7, Op.load 3 (Operand.tmp 6), 3, _, _, none⟩) (v := ?v3n27k4) rfl (by kernel_rfl) (by kernel_rfl) (by kernel_rfl) (fun _ _ _ h => h) (Or.inl ⟨by rfl, ?y3n27k4⟩) hHeld ?z3n27k4
  case y3n27k4 => intro w hSw; (try dsimp only at hSw); go_simp <;> rfl
  try simp only [Act.put, List.setIfInBounds_toArray, List.set_cons_zero, List.set_cons_succ]
  refine wpAnyH_take (i := 5) (oi := ⟨some 9, Op.load 31 (Operand.tmp 1), 31, _, _, none⟩) (v := ?v5n27k5) rfl (by kernel_rfl) (by kernel_rfl) (by kernel_rfl) (fun _ _ _ h => h) (Or.inl ⟨by rfl, ?y5n27k5⟩) hHeld ?z5n27k5
  case y5n27k5 => intro w hSw; (try dsimp only at hSw); go_simp <;> rfl
  try simp only [Act.put, List.setIfInBounds_toArray, List.set_cons_zero, List.set_cons_succ]
  refine wpAnyH_ready (rs := [4]) (by kernel_rfl) (by simp) ?_
  refine AllReadyH.cons (o := ⟨some 8, Op.call { callee := Callee.value (Operand.func 26), args := #[Operand.const (Value.int IntKind.i64 1), Operand.tmp 5, Operand.tmp 7], argTypes := #[73, 3, 3] }, 35, _, _, none⟩) rfl (fun K hK => ?_) AllReadyH.nil
  go_simp
  refine (HD.out _).mono ?_
  rintro e w2 ⟨A2, c2, rfl, o2, k2⟩
  have K2 := Lib.hid ((Kept.drew noBlock w1).step k2)
  have O2 := Lib.hid o2
  clear o2 k2
  dsimp only
  refine hK.out _ _ (CE.out _ K2.out) (fun hHeld => ?_)
  clear hK K
  try simp only [Act.put, List.setIfInBounds_toArray, List.set_cons_zero, List.set_cons_succ]
  refine wpAnyH_ready (rs := [6]) (by kernel_rfl) (by simp) ?_
  refine AllReadyH.cons (o := ⟨some 10, Op.call { callee := Callee.value (Operand.func 14), args := #[Operand.tmp 9], argTypes := #[31] }, 35, _, _, none⟩) rfl (fun K hK => ?_) AllReadyH.nil
  go_simp
  refine (BS.out _ (K1.out.step K2.out)).mono ?_
  rintro e w3 ⟨P, cp, rfl, o3, k3⟩
  have K3 := Lib.hid (K2.out.step k3)
  have L3 := Lib.hid (Lies.of_own (F := fun _ => True) o3 (fun _ _ => trivial))
  have O3 := Lib.hid (own_keep O2.out k3 (fun _ _ h => h))
  clear o3 k3
  dsimp only
  refine hK.out _ _ (CE.out _ K3.out) (fun hHeld => ?_)
  clear hK K
  try simp only [Act.put, List.setIfInBounds_toArray, List.set_cons_zero, List.set_cons_succ]
  refine wpAnyH_ready (rs := [7]) (by kernel_rfl) (by simp) ?_
  refine AllReadyH.cons (o := ⟨some 11, Op.call { callee := Callee.value (Operand.func 25), args := #[Operand.tmp 8, Operand.tmp 10], argTypes := #[35, 35] }, 36, _, _, none⟩) rfl (fun K hK => ?_) AllReadyH.nil
  go_simp
  refine (file_any _ (fun _ => True) A2 c2 H P m cp X _ O3.out L3.out HM.out hb).mono ?_
  rintro e w4 ⟨A4, c4, rfl, o4, g4⟩
  have O4 := Lib.hid o4
  have hN : Kept noBlock w w4 ∧ ∀ i, (Value.slice A4 (m + 35) c4).ownBlock = some i → w.heap.size ≤ i := g4.new (K1.out.step K3.out) (fun i hi => by have h1 : w1.heap.size ≤ i := (O3.out.lt i hi).1; have := K1.out.size; omega)
  have N4 := Lib.hid hN
  have K4 : Hid (Kept noBlock w1 w4) := (g4.new K3.out (fun i hi => by have h1 : w1.heap.size ≤ i := (O3.out.lt i hi).1; exact h1)).1
  clear o4 g4 hN
  dsimp only
  refine hK.out _ _ (CE.out _ K4.out) (fun hHeld => ?_)
  clear hK K
  try simp only [Act.put, List.setIfInBounds_toArray, List.set_cons_zero, List.set_cons_succ]
  refine wpAnyH_take (i := 8) (oi := ⟨some 12, Op.extract (Operand.tmp 11) 0, 35, _, _, none⟩) (v := ?v8n27k6) rfl (by kernel_rfl) (by kernel_rfl) (by kernel_rfl) (fun _ _ _ h => h) (Or.inl ⟨by rfl, ?y8n27k6⟩) hHeld ?z8n27k6
  case y8n27k6 => intro w hSw; (try dsimp only at hSw); go_simp <;> rfl
  try simp only [Act.put, List.setIfInBounds_toArray, List.set_cons_zero, List.set_cons_succ]
  refine wpAnyH_take (i := 9) (oi := ⟨some 13, Op.extract (Operand.tmp 11) 1, 32, _, _, none⟩) (v := ?v9n27k7) rfl (by kernel_rfl) (by kernel_rfl) (by kernel_rfl) (fun _ _ _ h => h) (Or.inl ⟨by rfl, ?y9n27k7⟩) hHeld ?z9n27k7
  case y9n27k7 => intro w hSw; (try dsimp only at hSw); go_simp <;> rfl
  try simp only [Act.put, List.setIfInBounds_toArray, List.set_cons_zero, List.set_cons_succ]
  refine wpAnyH_take (i := 10) (oi := ⟨some 2, Op.assign (Operand.tmp 12), 35, _, _, none⟩) (v := ?v10n27k8) rfl (by kernel_rfl) (by kernel_rfl) (by kernel_rfl) (fun _ _ _ h => h) (Or.inl ⟨by rfl, ?y10n27k8⟩) hHeld ?z10n27k8
  case y10n27k8 => intro w hSw; (try dsimp only at hSw); go_simp <;> rfl
  try simp only [Act.put, List.setIfInBounds_toArray, List.set_cons_zero, List.set_cons_succ]
  refine wpAnyH_take (i := 11) (oi := ⟨some 3, Op.assign (Operand.tmp 13), 32, _, _, none⟩) (v := ?v11n27k9) rfl (by kernel_rfl) (by kernel_rfl) (by kernel_rfl) (fun _ _ _ h => h) (Or.inl ⟨by rfl, ?y11n27k9⟩) hHeld ?z11n27k9
  case y11n27k9 => intro w hSw; (try dsimp only at hSw); go_simp <;> rfl
  try simp only [Act.put, List.setIfInBounds_toArray, List.set_cons_zero, List.set_cons_succ]
  refine wpAnyH_done (by kernel_rfl) ?_ _
  refine NoPanic.normal ?_
  go_wp2
  go_ret2
  exact ⟨A4, c4, rfl, own_base O4.out N4.out.2, N4.out.1⟩

set_option maxRecDepth 100000 in
set_option maxHeartbeats 1000000 in
theorem dfile_full (F : Nat → Prop) (s : DltV) (A : Option Addr) (c : Nat) (B : Option Addr) (d : Nat) (m : Nat) (w : World) (h : Dv w F s A c B d) (hm : s.bytes.length = m) (hb : 16384 < m) (hx : m ≤ 140737488355328) :
    Calls Tryz.prog 7 #[dtv s A c B d] w fun e w' => e = .returned (.tuple #[.slice none 0 0, .int .i64 4]) ∧ Kept noBlock w w' := by
  obtain ⟨w1, hw1⟩ : ∃ w1, w1 = w.alloc (.cells #[.int .i64 s.from_, .int .i64 s.to_, .int .i64 s.term, .slice A s.pairs.length c, .slice B s.sess.length d] 31) := ⟨_, rfl⟩
  have k1 : Kept noBlock w w1 := by rw [hw1]; exact Kept.alloc _ _ _
  have b1 : w1.heap[w.heap.size]? = some (.cells #[.int .i64 s.from_, .int .i64 s.to_, .int .i64 s.term, .slice A s.pairs.length c, .slice B s.sess.length d] 31 (0, 0)) := by rw [hw1]; exact heap_alloc_new w _
  have BS := Lib.hid (fun u (k : Kept noBlock w u) => dbytes_any F s A c B d m u (h.kept k) hm hx)
  have HD : Hid (∀ u, Calls Tryz.prog 26 #[.int .i64 1, .int .i64 s.from_, .int .i64 s.to_] u fun e w' => ∃ A c, e = .returned (.slice A 26 c) ∧ w'.ownsRow u.heap.size 5 1 (.slice A 26 c) 26 ((headB 1 s.from_ s.to_).map bv) ∧ Kept noBlock u w') := fun u => head_any 1 s.from_ s.to_ u
  have CE : Hid (∀ u, Kept noBlock w1 u → u.cell? ⟨w.heap.size, 0, none⟩ = some (.int .i64 s.from_) ∧ u.cell? ⟨w.heap.size, 1, none⟩ = some (.int .i64 s.to_) ∧ u.cell? ⟨w.heap.size, 2, none⟩ = some (.int .i64 s.term) ∧ u.cell? ⟨w.heap.size, 3, none⟩ = some (.slice A s.pairs.length c) ∧ u.cell? ⟨w.heap.size, 4, none⟩ = some (.slice B s.sess.length d)) := fun u k => dl_cells (k.blk b1 (fun h => h))
  have K1 := Lib.hid k1
  obtain ⟨X, hX⟩ : ∃ X, X = s.bytes := ⟨_, rfl⟩
  obtain ⟨H, hH⟩ : ∃ H, H = headB 1 s.from_ s.to_ := ⟨_, rfl⟩
  rw [← hX] at BS hm
  rw [← hH] at HD
  have HM := Lib.hid hm
  clear hX hH hm k1 b1 h
  unfold dtv at *
  go_enter Tryz.func7, Tryz.ntmps7
  go_upto_region 1 with (fail)
  rw [← hw1]
  clear hw1
  refine wp_region_noPanic ?_
  refine wp_region_held_drew (S := fun u => u.cell? ⟨w.heap.size, 0, none⟩ = some (.int .i64 s.from_) ∧ u.cell? ⟨w.heap.size, 1, none⟩ = some (.int .i64 s.to_) ∧ u.cell? ⟨w.heap.size, 2, none⟩ = some (.int .i64 s.term) ∧ u.cell? ⟨w.heap.size, 3, none⟩ = some (.slice A s.pairs.length c) ∧ u.cell? ⟨w.heap.size, 4, none⟩ = some (.slice B s.sess.length d)) (by kernel_rfl) (CE.out _ (Kept.drew _ _)) (fun hHeld => ?_)
  refine wpAnyH_take (i := 0) (oi := ⟨some 4, Op.fieldAddr 31 (Operand.tmp 1) 0, 0, _, _, none⟩) (v := ?v0n28k1) rfl (by kernel_rfl) (by kernel_rfl) (by kernel_rfl) (fun _ _ _ h => h) (Or.inl ⟨by rfl, ?y0n28k1⟩) hHeld ?z0n28k1
  case y0n28k1 => intro w hSw; (try dsimp only at hSw); go_simp <;> rfl
  try simp only [Act.put, List.setIfInBounds_toArray, List.set_cons_zero, List.set_cons_succ]
  refine wpAnyH_take (i := 1) (oi := ⟨some 5, Op.load 3 (Operand.tmp 4), 3, _, _, none⟩) (v := ?v1n28k2) rfl (by kernel_rfl) (by kernel_rfl) (by kernel_rfl) (fun _ _ _ h => h) (Or.inl ⟨by rfl, ?y1n28k2⟩) hHeld ?z1n28k2
  case y1n28k2 => intro w hSw; (try dsimp only at hSw); go_simp <;> rfl
  try simp only [Act.put, List.setIfInBounds_toArray, List.set_cons_zero, List.set_cons_succ]
  refine wpAnyH_take (i := 2) (oi := ⟨some 6, Op.fieldAddr 31 (Operand.tmp 1) 1, 0, _, _, none⟩) (v := ?v2n28k3) rfl (by kernel_rfl) (by kernel_rfl) (by kernel_rfl) (fun _ _ _ h => h) (Or.inl ⟨by rfl, ?y2n28k3⟩) hHeld ?z2n28k3
  case y2n28k3 => intro w hSw; (try dsimp only at hSw); go_simp <;> rfl
  try simp only [Act.put, List.setIfInBounds_toArray, List.set_cons_zero, List.set_cons_succ]
  refine wpAnyH_take (i := 3) (oi := ⟨some 7, Op.load 3 (Operand.tmp 6), 3, _, _, none⟩) (v := ?v3n28k4) rfl (by kernel_rfl) (by kernel_rfl) (by kernel_rfl) (fun _ _ _ h => h) (Or.inl ⟨by rfl, ?y3n28k4⟩) hHeld ?z3n28k4
  case y3n28k4 => intro w hSw; (try dsimp only at hSw); go_simp <;> rfl
  try simp only [Act.put, List.setIfInBounds_toArray, List.set_cons_zero, List.set_cons_succ]
  refine wpAnyH_take (i := 5) (oi := ⟨some 9, Op.load 31 (Operand.tmp 1), 31, _, _, none⟩) (v := ?v5n28k5) rfl (by kernel_rfl) (by kernel_rfl) (by kernel_rfl) (fun _ _ _ h => h) (Or.inl ⟨by rfl, ?y5n28k5⟩) hHeld ?z5n28k5
  case y5n28k5 => intro w hSw; (try dsimp only at hSw); go_simp <;> rfl
  try simp only [Act.put, List.setIfInBounds_toArray, List.set_cons_zero, List.set_cons_succ]
  refine wpAnyH_ready (rs := [4]) (by kernel_rfl) (by simp) ?_
  refine AllReadyH.cons (o := ⟨some 8, Op.call { callee := Callee.value (Operand.func 26), args := #[Operand.const (Value.int IntKind.i64 1), Operand.tmp 5, Operand.tmp 7], argTypes := #[73, 3, 3] }, 35, _, _, none⟩) rfl (fun K hK => ?_) AllReadyH.nil
  go_simp
  refine (HD.out _).mono ?_
  rintro e w2 ⟨A2, c2, rfl, o2, k2⟩
  have K2 := Lib.hid ((Kept.drew noBlock w1).step k2)
  have O2 := Lib.hid o2
  clear o2 k2
  dsimp only
  refine hK.out _ _ (CE.out _ K2.out) (fun hHeld => ?_)
  clear hK K
  try simp only [Act.put, List.setIfInBounds_toArray, List.set_cons_zero, List.set_cons_succ]
  refine wpAnyH_ready (rs := [6]) (by kernel_rfl) (by simp) ?_
  refine AllReadyH.cons (o := ⟨some 10, Op.call { callee := Callee.value (Operand.func 14), args := #[Operand.tmp 9], argTypes := #[31] }, 35, _, _, none⟩) rfl (fun K hK => ?_) AllReadyH.nil
  go_simp
  refine (BS.out _ (K1.out.step K2.out)).mono ?_
  rintro e w3 ⟨P, cp, rfl, o3, k3⟩
  have K3 := Lib.hid (K2.out.step k3)
  have L3 := Lib.hid (Lies.of_own (F := fun _ => True) o3 (fun _ _ => trivial))
  have O3 := Lib.hid (own_keep O2.out k3 (fun _ _ h => h))
  clear o3 k3
  dsimp only
  refine hK.out _ _ (CE.out _ K3.out) (fun hHeld => ?_)
  clear hK K
  try simp only [Act.put, List.setIfInBounds_toArray, List.set_cons_zero, List.set_cons_succ]
  refine wpAnyH_ready (rs := [7]) (by kernel_rfl) (by simp) ?_
  refine AllReadyH.cons (o := ⟨some 11, Op.call { callee := Callee.value (Operand.func 25), args := #[Operand.tmp 8, Operand.tmp 10], argTypes := #[35, 35] }, 36, _, _, none⟩) rfl (fun K hK => ?_) AllReadyH.nil
  go_simp
  refine (file_full A2 26 c2 P m cp _ hb).mono ?_
  rintro e w4 ⟨rfl, rfl⟩
  dsimp only
  refine hK.out _ _ (CE.out _ K3.out) (fun hHeld => ?_)
  clear hK K
  try simp only [Act.put, List.setIfInBounds_toArray, List.set_cons_zero, List.set_cons_succ]
  refine wpAnyH_take (i := 8) (oi := ⟨some 12, Op.extract (Operand.tmp 11) 0, 35, _, _, none⟩) (v := ?v8n28k6) rfl (by kernel_rfl) (by kernel_rfl) (by kernel_rfl) (fun _ _ _ h => h) (Or.inl ⟨by rfl, ?y8n28k6⟩) hHeld ?z8n28k6
  case y8n28k6 => intro w hSw; (try dsimp only at hSw); go_simp <;> rfl
  try simp only [Act.put, List.setIfInBounds_toArray, List.set_cons_zero, List.set_cons_succ]
  refine wpAnyH_take (i := 9) (oi := ⟨some 13, Op.extract (Operand.tmp 11) 1, 32, _, _, none⟩) (v := ?v9n28k7) rfl (by kernel_rfl) (by kernel_rfl) (by kernel_rfl) (fun _ _ _ h => h) (Or.inl ⟨by rfl, ?y9n28k7⟩) hHeld ?z9n28k7
  case y9n28k7 => intro w hSw; (try dsimp only at hSw); go_simp <;> rfl
  try simp only [Act.put, List.setIfInBounds_toArray, List.set_cons_zero, List.set_cons_succ]
  refine wpAnyH_take (i := 10) (oi := ⟨some 2, Op.assign (Operand.tmp 12), 35, _, _, none⟩) (v := ?v10n28k8) rfl (by kernel_rfl) (by kernel_rfl) (by kernel_rfl) (fun _ _ _ h => h) (Or.inl ⟨by rfl, ?y10n28k8⟩) hHeld ?z10n28k8
  case y10n28k8 => intro w hSw; (try dsimp only at hSw); go_simp <;> rfl
  try simp only [Act.put, List.setIfInBounds_toArray, List.set_cons_zero, List.set_cons_succ]
  refine wpAnyH_take (i := 11) (oi := ⟨some 3, Op.assign (Operand.tmp 13), 32, _, _, none⟩) (v := ?v11n28k9) rfl (by kernel_rfl) (by kernel_rfl) (by kernel_rfl) (fun _ _ _ h => h) (Or.inl ⟨by rfl, ?y11n28k9⟩) hHeld ?z11n28k9
  case y11n28k9 => intro w hSw; (try dsimp only at hSw); go_simp <;> rfl
  try simp only [Act.put, List.setIfInBounds_toArray, List.set_cons_zero, List.set_cons_succ]
  refine wpAnyH_done (by kernel_rfl) ?_ _
  refine NoPanic.normal ?_
  go_wp2
  go_ret2
  exact ⟨rfl, K1.out.step K3.out⟩
end Go.Proofs.YthmjjhjblokjeaaGreat
