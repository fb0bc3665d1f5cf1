/-
  Several texts, one behind the other. No statement is proved here.
-/
import Derived.Test.YthmjjhjblokjeaaGreatEntK
import Derived.Deep.DeepCutAuto
/-
  The contract of cmds.Bytes. No statement is proved here.
-/
namespace Go.Proofs.YthmjjhjblokjeaaGreat
open Go.RowKit

theorem fits {xs ys : List UInt8} {n k : Nat} (h : xs.length = n) (hk : ys.length = k) : (xs ++ ys).length = n + k := by rw [List.length_append, h, hk]

/-- The cells of an entry at block B, and of its command at block C. -/
def Ecells (B C : Nat) (e : EntryV) (w : World) : Prop :=
  w.cell? ⟨B, 0, none⟩ = some (.int .i64 e.index) ∧ w.cell? ⟨B, 1, none⟩ = some (.int .i64 e.term) ∧ w.cell? ⟨C, 0, none⟩ = some (.int .i64 e.cmd.op) ∧ w.cell? ⟨C, 1, none⟩ = some (.int .i64 e.cmd.client) ∧ w.cell? ⟨C, 2, none⟩ = some (.int .i64 e.cmd.seq) ∧
  w.cell? ⟨C, 3, none⟩ = some (.string e.cmd.key) ∧ w.cell? ⟨C, 4, none⟩ = some (.string e.cmd.value) ∧ w.cell? ⟨C, 5, none⟩ = some (.string e.cmd.old)
theorem ecells {w w' : World} {B C b : Nat} {e : EntryV} {fr fr' : Nat × Nat} {t t' : TypeId} (h1 : w.heap[B]? = some (.cells e.cells.toArray t fr)) (h2 : w.heap[C]? = some (.cells e.cmd.cells.toArray t' fr')) (k : Kept (fun k => k = b) w w') (n1 : B ≠ b) (n2 : C ≠ b) : Ecells B C e w' := by
  have g1 := k.blk h1 n1
  have g2 := k.blk h2 n2
  unfold EntryV.cells at g1
  unfold CmdV.cells at g2
  exact ⟨cell_of_row _ _ _ _ _ _ g1, cell_of_row _ _ _ _ _ _ g1, cell_of_row _ _ _ _ _ _ g2, cell_of_row _ _ _ _ _ _ g2, cell_of_row _ _ _ _ _ _ g2, cell_of_row _ _ _ _ _ _ g2, cell_of_row _ _ _ _ _ _ g2, cell_of_row _ _ _ _ _ _ g2⟩

set_option maxHeartbeats 1000000 in
theorem bytes_any (e : EntryV) (n : Nat) (w : World) (hn : e.bytes.length = n) (hx : n ≤ 140737488355328) :
    Calls Tryz.prog 41 #[e.val] w fun en w' => ∃ A c, en = .returned (.slice A n c) ∧ w'.ownsRow w.heap.size 5 1 (.slice A n c) n (e.bytes.map bv) ∧ Kept noBlock w w' := by
  have hlen := hn
  rw [EntryV.bytes_length] at hlen
  obtain ⟨w1, hw1⟩ : ∃ w1, w1 = (w.alloc (.cells e.cells.toArray 56)).alloc (.cells e.cmd.cells.toArray 54) := ⟨_, rfl⟩
  have k1 : Kept noBlock w w1 := by rw [hw1]; exact (Kept.alloc _ _ _).step (Kept.alloc _ _ _)
  have hs1 : w1.heap.size = w.heap.size + 1 + 1 := by rw [hw1]; simp
  have b1 : w1.heap[w.heap.size]? = some (.cells e.cells.toArray 56 (0, 0)) := by rw [hw1]; exact (Kept.alloc noBlock _ _).blk (heap_alloc_new w _) (fun h => h)
  have b2 : w1.heap[w.heap.size + 1]? = some (.cells e.cmd.cells.toArray 54 (0, 0)) := by
    rw [hw1]
    have := heap_alloc_new (w.alloc (.cells e.cells.toArray 56)) (.cells e.cmd.cells.toArray 54)
    simpa using this
  have p0 : Pen (w1.alloc (.cells #[.slice none 0 0] 90)) (w1.alloc (.cells #[.slice none 0 0] 90)) (w.heap.size + 1 + 1) [] := by
    have := Pen.new w1
    rw [hs1] at this
    exact this
  have EC : Hid (∀ w', Kept (fun k => k = w.heap.size + 1 + 1) (w1.alloc (.cells #[.slice none 0 0] 90)) w' → Ecells w.heap.size (w.heap.size + 1) e w') := fun w' k =>
    ecells ((Kept.alloc noBlock _ _).blk b1 (fun h => h)) ((Kept.alloc noBlock _ _).blk b2 (fun h => h)) k (by omega) (by omega)
  have K0 := Lib.hid ((k1.step (Kept.alloc noBlock w1 (.cells #[.slice none 0 0] 90))))
  clear b1 b2 k1
  have HLEN := Lib.hid hlen
  have HN := Lib.hid hn
  have HS1 := Lib.hid hs1
  clear hlen hn hs1
  unfold EntryV.cells CmdV.cells at hw1
  obtain ⟨index, term, op, client, seq, key, value, old⟩ := e
  unfold EntryV.val
  simp only at hw1 ⊢
  have HU := Lib.hid (u8_low op)
  go_enter Tryz.func41, Tryz.ntmps41
  go_upto_region 3 with (fail)
  rw [← hw1]
  clear hw1
  have EA : Hid (∀ w', Kept (fun k => k = w.heap.size + 1 + 1) (w1.alloc (.cells #[.slice none 0 0] 90)) w' → w'.cell? ⟨w.heap.size, 0, none⟩ = some (.int .i64 index) ∧ w'.cell? ⟨w.heap.size, 1, none⟩ = some (.int .i64 term)) := fun w' k => ⟨(EC.out w' k).1, (EC.out w' k).2.1⟩
  have EB : Hid (∀ w', Kept (fun k => k = w.heap.size + 1 + 1) (w1.alloc (.cells #[.slice none 0 0] 90)) w' → w'.cell? ⟨w.heap.size + 1, 0, none⟩ = some (.int .i64 op) ∧ w'.cell? ⟨w.heap.size + 1, 1, none⟩ = some (.int .i64 client) ∧ w'.cell? ⟨w.heap.size + 1, 2, none⟩ = some (.int .i64 seq)) := fun w' k => ⟨(EC.out w' k).2.2.1, (EC.out w' k).2.2.2.1, (EC.out w' k).2.2.2.2.1⟩
  have ED : Hid (∀ w', Kept (fun k => k = w.heap.size + 1 + 1) (w1.alloc (.cells #[.slice none 0 0] 90)) w' → w'.cell? ⟨w.heap.size + 1, 3, none⟩ = some (.string key) ∧ w'.cell? ⟨w.heap.size + 1, 4, none⟩ = some (.string value) ∧ w'.cell? ⟨w.heap.size + 1, 5, none⟩ = some (.string old)) := fun w' k => (EC.out w' k).2.2.2.2.2
  clear EC
  have p1 := p0.drew
  clear p0
  refine wp_region_noPanic ?_
  refine wp_region_held_drew (S := fun w' => w'.cell? ⟨w.heap.size, 0, none⟩ = some (.int .i64 index) ∧ w'.cell? ⟨w.heap.size, 1, none⟩ = some (.int .i64 term)) (by kernel_rfl) (EA.out _ p1.1) (fun hHeld => ?_)
  refine wpAnyH_take (i := 0) (oi := ⟨some 8, Op.move (Operand.tmp 4), 88, _, _, none⟩) (v := ?v0n24k1) rfl (by kernel_rfl) (by kernel_rfl) (by kernel_rfl) (fun _ _ _ h => h) (Or.inl ⟨by rfl, ?y0n24k1⟩) hHeld ?z0n24k1
  case y0n24k1 => intro w hSw; (try dsimp only at hSw); go_simp <;> rfl
  try simp only [Act.put, List.setIfInBounds_toArray, List.set_cons_zero, List.set_cons_succ]
  refine wpAnyH_take (i := 1) (oi := ⟨some 9, Op.fieldAddr 56 (Operand.tmp 1) 0, 0, _, _, none⟩) (v := ?v1n24k2) rfl (by kernel_rfl) (by kernel_rfl) (by kernel_rfl) (fun _ _ _ h => h) (Or.inl ⟨by rfl, ?y1n24k2⟩) hHeld ?z1n24k2
  case y1n24k2 => intro w hSw; (try dsimp only at hSw); go_simp <;> rfl
  try simp only [Act.put, List.setIfInBounds_toArray, List.set_cons_zero, List.set_cons_succ]
  refine wpAnyH_take (i := 2) (oi := ⟨some 10, Op.load 3 (Operand.tmp 9), 3, _, _, none⟩) (v := ?v2n24k3) rfl (by kernel_rfl) (by kernel_rfl) (by kernel_rfl) (fun _ _ _ h => h) (Or.inl ⟨by rfl, ?y2n24k3⟩) hHeld ?z2n24k3
  case y2n24k3 => intro w hSw; (try dsimp only at hSw); go_simp <;> rfl
  try simp only [Act.put, List.setIfInBounds_toArray, List.set_cons_zero, List.set_cons_succ]
  refine wpAnyH_take (i := 4) (oi := ⟨some 12, Op.fieldAddr 56 (Operand.tmp 1) 1, 0, _, _, none⟩) (v := ?v4n24k4) rfl (by kernel_rfl) (by kernel_rfl) (by kernel_rfl) (fun _ _ _ h => h) (Or.inl ⟨by rfl, ?y4n24k4⟩) hHeld ?z4n24k4
  case y4n24k4 => intro w hSw; (try dsimp only at hSw); go_simp <;> rfl
  try simp only [Act.put, List.setIfInBounds_toArray, List.set_cons_zero, List.set_cons_succ]
  refine wpAnyH_take (i := 5) (oi := ⟨some 13, Op.load 3 (Operand.tmp 12), 3, _, _, none⟩) (v := ?v5n24k5) rfl (by kernel_rfl) (by kernel_rfl) (by kernel_rfl) (fun _ _ _ h => h) (Or.inl ⟨by rfl, ?y5n24k5⟩) hHeld ?z5n24k5
  case y5n24k5 => intro w hSw; (try dsimp only at hSw); go_simp <;> rfl
  try simp only [Act.put, List.setIfInBounds_toArray, List.set_cons_zero, List.set_cons_succ]
  refine wpAnyH_ready (rs := [3]) (by kernel_rfl) (by simp) ?_
  refine AllReadyH.cons (o := ⟨some 11, Op.call { callee := Callee.value (Operand.func 37), args := #[Operand.tmp 8, Operand.tmp 10], argTypes := #[88, 3] }, 88, _, _, none⟩) rfl (fun K hK => ?_) AllReadyH.nil
  go_simp
  refine (pen_num p1 _ (by simp)).mono ?_
  rintro e w2 ⟨rfl, p2⟩
  dsimp only
  refine hK.out _ _ (EA.out _ p2.1) (fun hHeld => ?_)
  clear hK K
  try simp only [Act.put, List.setIfInBounds_toArray, List.set_cons_zero, List.set_cons_succ]
  refine wpAnyH_ready (rs := [6]) (by kernel_rfl) (by simp) ?_
  refine AllReadyH.cons (o := ⟨some 14, Op.call { callee := Callee.value (Operand.func 37), args := #[Operand.tmp 11, Operand.tmp 13], argTypes := #[88, 3] }, 88, _, _, none⟩) rfl (fun K hK => ?_) AllReadyH.nil
  go_simp
  refine (pen_num p2 _ (by simp [be8_length])).mono ?_
  rintro e w3 ⟨rfl, p3⟩
  dsimp only
  refine hK.out _ _ (EA.out _ p3.1) (fun hHeld => ?_)
  clear hK K
  try simp only [Act.put, List.setIfInBounds_toArray, List.set_cons_zero, List.set_cons_succ]
  refine wpAnyH_done (by kernel_rfl) ?_ _
  refine NoPanic.normal ?_
  clear hHeld p1 p2
  go_upto_region 4 with (fail)
  have p4 := p3.drew
  clear p3
  refine wp_region_noPanic ?_
  refine wp_region_held_drew (S := fun w' => w'.cell? ⟨w.heap.size + 1, 0, none⟩ = some (.int .i64 op) ∧ w'.cell? ⟨w.heap.size + 1, 1, none⟩ = some (.int .i64 client) ∧ w'.cell? ⟨w.heap.size + 1, 2, none⟩ = some (.int .i64 seq)) (by kernel_rfl) (EB.out _ p4.1) (fun hHeld => ?_)
  refine wpAnyH_take (i := 0) (oi := ⟨some 15, Op.move (Operand.tmp 4), 88, _, _, none⟩) (v := ?v0n25k1) rfl (by kernel_rfl) (by kernel_rfl) (by kernel_rfl) (fun _ _ _ h => h) (Or.inl ⟨by rfl, ?y0n25k1⟩) hHeld ?z0n25k1
  case y0n25k1 => intro w hSw; (try dsimp only at hSw); go_simp <;> rfl
  try simp only [Act.put, List.setIfInBounds_toArray, List.set_cons_zero, List.set_cons_succ]
  refine wpAnyH_take (i := 1) (oi := ⟨some 16, Op.fieldAddr 54 (Operand.tmp 3) 0, 0, _, _, none⟩) (v := ?v1n25k2) rfl (by kernel_rfl) (by kernel_rfl) (by kernel_rfl) (fun _ _ _ h => h) (Or.inl ⟨by rfl, ?y1n25k2⟩) hHeld ?z1n25k2
  case y1n25k2 => intro w hSw; (try dsimp only at hSw); go_simp <;> rfl
  try simp only [Act.put, List.setIfInBounds_toArray, List.set_cons_zero, List.set_cons_succ]
  refine wpAnyH_take (i := 2) (oi := ⟨some 17, Op.load 52 (Operand.tmp 16), 52, _, _, none⟩) (v := ?v2n25k3) rfl (by kernel_rfl) (by kernel_rfl) (by kernel_rfl) (fun _ _ _ h => h) (Or.inl ⟨by rfl, ?y2n25k3⟩) hHeld ?z2n25k3
  case y2n25k3 => intro w hSw; (try dsimp only at hSw); go_simp <;> rfl
  try simp only [Act.put, List.setIfInBounds_toArray, List.set_cons_zero, List.set_cons_succ]
  refine wpAnyH_take (i := 3) (oi := ⟨some 18, Op.convert 52 5 (Operand.tmp 17), 5, _, _, none⟩) (v := ?v3n25k4) rfl (by kernel_rfl) (by kernel_rfl) (by kernel_rfl) (fun _ _ _ h => h) (Or.inl ⟨by rfl, ?y3n25k4⟩) hHeld ?z3n25k4
  case y3n25k4 => intro w hSw; (try dsimp only at hSw); go_simp <;> rfl
  try simp only [Act.put, List.setIfInBounds_toArray, List.set_cons_zero, List.set_cons_succ]
  refine wpAnyH_take (i := 5) (oi := ⟨some 20, Op.fieldAddr 54 (Operand.tmp 3) 1, 0, _, _, none⟩) (v := ?v5n25k5) rfl (by kernel_rfl) (by kernel_rfl) (by kernel_rfl) (fun _ _ _ h => h) (Or.inl ⟨by rfl, ?y5n25k5⟩) hHeld ?z5n25k5
  case y5n25k5 => intro w hSw; (try dsimp only at hSw); go_simp <;> rfl
  try simp only [Act.put, List.setIfInBounds_toArray, List.set_cons_zero, List.set_cons_succ]
  refine wpAnyH_take (i := 6) (oi := ⟨some 21, Op.load 3 (Operand.tmp 20), 3, _, _, none⟩) (v := ?v6n25k6) rfl (by kernel_rfl) (by kernel_rfl) (by kernel_rfl) (fun _ _ _ h => h) (Or.inl ⟨by rfl, ?y6n25k6⟩) hHeld ?z6n25k6
  case y6n25k6 => intro w hSw; (try dsimp only at hSw); go_simp <;> rfl
  try simp only [Act.put, List.setIfInBounds_toArray, List.set_cons_zero, List.set_cons_succ]
  refine wpAnyH_take (i := 8) (oi := ⟨some 23, Op.fieldAddr 54 (Operand.tmp 3) 2, 0, _, _, none⟩) (v := ?v8n25k7) rfl (by kernel_rfl) (by kernel_rfl) (by kernel_rfl) (fun _ _ _ h => h) (Or.inl ⟨by rfl, ?y8n25k7⟩) hHeld ?z8n25k7
  case y8n25k7 => intro w hSw; (try dsimp only at hSw); go_simp <;> rfl
  try simp only [Act.put, List.setIfInBounds_toArray, List.set_cons_zero, List.set_cons_succ]
  refine wpAnyH_take (i := 9) (oi := ⟨some 24, Op.load 3 (Operand.tmp 23), 3, _, _, none⟩) (v := ?v9n25k8) rfl (by kernel_rfl) (by kernel_rfl) (by kernel_rfl) (fun _ _ _ h => h) (Or.inl ⟨by rfl, ?y9n25k8⟩) hHeld ?z9n25k8
  case y9n25k8 => intro w hSw; (try dsimp only at hSw); go_simp <;> rfl
  try simp only [Act.put, List.setIfInBounds_toArray, List.set_cons_zero, List.set_cons_succ]
  refine wpAnyH_ready (rs := [4]) (by kernel_rfl) (by simp) ?_
  refine AllReadyH.cons (o := ⟨some 19, Op.call { callee := Callee.value (Operand.func 36), args := #[Operand.tmp 15, Operand.tmp 18], argTypes := #[88, 5] }, 88, _, _, none⟩) rfl (fun K hK => ?_) AllReadyH.nil
  go_simp
  rw [HU.out]
  refine (pen_byte p4 _ (by simp [be8_length])).mono ?_
  rintro e w5 ⟨rfl, p5⟩
  dsimp only
  refine hK.out _ _ (EB.out _ p5.1) (fun hHeld => ?_)
  clear hK K
  try simp only [Act.put, List.setIfInBounds_toArray, List.set_cons_zero, List.set_cons_succ]
  refine wpAnyH_ready (rs := [7]) (by kernel_rfl) (by simp) ?_
  refine AllReadyH.cons (o := ⟨some 22, Op.call { callee := Callee.value (Operand.func 37), args := #[Operand.tmp 19, Operand.tmp 21], argTypes := #[88, 3] }, 88, _, _, none⟩) rfl (fun K hK => ?_) AllReadyH.nil
  go_simp
  refine (pen_num p5 _ (by simp [be8_length])).mono ?_
  rintro e w6 ⟨rfl, p6⟩
  dsimp only
  refine hK.out _ _ (EB.out _ p6.1) (fun hHeld => ?_)
  clear hK K
  try simp only [Act.put, List.setIfInBounds_toArray, List.set_cons_zero, List.set_cons_succ]
  refine wpAnyH_ready (rs := [10]) (by kernel_rfl) (by simp) ?_
  refine AllReadyH.cons (o := ⟨some 25, Op.call { callee := Callee.value (Operand.func 37), args := #[Operand.tmp 22, Operand.tmp 24], argTypes := #[88, 3] }, 88, _, _, none⟩) rfl (fun K hK => ?_) AllReadyH.nil
  go_simp
  refine (pen_num p6 _ (by simp [be8_length])).mono ?_
  rintro e w7 ⟨rfl, p7⟩
  dsimp only
  refine hK.out _ _ (EB.out _ p7.1) (fun hHeld => ?_)
  clear hK K
  try simp only [Act.put, List.setIfInBounds_toArray, List.set_cons_zero, List.set_cons_succ]
  refine wpAnyH_done (by kernel_rfl) ?_ _
  refine NoPanic.normal ?_
  clear hHeld p4 p5 p6
  go_upto_region 5 with (fail)
  have p8 := p7.drew
  clear p7
  have hl := HLEN.out
  simp only at hl
  refine wp_region_noPanic ?_
  refine wp_region_held_drew (S := fun w' => w'.cell? ⟨w.heap.size + 1, 3, none⟩ = some (.string key) ∧ w'.cell? ⟨w.heap.size + 1, 4, none⟩ = some (.string value) ∧ w'.cell? ⟨w.heap.size + 1, 5, none⟩ = some (.string old)) (by kernel_rfl) (ED.out _ p8.1) (fun hHeld => ?_)
  refine wpAnyH_take (i := 0) (oi := ⟨some 26, Op.move (Operand.tmp 4), 88, _, _, none⟩) (v := ?v0n26k1) rfl (by kernel_rfl) (by kernel_rfl) (by kernel_rfl) (fun _ _ _ h => h) (Or.inl ⟨by rfl, ?y0n26k1⟩) hHeld ?z0n26k1
  case y0n26k1 => intro w hSw; (try dsimp only at hSw); go_simp <;> rfl
  try simp only [Act.put, List.setIfInBounds_toArray, List.set_cons_zero, List.set_cons_succ]
  refine wpAnyH_take (i := 1) (oi := ⟨some 27, Op.fieldAddr 54 (Operand.tmp 3) 3, 0, _, _, none⟩) (v := ?v1n26k2) rfl (by kernel_rfl) (by kernel_rfl) (by kernel_rfl) (fun _ _ _ h => h) (Or.inl ⟨by rfl, ?y1n26k2⟩) hHeld ?z1n26k2
  case y1n26k2 => intro w hSw; (try dsimp only at hSw); go_simp <;> rfl
  try simp only [Act.put, List.setIfInBounds_toArray, List.set_cons_zero, List.set_cons_succ]
  refine wpAnyH_take (i := 2) (oi := ⟨some 28, Op.load 9 (Operand.tmp 27), 9, _, _, none⟩) (v := ?v2n26k3) rfl (by kernel_rfl) (by kernel_rfl) (by kernel_rfl) (fun _ _ _ h => h) (Or.inl ⟨by rfl, ?y2n26k3⟩) hHeld ?z2n26k3
  case y2n26k3 => intro w hSw; (try dsimp only at hSw); go_simp <;> rfl
  try simp only [Act.put, List.setIfInBounds_toArray, List.set_cons_zero, List.set_cons_succ]
  refine wpAnyH_take (i := 4) (oi := ⟨some 30, Op.fieldAddr 54 (Operand.tmp 3) 4, 0, _, _, none⟩) (v := ?v4n26k4) rfl (by kernel_rfl) (by kernel_rfl) (by kernel_rfl) (fun _ _ _ h => h) (Or.inl ⟨by rfl, ?y4n26k4⟩) hHeld ?z4n26k4
  case y4n26k4 => intro w hSw; (try dsimp only at hSw); go_simp <;> rfl
  try simp only [Act.put, List.setIfInBounds_toArray, List.set_cons_zero, List.set_cons_succ]
  refine wpAnyH_take (i := 5) (oi := ⟨some 31, Op.load 9 (Operand.tmp 30), 9, _, _, none⟩) (v := ?v5n26k5) rfl (by kernel_rfl) (by kernel_rfl) (by kernel_rfl) (fun _ _ _ h => h) (Or.inl ⟨by rfl, ?y5n26k5⟩) hHeld ?z5n26k5
  case y5n26k5 => intro w hSw; (try dsimp only at hSw); go_simp <;> rfl
  try simp only [Act.put, List.setIfInBounds_toArray, List.set_cons_zero, List.set_cons_succ]
  refine wpAnyH_take (i := 7) (oi := ⟨some 33, Op.fieldAddr 54 (Operand.tmp 3) 5, 0, _, _, none⟩) (v := ?v7n26k6) rfl (by kernel_rfl) (by kernel_rfl) (by kernel_rfl) (fun _ _ _ h => h) (Or.inl ⟨by rfl, ?y7n26k6⟩) hHeld ?z7n26k6
  case y7n26k6 => intro w hSw; (try dsimp only at hSw); go_simp <;> rfl
  try simp only [Act.put, List.setIfInBounds_toArray, List.set_cons_zero, List.set_cons_succ]
  refine wpAnyH_take (i := 8) (oi := ⟨some 34, Op.load 9 (Operand.tmp 33), 9, _, _, none⟩) (v := ?v8n26k7) rfl (by kernel_rfl) (by kernel_rfl) (by kernel_rfl) (fun _ _ _ h => h) (Or.inl ⟨by rfl, ?y8n26k7⟩) hHeld ?z8n26k7
  case y8n26k7 => intro w hSw; (try dsimp only at hSw); go_simp <;> rfl
  try simp only [Act.put, List.setIfInBounds_toArray, List.set_cons_zero, List.set_cons_succ]
  refine wpAnyH_ready (rs := [3]) (by kernel_rfl) (by simp) ?_
  refine AllReadyH.cons (o := ⟨some 29, Op.call { callee := Callee.value (Operand.func 70), args := #[Operand.tmp 26, Operand.tmp 28], argTypes := #[88, 9] }, 88, _, _, none⟩) rfl (fun K hK => ?_) AllReadyH.nil
  go_simp
  refine (pen_text p8 _ (by simp [be8_length]; omega)).mono ?_
  rintro e w9 ⟨rfl, p9⟩
  dsimp only
  refine hK.out _ _ (ED.out _ p9.1) (fun hHeld => ?_)
  clear hK K
  try simp only [Act.put, List.setIfInBounds_toArray, List.set_cons_zero, List.set_cons_succ]
  refine wpAnyH_ready (rs := [6]) (by kernel_rfl) (by simp) ?_
  refine AllReadyH.cons (o := ⟨some 32, Op.call { callee := Callee.value (Operand.func 70), args := #[Operand.tmp 29, Operand.tmp 31], argTypes := #[88, 9] }, 88, _, _, none⟩) rfl (fun K hK => ?_) AllReadyH.nil
  go_simp
  refine (pen_text p9 _ (by simp [be8_length, tx_length]; omega)).mono ?_
  rintro e w10 ⟨rfl, p10⟩
  dsimp only
  refine hK.out _ _ (ED.out _ p10.1) (fun hHeld => ?_)
  clear hK K
  try simp only [Act.put, List.setIfInBounds_toArray, List.set_cons_zero, List.set_cons_succ]
  refine wpAnyH_ready (rs := [9]) (by kernel_rfl) (by simp) ?_
  refine AllReadyH.cons (o := ⟨some 35, Op.call { callee := Callee.value (Operand.func 70), args := #[Operand.tmp 32, Operand.tmp 34], argTypes := #[88, 9] }, 88, _, _, none⟩) rfl (fun K hK => ?_) AllReadyH.nil
  go_simp
  refine (pen_text p10 _ (by simp [be8_length, tx_length]; omega)).mono ?_
  rintro e w11 ⟨rfl, p11⟩
  dsimp only
  refine hK.out _ _ (ED.out _ p11.1) (fun hHeld => ?_)
  clear hK K
  try simp only [Act.put, List.setIfInBounds_toArray, List.set_cons_zero, List.set_cons_succ]
  refine wpAnyH_done (by kernel_rfl) ?_ _
  refine NoPanic.normal ?_
  clear hHeld p8 p9 p10
  have he : [] ++ be8 index ++ be8 term ++ [low op] ++ be8 client ++ be8 seq ++ tx key ++ tx value ++ tx old = EntryV.bytes ⟨index, term, op, client, seq, key, value, old⟩ := by unfold EntryV.bytes; simp
  rw [he] at p11
  clear he hl
  go_wp2_with fail
  refine (pen_bytes p11 n HN.out hx).mono ?_
  rintro e w12 ⟨A, c, rfl, ho, k12⟩
  have R := Lib.hid ho
  clear ho
  go_wp2
  go_ret
  refine ⟨A, c, rfl, own_base R.out (fun i hi => ?_), K0.out.trans k12 (fun i hi h => by omega)⟩
  have := (R.out.lt i hi).1
  have := K0.out.size
  omega

end Go.Proofs.YthmjjhjblokjeaaGreat

/-
  The contract of cmds.Read. No statement is proved here.
-/
namespace Go.Proofs.YthmjjhjblokjeaaGreat
open Go.RowKit

/-- While an entry is read: a Reader at b, what is read so far at B, the answer's place at R. -/
structure Reads (w0 w : World) (F : Nat → Prop) (R b B : Nat) (l : List UInt8) (bad : Bool) (e : EntryV) : Prop where
  kept : Kept noBlock w0 w
  rd : Rd w F b l bad
  out : w.heap[R]? = some (.cells noEntry.cells.toArray 56 (0, 0))
  at_ : w.heap[B]? = some (.cells e.cells.toArray 56 (0, 0))
  nR : ¬ F R
  nB : ¬ F B
  ne : R ≠ B
  lb : w0.heap.size ≤ b
  lB : w0.heap.size ≤ B

section
variable {w0 w w' : World} {F : Nat → Prop} {R b B : Nat} {l l' : List UInt8} {bad bad' : Bool} {e : EntryV}
theorem Reads.next (h : Reads w0 w F R b B l bad e) (h2 : Rd w' F b l' bad') (k2 : Kept (fun k => k = b) w w') : Reads w0 w' F R b B l' bad' e :=
  ⟨h.kept.trans k2 (fun i hi hb => by have := h.lb; omega), h2, k2.blk h.out (fun hr => h.nR (hr ▸ h2.foot)), k2.blk h.at_ (fun hr => h.nB (hr ▸ h2.foot)), h.nR, h.nB, h.ne, h.lb, h.lB⟩
theorem Reads.set (h : Reads w0 w F R b B l bad e) (j : Nat) (v : Value) (e' : EntryV) (he : e.cells.toArray.setIfInBounds j v = e'.cells.toArray) : Reads w0 (w.setCell ⟨B, j, none⟩ v) F R b B l bad e' := by
  have k : Kept (fun k => k = B) w (w.setCell ⟨B, j, none⟩ v) := Kept.setCell w (by rfl) v
  refine ⟨h.kept.trans k (fun i hi hb => by have := h.lB; omega), h.rd.keep k (fun i hi hb => h.nB (hb ▸ hi)), k.blk h.out h.ne, ?_, h.nR, h.nB, h.ne, h.lb, h.lB⟩
  rw [← he]
  exact heap_setCell_same w B j _ 56 v h.at_
theorem Reads.frozen (h : Reads w0 w F R b B l bad e) (j : Nat) : w.frozen? ⟨B, j, none⟩ = false := frozen_of_row _ _ _ _ _ h.at_
theorem Reads.cells (h : Reads w0 w F R b B l bad e) : w.heap[B]? = some (.cells #[.int .i64 e.index, .int .i64 e.term, .int .i64 e.cmd.op, .int .i64 e.cmd.client, .int .i64 e.cmd.seq, .string e.cmd.key, .string e.cmd.value, .string e.cmd.old] 56 (0, 0)) := h.at_
end

theorem rnum_q {w : World} {F : Nat → Prop} {b : Nat} {l l' : List UInt8} {bad bad' : Bool} {n : Int} (h : Rd w F b l bad) (hq : rNum l bad = (n, l', bad')) :
    Calls Tryz.prog 53 #[.pointer (some ⟨b, 0, none⟩)] w (Read w F b (.int .i64 n) (l', bad')) := by
  have := rnum_any b F l bad w h
  rw [hq] at this
  exact this
theorem rbyte_q {w : World} {F : Nat → Prop} {b : Nat} {l l' : List UInt8} {bad bad' : Bool} {n : UInt8} (h : Rd w F b l bad) (hq : rByte l bad = (n, l', bad')) :
    Calls Tryz.prog 63 #[.pointer (some ⟨b, 0, none⟩)] w (Read w F b (.int .u8 (n.toNat : Int)) (l', bad')) := by
  have := rbyte_any b F l bad w h
  rw [hq] at this
  exact this
theorem rtext_q {w : World} {F : Nat → Prop} {b : Nat} {l l' n : List UInt8} {bad bad' : Bool} (h : Rd w F b l bad) (hq : rText l bad = (n, l', bad')) :
    Calls Tryz.prog 64 #[.pointer (some ⟨b, 0, none⟩)] w (Read w F b (.string (str n)) (l', bad')) := by
  have := rtext_any b F l bad w h
  rw [hq] at this
  exact this

/-- What is read, and whether. -/
def gotE (l : List UInt8) : EntryV := (entryOf l).getD noEntry
def gotB (l : List UInt8) : Bool := (entryOf l).isSome

theorem u8_i64 (n : UInt8) : wrap64 (n.toNat : Int) = (n.toNat : Int) := by
  have := n.toNat_lt
  unfold wrap64
  omega

/-- An entry that is stored at a block. -/
def setE (w : World) (R : Nat) (e : EntryV) : World := ((((((((w.setCell ⟨R, 0, none⟩ (.int .i64 e.index)).setCell ⟨R, 1, none⟩ (.int .i64 e.term)).setCell ⟨R, 2, none⟩ (.int .i64 e.cmd.op)).setCell ⟨R, 3, none⟩ (.int .i64 e.cmd.client)).setCell ⟨R, 4, none⟩ (.int .i64 e.cmd.seq)).setCell ⟨R, 5, none⟩ (.string e.cmd.key)).setCell ⟨R, 6, none⟩ (.string e.cmd.value)).setCell ⟨R, 7, none⟩ (.string e.cmd.old))
theorem setE_block {w : World} {R : Nat} {x e : EntryV} {t : TypeId} (h : w.heap[R]? = some (.cells x.cells.toArray t (0, 0))) : (setE w R e).heap[R]? = some (.cells e.cells.toArray t (0, 0)) := by
  unfold setE
  unfold EntryV.cells at h
  have h0 := heap_setCell_same w R 0 _ t (.int .i64 e.index) h
  have h1 := heap_setCell_same _ R 1 _ t (.int .i64 e.term) h0
  have h2 := heap_setCell_same _ R 2 _ t (.int .i64 e.cmd.op) h1
  have h3 := heap_setCell_same _ R 3 _ t (.int .i64 e.cmd.client) h2
  have h4 := heap_setCell_same _ R 4 _ t (.int .i64 e.cmd.seq) h3
  have h5 := heap_setCell_same _ R 5 _ t (.string e.cmd.key) h4
  have h6 := heap_setCell_same _ R 6 _ t (.string e.cmd.value) h5
  have h7 := heap_setCell_same _ R 7 _ t (.string e.cmd.old) h6
  rw [h7]
  simp [EntryV.cells]
theorem setE_kept (w : World) (R : Nat) (e : EntryV) : Kept (fun k => k = R) w (setE w R e) := by
  unfold setE
  exact (((((((Kept.setCell w (by rfl) _).step (Kept.setCell _ (by rfl) _)).step (Kept.setCell _ (by rfl) _)).step (Kept.setCell _ (by rfl) _)).step (Kept.setCell _ (by rfl) _)).step (Kept.setCell _ (by rfl) _)).step (Kept.setCell _ (by rfl) _)).step (Kept.setCell _ (by rfl) _)

set_option maxHeartbeats 2000000 in
theorem read_any (F : Nat → Prop) (a : Option Addr) (n c : Nat) (l : List UInt8) (w : World) (h : Lies w F a (l.map bv)) (hl : l.length = n) (hx : n ≤ 140737488355328) :
    Calls Tryz.prog 33 #[.slice a n c] w fun e w' => e = .returned (.tuple #[(gotE l).val, .bool (gotB l)]) ∧ Kept noBlock w w' := by
  obtain ⟨⟨n1, l1, b1⟩, hq1⟩ : ∃ q, rNum l false = q := ⟨_, rfl⟩
  obtain ⟨⟨n2, l2, b2⟩, hq2⟩ : ∃ q, rNum l1 b1 = q := ⟨_, rfl⟩
  obtain ⟨⟨n3, l3, b3⟩, hq3⟩ : ∃ q, rByte l2 b2 = q := ⟨_, rfl⟩
  obtain ⟨⟨n4, l4, b4⟩, hq4⟩ : ∃ q, rNum l3 b3 = q := ⟨_, rfl⟩
  obtain ⟨⟨n5, l5, b5⟩, hq5⟩ : ∃ q, rNum l4 b4 = q := ⟨_, rfl⟩
  obtain ⟨⟨n6, l6, b6⟩, hq6⟩ : ∃ q, rText l5 b5 = q := ⟨_, rfl⟩
  obtain ⟨⟨n7, l7, b7⟩, hq7⟩ : ∃ q, rText l6 b6 = q := ⟨_, rfl⟩
  obtain ⟨⟨n8, l8, b8⟩, hq8⟩ : ∃ q, rText l7 b7 = q := ⟨_, rfl⟩
  have hall : readAll l = (⟨n1, n2, ⟨(n3.toNat : Int), n4, n5, str n6, str n7, str n8⟩⟩, l8, b8) := by
    unfold readAll
    simp only [hq1, hq2, hq3, hq4, hq5, hq6, hq7, hq8]
    rfl
  have HALL := Lib.hid hall
  have H1 := Lib.hid hq1
  have H2 := Lib.hid hq2
  have H3 := Lib.hid hq3
  have H4 := Lib.hid hq4
  have H5 := Lib.hid hq5
  have H6 := Lib.hid hq6
  have H7 := Lib.hid hq7
  have H8 := Lib.hid hq8
  clear hall hq1 hq2 hq3 hq4 hq5 hq6 hq7 hq8
  go_enter Tryz.func33, Tryz.ntmps33
  go_wp2_with fail
  refine (of_any F a n c l _ (h.keep (Kept.alloc noBlock w _) (fun _ _ h => h)) hl hx).mono ?_
  rintro e w1 ⟨b, rfl, h1, k1⟩
  have hb1 := h1.foot.1
  have hb2 := h1.foot.2
  have hsz := k1.size
  simp at hsz hb1
  have g0 : Reads w (w1.alloc (.cells noEntry.cells.toArray 56)) (fresh (w.alloc (.cells noEntry.cells.toArray 56)) w1) w.heap.size b w1.heap.size l false noEntry :=
    ⟨((Kept.alloc _ _ _).step k1).step (Kept.alloc _ _ _), h1.keep (Kept.alloc noBlock _ _) (fun _ _ h => h), ((k1.step (Kept.alloc noBlock _ _)).blk (heap_alloc_new w _) (fun h => h)), heap_alloc_new _ _,
      fun h => by have := h.1; simp at this; omega, fun h => by have := h.2; omega, by omega, by omega, by omega⟩
  obtain ⟨B, hB⟩ : ∃ B, B = w1.heap.size := ⟨_, rfl⟩
  obtain ⟨G, hG⟩ : ∃ G, G = fresh (w.alloc (.cells noEntry.cells.toArray 56)) w1 := ⟨_, rfl⟩
  rw [← hB, ← hG] at g0
  clear h1 k1 hb1 hb2 hsz hG h
  go_wp2_with fail
  rw [← hB]
  clear hB
  refine (rnum_q g0.rd H1.out).mono ?_
  rintro e v1 ⟨rfl, r1, k1⟩
  have f1 := g0.next r1 k1
  have hf := f1.frozen 0
  have hc := cell_of_row _ _ 0 _ _ _ f1.cells
  have g1 := f1.set 0 (.int .i64 n1) ⟨n1, 0, ⟨0, 0, 0, ⟨#[]⟩, ⟨#[]⟩, ⟨#[]⟩⟩⟩ rfl
  clear g0 f1 r1 k1
  go_wp2_with fail
  refine (rnum_q g1.rd H2.out).mono ?_
  rintro e v2 ⟨rfl, r2, k2⟩
  have f2 := g1.next r2 k2
  clear hf hc
  have hf := f2.frozen 1
  have hc := cell_of_row _ _ 1 _ _ _ f2.cells
  have g2 := f2.set 1 (.int .i64 n2) ⟨n1, n2, ⟨0, 0, 0, ⟨#[]⟩, ⟨#[]⟩, ⟨#[]⟩⟩⟩ rfl
  clear g1 f2 r2 k2
  go_wp2_with fail
  refine (rbyte_q g2.rd H3.out).mono ?_
  rintro e v3 ⟨rfl, r3, k3⟩
  have hw3 := u8_i64 n3
  have f3 := g2.next r3 k3
  clear hf hc
  have hf := f3.frozen 2
  have hc := cell_of_row _ _ 2 _ _ _ f3.cells
  have g3 := f3.set 2 (.int .i64 (n3.toNat : Int)) ⟨n1, n2, ⟨(n3.toNat : Int), 0, 0, ⟨#[]⟩, ⟨#[]⟩, ⟨#[]⟩⟩⟩ rfl
  clear g2 f3 r3 k3
  go_wp2_with fail
  refine (rnum_q g3.rd H4.out).mono ?_
  rintro e v4 ⟨rfl, r4, k4⟩
  have f4 := g3.next r4 k4
  clear hf hc
  have hf := f4.frozen 3
  have hc := cell_of_row _ _ 3 _ _ _ f4.cells
  have g4 := f4.set 3 (.int .i64 n4) ⟨n1, n2, ⟨(n3.toNat : Int), n4, 0, ⟨#[]⟩, ⟨#[]⟩, ⟨#[]⟩⟩⟩ rfl
  clear g3 f4 r4 k4
  go_wp2_with fail
  refine (rnum_q g4.rd H5.out).mono ?_
  rintro e v5 ⟨rfl, r5, k5⟩
  have f5 := g4.next r5 k5
  clear hf hc
  have hf := f5.frozen 4
  have hc := cell_of_row _ _ 4 _ _ _ f5.cells
  have g5 := f5.set 4 (.int .i64 n5) ⟨n1, n2, ⟨(n3.toNat : Int), n4, n5, ⟨#[]⟩, ⟨#[]⟩, ⟨#[]⟩⟩⟩ rfl
  clear g4 f5 r5 k5
  go_wp2_with fail
  refine (rtext_q g5.rd H6.out).mono ?_
  rintro e v6 ⟨rfl, r6, k6⟩
  have f6 := g5.next r6 k6
  clear hf hc
  have hf := f6.frozen 5
  have hc := cell_of_row _ _ 5 _ _ _ f6.cells
  have g6 := f6.set 5 (.string (str n6)) ⟨n1, n2, ⟨(n3.toNat : Int), n4, n5, str n6, ⟨#[]⟩, ⟨#[]⟩⟩⟩ rfl
  clear g5 f6 r6 k6
  go_wp2_with fail
  refine (rtext_q g6.rd H7.out).mono ?_
  rintro e v7 ⟨rfl, r7, k7⟩
  have f7 := g6.next r7 k7
  clear hf hc
  have hf := f7.frozen 6
  have hc := cell_of_row _ _ 6 _ _ _ f7.cells
  have g7 := f7.set 6 (.string (str n7)) ⟨n1, n2, ⟨(n3.toNat : Int), n4, n5, str n6, str n7, ⟨#[]⟩⟩⟩ rfl
  clear g6 f7 r7 k7
  go_wp2_with fail
  refine (rtext_q g7.rd H8.out).mono ?_
  rintro e v8 ⟨rfl, r8, k8⟩
  have f8 := g7.next r8 k8
  clear hf hc
  have hf := f8.frozen 7
  have hc := cell_of_row _ _ 7 _ _ _ f8.cells
  have g8 := f8.set 7 (.string (str n8)) ⟨n1, n2, ⟨(n3.toNat : Int), n4, n5, str n6, str n7, str n8⟩⟩ rfl
  clear g7 f8 r8 k8
  have hd := rdone_any b _ _ _ _ g8.rd
  go_wp2_with fail
  refine hd.mono ?_
  rintro e v9 ⟨rfl, hv9⟩
  rw [hv9] at g8
  clear hv9 hd hf hc
  obtain ⟨x, hx⟩ : ∃ x : EntryV, x = ⟨n1, n2, ⟨(n3.toNat : Int), n4, n5, str n6, str n7, str n8⟩⟩ := ⟨_, rfl⟩
  rw [← hx] at g8
  have hbl := g8.cells
  have d0 : v9.cell? ⟨B, 0, none⟩ = some (.int .i64 x.index) := cell_of_row _ _ _ _ _ _ hbl
  have d1 : v9.cell? ⟨B, 1, none⟩ = some (.int .i64 x.term) := cell_of_row _ _ _ _ _ _ hbl
  have d2 : v9.cell? ⟨B, 2, none⟩ = some (.int .i64 x.cmd.op) := cell_of_row _ _ _ _ _ _ hbl
  have d3 : v9.cell? ⟨B, 3, none⟩ = some (.int .i64 x.cmd.client) := cell_of_row _ _ _ _ _ _ hbl
  have d4 : v9.cell? ⟨B, 4, none⟩ = some (.int .i64 x.cmd.seq) := cell_of_row _ _ _ _ _ _ hbl
  have d5 : v9.cell? ⟨B, 5, none⟩ = some (.string x.cmd.key) := cell_of_row _ _ _ _ _ _ hbl
  have d6 : v9.cell? ⟨B, 6, none⟩ = some (.string x.cmd.value) := cell_of_row _ _ _ _ _ _ hbl
  have d7 : v9.cell? ⟨B, 7, none⟩ = some (.string x.cmd.old) := cell_of_row _ _ _ _ _ _ hbl
  have HALL2 : Hid (readAll l = (x, l8, b8)) := by unfold Hid; rw [HALL.out, hx]
  clear HALL hx hbl H1 H2 H3 H4 H5 H6 H7 H8 hw3
  have hbo := g8.out
  have K9 := Lib.hid g8.kept
  have HBO := Lib.hid hbo
  have NE : Hid (w.heap.size ≠ B) := g8.ne
  obtain ⟨r, hr⟩ : ∃ r, (!b8 && l8.isEmpty) = r := ⟨_, rfl⟩
  rw [hr]
  have HR := Lib.hid hr
  clear hr g8
  cases r
  · have e0 : entryOf l = none := by
      unfold entryOf
      rw [HALL2.out, if_neg]
      rintro ⟨h1, h2, _⟩
      have := HR.out
      simp only at h1 h2
      rw [h1, h2] at this
      simp at this
    have ge : gotE l = noEntry := by unfold gotE; rw [e0]; rfl
    have gb : gotB l = false := by unfold gotB; rw [e0]; rfl
    have GE := Lib.hid ge
    have GB := Lib.hid gb
    clear ge gb e0 d0 d1 d2 d3 d4 d5 d6 d7
    have hfz : ∀ j, v9.frozen? ⟨w.heap.size, j, none⟩ = false := fun j => frozen_of_row _ _ _ _ _ HBO.out
    have f0 := hfz 0
    have f1 := hfz 1
    have f2 := hfz 2
    have f3 := hfz 3
    have f4 := hfz 4
    have f5 := hfz 5
    have f6 := hfz 6
    have f7 := hfz 7
    clear hfz
    have d0 : v9.cell? ⟨w.heap.size, 0, none⟩ = some (.int .i64 0) := cell_of_row _ _ _ _ _ _ HBO.out
    have d1 : v9.cell? ⟨w.heap.size, 1, none⟩ = some (.int .i64 0) := cell_of_row _ _ _ _ _ _ HBO.out
    have d2 : v9.cell? ⟨w.heap.size, 2, none⟩ = some (.int .i64 0) := cell_of_row _ _ _ _ _ _ HBO.out
    have d3 : v9.cell? ⟨w.heap.size, 3, none⟩ = some (.int .i64 0) := cell_of_row _ _ _ _ _ _ HBO.out
    have d4 : v9.cell? ⟨w.heap.size, 4, none⟩ = some (.int .i64 0) := cell_of_row _ _ _ _ _ _ HBO.out
    have d5 : v9.cell? ⟨w.heap.size, 5, none⟩ = some (.string ⟨#[]⟩) := cell_of_row _ _ _ _ _ _ HBO.out
    have d6 : v9.cell? ⟨w.heap.size, 6, none⟩ = some (.string ⟨#[]⟩) := cell_of_row _ _ _ _ _ _ HBO.out
    have d7 : v9.cell? ⟨w.heap.size, 7, none⟩ = some (.string ⟨#[]⟩) := cell_of_row _ _ _ _ _ _ HBO.out
    clear hbo
    go_wp2
    change bodyPost _ _ _ _ _ (setE v9 w.heap.size noEntry)
    have hb10 := setE_block (e := noEntry) HBO.out
    have K10 := Lib.hid (K9.out.trans (setE_kept v9 w.heap.size noEntry) (fun i hi h => by omega))
    clear d0 d1 d2 d3 d4 d5 d6 d7 f0 f1 f2 f3 f4 f5 f6 f7
    generalize setE v9 w.heap.size noEntry = v10 at hb10 K10 ⊢
    have d0 : v10.cell? ⟨w.heap.size, 0, none⟩ = some (.int .i64 0) := cell_of_row _ _ _ _ _ _ hb10
    have d1 : v10.cell? ⟨w.heap.size, 1, none⟩ = some (.int .i64 0) := cell_of_row _ _ _ _ _ _ hb10
    have d2 : v10.cell? ⟨w.heap.size, 2, none⟩ = some (.int .i64 0) := cell_of_row _ _ _ _ _ _ hb10
    have d3 : v10.cell? ⟨w.heap.size, 3, none⟩ = some (.int .i64 0) := cell_of_row _ _ _ _ _ _ hb10
    have d4 : v10.cell? ⟨w.heap.size, 4, none⟩ = some (.int .i64 0) := cell_of_row _ _ _ _ _ _ hb10
    have d5 : v10.cell? ⟨w.heap.size, 5, none⟩ = some (.string ⟨#[]⟩) := cell_of_row _ _ _ _ _ _ hb10
    have d6 : v10.cell? ⟨w.heap.size, 6, none⟩ = some (.string ⟨#[]⟩) := cell_of_row _ _ _ _ _ _ hb10
    have d7 : v10.cell? ⟨w.heap.size, 7, none⟩ = some (.string ⟨#[]⟩) := cell_of_row _ _ _ _ _ _ hb10
    refine bodyPost_ret (v := .tuple #[noEntry.val, .bool false]) (by simp [results, Tryz.results33, go_sem, EntryV.val, noEntry, noCmd, Tryz.isAgg56, Tryz.sizeOf56, d0, d1, d2, d3, d4, d5, d6, d7]) rfl ?_
    rw [GE.out, GB.out]
    exact ⟨rfl, K10.out⟩
  · obtain ⟨rfl, rfl⟩ : b8 = false ∧ l8 = [] := by
      have := HR.out
      cases b8 <;> cases l8 <;> simp_all
    by_cases hR : x.Right
    · have hr := right_any x v9
      rw [decide_eq_true hR] at hr
      have e0 : entryOf l = some x := by
        unfold entryOf
        rw [HALL2.out, if_pos ⟨rfl, rfl, hR⟩]
      have ge : gotE l = x := by unfold gotE; rw [e0]; rfl
      have gb : gotB l = true := by unfold gotB; rw [e0]; rfl
      have GE := Lib.hid ge
      have GB := Lib.hid gb
      clear ge gb e0
      unfold EntryV.val at hr
      go_wp2_with fail
      refine hr.mono ?_
      rintro e u ⟨rfl, ku⟩
      have c0 := ku.cell d0 (fun h => h)
      have c1 := ku.cell d1 (fun h => h)
      have c2 := ku.cell d2 (fun h => h)
      have c3 := ku.cell d3 (fun h => h)
      have c4 := ku.cell d4 (fun h => h)
      have c5 := ku.cell d5 (fun h => h)
      have c6 := ku.cell d6 (fun h => h)
      have c7 := ku.cell d7 (fun h => h)
      clear d0 d1 d2 d3 d4 d5 d6 d7
      have hbu := ku.blk HBO.out (fun h => h)
      have HBU := Lib.hid hbu
      have hfz : ∀ j, u.frozen? ⟨w.heap.size, j, none⟩ = false := fun j => frozen_of_row _ _ _ _ _ hbu
      have f0 := hfz 0
      have f1 := hfz 1
      have f2 := hfz 2
      have f3 := hfz 3
      have f4 := hfz 4
      have f5 := hfz 5
      have f6 := hfz 6
      have f7 := hfz 7
      have r0 : u.cell? ⟨w.heap.size, 0, none⟩ = some (.int .i64 0) := cell_of_row _ _ _ _ _ _ hbu
      have r1 : u.cell? ⟨w.heap.size, 1, none⟩ = some (.int .i64 0) := cell_of_row _ _ _ _ _ _ hbu
      have r2 : u.cell? ⟨w.heap.size, 2, none⟩ = some (.int .i64 0) := cell_of_row _ _ _ _ _ _ hbu
      have r3 : u.cell? ⟨w.heap.size, 3, none⟩ = some (.int .i64 0) := cell_of_row _ _ _ _ _ _ hbu
      have r4 : u.cell? ⟨w.heap.size, 4, none⟩ = some (.int .i64 0) := cell_of_row _ _ _ _ _ _ hbu
      have r5 : u.cell? ⟨w.heap.size, 5, none⟩ = some (.string ⟨#[]⟩) := cell_of_row _ _ _ _ _ _ hbu
      have r6 : u.cell? ⟨w.heap.size, 6, none⟩ = some (.string ⟨#[]⟩) := cell_of_row _ _ _ _ _ _ hbu
      have r7 : u.cell? ⟨w.heap.size, 7, none⟩ = some (.string ⟨#[]⟩) := cell_of_row _ _ _ _ _ _ hbu
      clear hfz hbu hbo hr
      have KU := Lib.hid (K9.out.step ku)
      clear ku
      go_wp2
      change bodyPost _ _ _ _ _ (setE u w.heap.size x)
      have hb10 := setE_block (x := noEntry) (e := x) HBU.out
      have K10 := Lib.hid (KU.out.trans (setE_kept u w.heap.size x) (fun i hi h => by omega))
      clear c0 c1 c2 c3 c4 c5 c6 c7 r0 r1 r2 r3 r4 r5 r6 r7 f0 f1 f2 f3 f4 f5 f6 f7
      generalize setE u w.heap.size x = v10 at hb10 K10 ⊢
      have d0 : v10.cell? ⟨w.heap.size, 0, none⟩ = some (.int .i64 x.index) := cell_of_row _ _ _ _ _ _ hb10
      have d1 : v10.cell? ⟨w.heap.size, 1, none⟩ = some (.int .i64 x.term) := cell_of_row _ _ _ _ _ _ hb10
      have d2 : v10.cell? ⟨w.heap.size, 2, none⟩ = some (.int .i64 x.cmd.op) := cell_of_row _ _ _ _ _ _ hb10
      have d3 : v10.cell? ⟨w.heap.size, 3, none⟩ = some (.int .i64 x.cmd.client) := cell_of_row _ _ _ _ _ _ hb10
      have d4 : v10.cell? ⟨w.heap.size, 4, none⟩ = some (.int .i64 x.cmd.seq) := cell_of_row _ _ _ _ _ _ hb10
      have d5 : v10.cell? ⟨w.heap.size, 5, none⟩ = some (.string x.cmd.key) := cell_of_row _ _ _ _ _ _ hb10
      have d6 : v10.cell? ⟨w.heap.size, 6, none⟩ = some (.string x.cmd.value) := cell_of_row _ _ _ _ _ _ hb10
      have d7 : v10.cell? ⟨w.heap.size, 7, none⟩ = some (.string x.cmd.old) := cell_of_row _ _ _ _ _ _ hb10
      refine bodyPost_ret (v := .tuple #[x.val, .bool true]) (by simp [results, Tryz.results33, go_sem, EntryV.val, Tryz.isAgg56, Tryz.sizeOf56, d0, d1, d2, d3, d4, d5, d6, d7]) rfl ?_
      rw [GE.out, GB.out]
      exact ⟨rfl, K10.out⟩
    · have hr := right_any x v9
      rw [decide_eq_false hR] at hr
      have e0 : entryOf l = none := by
        unfold entryOf
        rw [HALL2.out, if_neg]
        rintro ⟨_, _, h3⟩
        exact hR h3
      have ge : gotE l = noEntry := by unfold gotE; rw [e0]; rfl
      have gb : gotB l = false := by unfold gotB; rw [e0]; rfl
      have GE := Lib.hid ge
      have GB := Lib.hid gb
      clear ge gb e0
      unfold EntryV.val at hr
      go_wp2_with fail
      refine hr.mono ?_
      rintro e u ⟨rfl, ku⟩
      clear d0 d1 d2 d3 d4 d5 d6 d7
      have hbu := ku.blk HBO.out (fun h => h)
      have HBU := Lib.hid hbu
      have hfz : ∀ j, u.frozen? ⟨w.heap.size, j, none⟩ = false := fun j => frozen_of_row _ _ _ _ _ hbu
      have f0 := hfz 0
      have f1 := hfz 1
      have f2 := hfz 2
      have f3 := hfz 3
      have f4 := hfz 4
      have f5 := hfz 5
      have f6 := hfz 6
      have f7 := hfz 7
      have r0 : u.cell? ⟨w.heap.size, 0, none⟩ = some (.int .i64 0) := cell_of_row _ _ _ _ _ _ hbu
      have r1 : u.cell? ⟨w.heap.size, 1, none⟩ = some (.int .i64 0) := cell_of_row _ _ _ _ _ _ hbu
      have r2 : u.cell? ⟨w.heap.size, 2, none⟩ = some (.int .i64 0) := cell_of_row _ _ _ _ _ _ hbu
      have r3 : u.cell? ⟨w.heap.size, 3, none⟩ = some (.int .i64 0) := cell_of_row _ _ _ _ _ _ hbu
      have r4 : u.cell? ⟨w.heap.size, 4, none⟩ = some (.int .i64 0) := cell_of_row _ _ _ _ _ _ hbu
      have r5 : u.cell? ⟨w.heap.size, 5, none⟩ = some (.string ⟨#[]⟩) := cell_of_row _ _ _ _ _ _ hbu
      have r6 : u.cell? ⟨w.heap.size, 6, none⟩ = some (.string ⟨#[]⟩) := cell_of_row _ _ _ _ _ _ hbu
      have r7 : u.cell? ⟨w.heap.size, 7, none⟩ = some (.string ⟨#[]⟩) := cell_of_row _ _ _ _ _ _ hbu
      clear hfz hbu hbo hr
      have KU := Lib.hid (K9.out.step ku)
      clear ku
      go_wp2
      change bodyPost _ _ _ _ _ (setE u w.heap.size noEntry)
      have hb10 := setE_block (x := noEntry) (e := noEntry) HBU.out
      have K10 := Lib.hid (KU.out.trans (setE_kept u w.heap.size noEntry) (fun i hi h => by omega))
      clear r0 r1 r2 r3 r4 r5 r6 r7 f0 f1 f2 f3 f4 f5 f6 f7
      generalize setE u w.heap.size noEntry = v10 at hb10 K10 ⊢
      have d0 : v10.cell? ⟨w.heap.size, 0, none⟩ = some (.int .i64 0) := cell_of_row _ _ _ _ _ _ hb10
      have d1 : v10.cell? ⟨w.heap.size, 1, none⟩ = some (.int .i64 0) := cell_of_row _ _ _ _ _ _ hb10
      have d2 : v10.cell? ⟨w.heap.size, 2, none⟩ = some (.int .i64 0) := cell_of_row _ _ _ _ _ _ hb10
      have d3 : v10.cell? ⟨w.heap.size, 3, none⟩ = some (.int .i64 0) := cell_of_row _ _ _ _ _ _ hb10
      have d4 : v10.cell? ⟨w.heap.size, 4, none⟩ = some (.int .i64 0) := cell_of_row _ _ _ _ _ _ hb10
      have d5 : v10.cell? ⟨w.heap.size, 5, none⟩ = some (.string ⟨#[]⟩) := cell_of_row _ _ _ _ _ _ hb10
      have d6 : v10.cell? ⟨w.heap.size, 6, none⟩ = some (.string ⟨#[]⟩) := cell_of_row _ _ _ _ _ _ hb10
      have d7 : v10.cell? ⟨w.heap.size, 7, none⟩ = some (.string ⟨#[]⟩) := cell_of_row _ _ _ _ _ _ hb10
      refine bodyPost_ret (v := .tuple #[noEntry.val, .bool false]) (by simp [results, Tryz.results33, go_sem, EntryV.val, noEntry, noCmd, Tryz.isAgg56, Tryz.sizeOf56, d0, d1, d2, d3, d4, d5, d6, d7]) rfl ?_
      rw [GE.out, GB.out]
      exact ⟨rfl, K10.out⟩

end Go.Proofs.YthmjjhjblokjeaaGreat

/-
  The contract of cmds.Row. No statement is proved here.
-/
namespace Go.Proofs.YthmjjhjblokjeaaGreat
open Go.RowKit

set_option maxHeartbeats 1000000 in
theorem row_any (F : Nat → Prop) (a : Option Addr) (n c : Nat) (from_ : Int) (es : List EntryV) (w : World) (h : Lies w F a (entCells es)) (hl : es.length = n) (hf : 0 ≤ from_) (hfn : from_ + n ≤ 9223372036854775807) :
    Calls Tryz.prog 34 #[.slice a n c, .int .i64 from_] w (Says w (rowB es from_ 0)) := by
  subst hl
  go_enter Tryz.func34, Tryz.ntmps34
  go_wp2
  go_loopw [5, 10] (fun s i wr => ∃ (k : Nat) (t : Int), k ≤ es.length ∧ i = .int .i64 (k : Int) ∧ s = .int .i64 t ∧ Hid (rowB es from_ 0 = rowB (es.drop k) (from_ + k) t) ∧ Kept noBlock w wr) (fun _ i _ => es.length - (intOf i).toNat)
  case atStart => exact ⟨0, 0, by omega, rfl, rfl, by unfold Hid; simp, Kept.refl _ _⟩
  case round =>
    obtain ⟨k, t, hk, rfl, rfl, HR, hkept⟩ := hrel
    by_cases hlt : k < es.length
    · obtain ⟨x, hx⟩ : ∃ x, es[k]? = some x := ⟨_, List.getElem?_eq_getElem hlt⟩
      obtain ⟨b, o, rfl, _, e⟩ := ents_cell (h.keep hkept (fun _ _ h => h)) hx
      obtain ⟨c0, c1, c2, c3, c4, c5, c6, c7⟩ := e
      have hd : es.drop k = x :: es.drop (k + 1) := by
        obtain ⟨hk', e⟩ := List.getElem?_eq_some_iff.1 hx
        rw [List.drop_eq_getElem_cons hk', e]
      have hr := HR.out
      rw [hd] at hr
      rw [rowB_cons] at hr
      have HR2 := Lib.hid hr
      clear hr hd hx HR
      have hri := right_any x
      unfold EntryV.val at hri
      go_wp2_with fail
      refine (hri _).mono ?_
      rintro e w2 ⟨rfl, k2⟩
      have hb := k2.blk (heap_alloc_new wr _) (fun h => h)
      have d0 : w2.cell? ⟨wr.heap.size, 0, none⟩ = some (.int .i64 x.index) := cell_of_row _ _ _ _ _ _ hb
      have d1 : w2.cell? ⟨wr.heap.size, 1, none⟩ = some (.int .i64 x.term) := cell_of_row _ _ _ _ _ _ hb
      have K2 := Lib.hid (hkept.step ((Kept.alloc noBlock wr _).step k2))
      clear hb c0 c1 c2 c3 c4 c5 c6 c7 hri k2
      have no : ∀ w', Kept noBlock w w' → ¬ (x.Right ∧ x.index = from_ + k ∧ t ≤ x.term) → Says w (rowB es from_ 0) (.returned (.bool false)) w' := fun w' k h => ⟨by rw [HR2.out, decide_eq_false h]; rfl, k⟩
      have NO := Lib.hid no
      clear no
      by_cases hR : x.Right
      · rw [decide_eq_true hR]
        by_cases q1 : x.index = from_ + k
        · by_cases q2 : x.term < t
          · have q1' : (x.index == from_ + (k : Int)) = true := by simpa using q1
            go_wp2
            go_ret
            exact NO.out _ K2.out (fun h => by omega)
          · have q1' : (x.index == from_ + (k : Int)) = true := by simpa using q1
            go_wp2
            go_roundw
            case rel =>
              refine ⟨k + 1, x.term, by omega, by go_num, rfl, ?_, K2.out⟩
              unfold Hid
              rw [HR2.out, decide_eq_true ⟨hR, q1, by omega⟩]
              simp [Int.add_assoc]
            case measure => simp [intOf]; omega
        · have q1' : (x.index == from_ + (k : Int)) = false := by simpa using q1
          have Q1 := Lib.hid q1
          clear q1
          go_wp2
          go_ret
          exact NO.out _ K2.out (fun h => Q1.out h.2.1)
      · rw [decide_eq_false hR]
        go_wp2
        go_ret
        exact NO.out _ K2.out (fun h => hR h.1)
    · obtain rfl : k = es.length := by omega
      have hr := HR.out
      rw [List.drop_length] at hr
      rw [rowB_nil] at hr
      have HR2 := Lib.hid hr
      clear hr HR
      go_wp2
      go_ret
      exact ⟨by rw [HR2.out]; rfl, hkept⟩

end Go.Proofs.YthmjjhjblokjeaaGreat
