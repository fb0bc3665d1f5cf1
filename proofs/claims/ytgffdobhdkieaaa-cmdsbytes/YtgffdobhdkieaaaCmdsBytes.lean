/-
  The contract of cmds.Bytes. No statement is proved here.
-/
import Derived.Test.YtgffdobhdkieaaaPen
import Derived.Deep.DeepCutAuto
namespace Go.Proofs.Ytgffdobhdkieaaa
open Go.RowKit

theorem fits {xs ys : List UInt8} {n k : Nat} (h : xs.length = n) (hk : ys.length = k) : (xs ++ ys).length = n + k := by rw [List.length_append, h, hk]

/-- The cells of an entry at block B, and of its command at block C. -/
def Ecells (B C : Nat) (e : EntryV) (w : World) : Prop :=
  w.cell? ⟨B, 0, none⟩ = some (.int .i64 e.index) ∧ w.cell? ⟨B, 1, none⟩ = some (.int .i64 e.term) ∧ w.cell? ⟨C, 0, none⟩ = some (.int .i64 e.cmd.op) ∧ w.cell? ⟨C, 1, none⟩ = some (.int .i64 e.cmd.client) ∧ w.cell? ⟨C, 2, none⟩ = some (.int .i64 e.cmd.seq) ∧
  w.cell? ⟨C, 3, none⟩ = some (.string e.cmd.key) ∧ w.cell? ⟨C, 4, none⟩ = some (.string e.cmd.value) ∧ w.cell? ⟨C, 5, none⟩ = some (.string e.cmd.old)
theorem ecells {w w' : World} {B C b : Nat} {e : EntryV} {fr fr' : Nat × Nat} {t t' : TypeId} (h1 : w.heap[B]? = some (.cells e.cells.toArray t fr)) (h2 : w.heap[C]? = some (.cells e.cmd.cells.toArray t' fr')) (k : Kept (fun k => k = b) w w') (n1 : B ≠ b) (n2 : C ≠ b) : Ecells B C e w' := by
  have g1 := k.blk h1 n1
  have g2 := k.blk h2 n2
  unfold EntryV.cells at g1
  unfold CmdV.cells at g2
  exact ⟨cell_of_row _ _ _ _ _ _ g1, cell_of_row _ _ _ _ _ _ g1, cell_of_row _ _ _ _ _ _ g2, cell_of_row _ _ _ _ _ _ g2, cell_of_row _ _ _ _ _ _ g2, cell_of_row _ _ _ _ _ _ g2, cell_of_row _ _ _ _ _ _ g2, cell_of_row _ _ _ _ _ _ g2⟩

set_option maxHeartbeats 1000000 in
theorem bytes_any (e : EntryV) (n : Nat) (w : World) (hn : e.bytes.length = n) (hx : n ≤ 140737488355328) :
    Calls Try.prog 18 #[e.val] w fun en w' => ∃ A c, en = .returned (.slice A n c) ∧ w'.ownsRow w.heap.size 5 1 (.slice A n c) n (e.bytes.map bv) ∧ Kept noBlock w w' := by
  have hlen := hn
  rw [EntryV.bytes_length] at hlen
  obtain ⟨w1, hw1⟩ : ∃ w1, w1 = (w.alloc (.cells e.cells.toArray 32)).alloc (.cells e.cmd.cells.toArray 24) := ⟨_, rfl⟩
  have k1 : Kept noBlock w w1 := by rw [hw1]; exact (Kept.alloc _ _ _).step (Kept.alloc _ _ _)
  have hs1 : w1.heap.size = w.heap.size + 1 + 1 := by rw [hw1]; simp
  have b1 : w1.heap[w.heap.size]? = some (.cells e.cells.toArray 32 (0, 0)) := by rw [hw1]; exact (Kept.alloc noBlock _ _).blk (heap_alloc_new w _) (fun h => h)
  have b2 : w1.heap[w.heap.size + 1]? = some (.cells e.cmd.cells.toArray 24 (0, 0)) := by
    rw [hw1]
    have := heap_alloc_new (w.alloc (.cells e.cells.toArray 32)) (.cells e.cmd.cells.toArray 24)
    simpa using this
  have p0 : Pen (w1.alloc (.cells #[.slice none 0 0] 55)) (w1.alloc (.cells #[.slice none 0 0] 55)) (w.heap.size + 1 + 1) [] := by
    have := Pen.new w1
    rw [hs1] at this
    exact this
  have EC : Hid (∀ w', Kept (fun k => k = w.heap.size + 1 + 1) (w1.alloc (.cells #[.slice none 0 0] 55)) w' → Ecells w.heap.size (w.heap.size + 1) e w') := fun w' k =>
    ecells ((Kept.alloc noBlock _ _).blk b1 (fun h => h)) ((Kept.alloc noBlock _ _).blk b2 (fun h => h)) k (by omega) (by omega)
  have K0 := Lib.hid ((k1.step (Kept.alloc noBlock w1 (.cells #[.slice none 0 0] 55))))
  clear b1 b2 k1
  have HLEN := Lib.hid hlen
  have HN := Lib.hid hn
  have HS1 := Lib.hid hs1
  clear hlen hn hs1
  unfold EntryV.cells CmdV.cells at hw1
  obtain ⟨index, term, op, client, seq, key, value, old⟩ := e
  unfold EntryV.val
  simp only at hw1 ⊢
  have HU := Lib.hid (u8_low op)
  go_enter Try.func18, Try.ntmps18
  go_upto_region 3 with (fail)
  rw [← hw1]
  clear hw1
  have EA : Hid (∀ w', Kept (fun k => k = w.heap.size + 1 + 1) (w1.alloc (.cells #[.slice none 0 0] 55)) w' → w'.cell? ⟨w.heap.size, 0, none⟩ = some (.int .i64 index) ∧ w'.cell? ⟨w.heap.size, 1, none⟩ = some (.int .i64 term)) := fun w' k => ⟨(EC.out w' k).1, (EC.out w' k).2.1⟩
  have EB : Hid (∀ w', Kept (fun k => k = w.heap.size + 1 + 1) (w1.alloc (.cells #[.slice none 0 0] 55)) w' → w'.cell? ⟨w.heap.size + 1, 0, none⟩ = some (.int .i64 op) ∧ w'.cell? ⟨w.heap.size + 1, 1, none⟩ = some (.int .i64 client) ∧ w'.cell? ⟨w.heap.size + 1, 2, none⟩ = some (.int .i64 seq)) := fun w' k => ⟨(EC.out w' k).2.2.1, (EC.out w' k).2.2.2.1, (EC.out w' k).2.2.2.2.1⟩
  have ED : Hid (∀ w', Kept (fun k => k = w.heap.size + 1 + 1) (w1.alloc (.cells #[.slice none 0 0] 55)) w' → w'.cell? ⟨w.heap.size + 1, 3, none⟩ = some (.string key) ∧ w'.cell? ⟨w.heap.size + 1, 4, none⟩ = some (.string value) ∧ w'.cell? ⟨w.heap.size + 1, 5, none⟩ = some (.string old)) := fun w' k => (EC.out w' k).2.2.2.2.2
  clear EC
  have p1 := p0.drew
  clear p0
  refine wp_region_noPanic ?_
  refine wp_region_held_drew (S := fun w' => w'.cell? ⟨w.heap.size, 0, none⟩ = some (.int .i64 index) ∧ w'.cell? ⟨w.heap.size, 1, none⟩ = some (.int .i64 term)) (by kernel_rfl) (EA.out _ p1.1) (fun hHeld => ?_)
  refine wpAnyH_take (i := 0) (oi := ⟨some 8, Op.move (Operand.tmp 4), 53, _, _, none⟩) (v := ?v0n1k1) rfl (by kernel_rfl) (by kernel_rfl) (by kernel_rfl) (fun _ _ _ h => h) (Or.inl ⟨by rfl, ?y0n1k1⟩) hHeld ?z0n1k1
  case y0n1k1 => intro w hSw; (try dsimp only at hSw); go_simp <;> rfl
  try simp only [Act.put, List.setIfInBounds_toArray, List.set_cons_zero, List.set_cons_succ]
  refine wpAnyH_take (i := 1) (oi := ⟨some 9, Op.fieldAddr 32 (Operand.tmp 1) 0, 0, _, _, none⟩) (v := ?v1n1k2) rfl (by kernel_rfl) (by kernel_rfl) (by kernel_rfl) (fun _ _ _ h => h) (Or.inl ⟨by rfl, ?y1n1k2⟩) hHeld ?z1n1k2
  case y1n1k2 => intro w hSw; (try dsimp only at hSw); go_simp <;> rfl
  try simp only [Act.put, List.setIfInBounds_toArray, List.set_cons_zero, List.set_cons_succ]
  refine wpAnyH_take (i := 2) (oi := ⟨some 10, Op.load 3 (Operand.tmp 9), 3, _, _, none⟩) (v := ?v2n1k3) rfl (by kernel_rfl) (by kernel_rfl) (by kernel_rfl) (fun _ _ _ h => h) (Or.inl ⟨by rfl, ?y2n1k3⟩) hHeld ?z2n1k3
  case y2n1k3 => intro w hSw; (try dsimp only at hSw); go_simp <;> rfl
  try simp only [Act.put, List.setIfInBounds_toArray, List.set_cons_zero, List.set_cons_succ]
  refine wpAnyH_take (i := 4) (oi := ⟨some 12, Op.fieldAddr 32 (Operand.tmp 1) 1, 0, _, _, none⟩) (v := ?v4n1k4) rfl (by kernel_rfl) (by kernel_rfl) (by kernel_rfl) (fun _ _ _ h => h) (Or.inl ⟨by rfl, ?y4n1k4⟩) hHeld ?z4n1k4
  case y4n1k4 => intro w hSw; (try dsimp only at hSw); go_simp <;> rfl
  try simp only [Act.put, List.setIfInBounds_toArray, List.set_cons_zero, List.set_cons_succ]
  refine wpAnyH_take (i := 5) (oi := ⟨some 13, Op.load 3 (Operand.tmp 12), 3, _, _, none⟩) (v := ?v5n1k5) rfl (by kernel_rfl) (by kernel_rfl) (by kernel_rfl) (fun _ _ _ h => h) (Or.inl ⟨by rfl, ?y5n1k5⟩) hHeld ?z5n1k5
  case y5n1k5 => intro w hSw; (try dsimp only at hSw); go_simp <;> rfl
  try simp only [Act.put, List.setIfInBounds_toArray, List.set_cons_zero, List.set_cons_succ]
  refine wpAnyH_ready (rs := [3]) (by kernel_rfl) (by simp) ?_
  refine AllReadyH.cons (o := ⟨some 11, Op.call { callee := Callee.value (Operand.func 22), args := #[Operand.tmp 8, Operand.tmp 10], argTypes := #[53, 3] }, 53, _, _, none⟩) rfl (fun K hK => ?_) AllReadyH.nil
  go_simp
  refine (pen_num p1 _ (by simp)).mono ?_
  rintro e w2 ⟨rfl, p2⟩
  dsimp only
  refine hK.out _ _ (EA.out _ p2.1) (fun hHeld => ?_)
  clear hK K
  try simp only [Act.put, List.setIfInBounds_toArray, List.set_cons_zero, List.set_cons_succ]
  refine wpAnyH_ready (rs := [6]) (by kernel_rfl) (by simp) ?_
  refine AllReadyH.cons (o := ⟨some 14, Op.call { callee := Callee.value (Operand.func 22), args := #[Operand.tmp 11, Operand.tmp 13], argTypes := #[53, 3] }, 53, _, _, none⟩) rfl (fun K hK => ?_) AllReadyH.nil
  go_simp
  refine (pen_num p2 _ (by simp [be8_length])).mono ?_
  rintro e w3 ⟨rfl, p3⟩
  dsimp only
  refine hK.out _ _ (EA.out _ p3.1) (fun hHeld => ?_)
  clear hK K
  try simp only [Act.put, List.setIfInBounds_toArray, List.set_cons_zero, List.set_cons_succ]
  refine wpAnyH_done (by kernel_rfl) ?_ _
  refine NoPanic.normal ?_
  clear hHeld p1 p2
  go_upto_region 4 with (fail)
  have p4 := p3.drew
  clear p3
  refine wp_region_noPanic ?_
  refine wp_region_held_drew (S := fun w' => w'.cell? ⟨w.heap.size + 1, 0, none⟩ = some (.int .i64 op) ∧ w'.cell? ⟨w.heap.size + 1, 1, none⟩ = some (.int .i64 client) ∧ w'.cell? ⟨w.heap.size + 1, 2, none⟩ = some (.int .i64 seq)) (by kernel_rfl) (EB.out _ p4.1) (fun hHeld => ?_)
  refine wpAnyH_take (i := 0) (oi := ⟨some 15, Op.move (Operand.tmp 4), 53, _, _, none⟩) (v := ?v0n2k1) rfl (by kernel_rfl) (by kernel_rfl) (by kernel_rfl) (fun _ _ _ h => h) (Or.inl ⟨by rfl, ?y0n2k1⟩) hHeld ?z0n2k1
  case y0n2k1 => intro w hSw; (try dsimp only at hSw); go_simp <;> rfl
  try simp only [Act.put, List.setIfInBounds_toArray, List.set_cons_zero, List.set_cons_succ]
  refine wpAnyH_take (i := 1) (oi := ⟨some 16, Op.fieldAddr 24 (Operand.tmp 3) 0, 0, _, _, none⟩) (v := ?v1n2k2) rfl (by kernel_rfl) (by kernel_rfl) (by kernel_rfl) (fun _ _ _ h => h) (Or.inl ⟨by rfl, ?y1n2k2⟩) hHeld ?z1n2k2
  case y1n2k2 => intro w hSw; (try dsimp only at hSw); go_simp <;> rfl
  try simp only [Act.put, List.setIfInBounds_toArray, List.set_cons_zero, List.set_cons_succ]
  refine wpAnyH_take (i := 2) (oi := ⟨some 17, Op.load 22 (Operand.tmp 16), 22, _, _, none⟩) (v := ?v2n2k3) rfl (by kernel_rfl) (by kernel_rfl) (by kernel_rfl) (fun _ _ _ h => h) (Or.inl ⟨by rfl, ?y2n2k3⟩) hHeld ?z2n2k3
  case y2n2k3 => intro w hSw; (try dsimp only at hSw); go_simp <;> rfl
  try simp only [Act.put, List.setIfInBounds_toArray, List.set_cons_zero, List.set_cons_succ]
  refine wpAnyH_take (i := 3) (oi := ⟨some 18, Op.convert 22 5 (Operand.tmp 17), 5, _, _, none⟩) (v := ?v3n2k4) rfl (by kernel_rfl) (by kernel_rfl) (by kernel_rfl) (fun _ _ _ h => h) (Or.inl ⟨by rfl, ?y3n2k4⟩) hHeld ?z3n2k4
  case y3n2k4 => intro w hSw; (try dsimp only at hSw); go_simp <;> rfl
  try simp only [Act.put, List.setIfInBounds_toArray, List.set_cons_zero, List.set_cons_succ]
  refine wpAnyH_take (i := 5) (oi := ⟨some 20, Op.fieldAddr 24 (Operand.tmp 3) 1, 0, _, _, none⟩) (v := ?v5n2k5) rfl (by kernel_rfl) (by kernel_rfl) (by kernel_rfl) (fun _ _ _ h => h) (Or.inl ⟨by rfl, ?y5n2k5⟩) hHeld ?z5n2k5
  case y5n2k5 => intro w hSw; (try dsimp only at hSw); go_simp <;> rfl
  try simp only [Act.put, List.setIfInBounds_toArray, List.set_cons_zero, List.set_cons_succ]
  refine wpAnyH_take (i := 6) (oi := ⟨some 21, Op.load 3 (Operand.tmp 20), 3, _, _, none⟩) (v := ?v6n2k6) rfl (by kernel_rfl) (by kernel_rfl) (by kernel_rfl) (fun _ _ _ h => h) (Or.inl ⟨by rfl, ?y6n2k6⟩) hHeld ?z6n2k6
  case y6n2k6 => intro w hSw; (try dsimp only at hSw); go_simp <;> rfl
  try simp only [Act.put, List.setIfInBounds_toArray, List.set_cons_zero, List.set_cons_succ]
  refine wpAnyH_take (i := 8) (oi := ⟨some 23, Op.fieldAddr 24 (Operand.tmp 3) 2, 0, _, _, none⟩) (v := ?v8n2k7) rfl (by kernel_rfl) (by kernel_rfl) (by kernel_rfl) (fun _ _ _ h => h) (Or.inl ⟨by rfl, ?y8n2k7⟩) hHeld ?z8n2k7
  case y8n2k7 => intro w hSw; (try dsimp only at hSw); go_simp <;> rfl
  try simp only [Act.put, List.setIfInBounds_toArray, List.set_cons_zero, List.set_cons_succ]
  refine wpAnyH_take (i := 9) (oi := ⟨some 24, Op.load 3 (Operand.tmp 23), 3, _, _, none⟩) (v := ?v9n2k8) rfl (by kernel_rfl) (by kernel_rfl) (by kernel_rfl) (fun _ _ _ h => h) (Or.inl ⟨by rfl, ?y9n2k8⟩) hHeld ?z9n2k8
  case y9n2k8 => intro w hSw; (try dsimp only at hSw); go_simp <;> rfl
  try simp only [Act.put, List.setIfInBounds_toArray, List.set_cons_zero, List.set_cons_succ]
  refine wpAnyH_ready (rs := [4]) (by kernel_rfl) (by simp) ?_
  refine AllReadyH.cons (o := ⟨some 19, Op.call { callee := Callee.value (Operand.func 23), args := #[Operand.tmp 15, Operand.tmp 18], argTypes := #[53, 5] }, 53, _, _, none⟩) rfl (fun K hK => ?_) AllReadyH.nil
  go_simp
  rw [HU.out]
  refine (pen_byte p4 _ (by simp [be8_length])).mono ?_
  rintro e w5 ⟨rfl, p5⟩
  dsimp only
  refine hK.out _ _ (EB.out _ p5.1) (fun hHeld => ?_)
  clear hK K
  try simp only [Act.put, List.setIfInBounds_toArray, List.set_cons_zero, List.set_cons_succ]
  refine wpAnyH_ready (rs := [7]) (by kernel_rfl) (by simp) ?_
  refine AllReadyH.cons (o := ⟨some 22, Op.call { callee := Callee.value (Operand.func 22), args := #[Operand.tmp 19, Operand.tmp 21], argTypes := #[53, 3] }, 53, _, _, none⟩) rfl (fun K hK => ?_) AllReadyH.nil
  go_simp
  refine (pen_num p5 _ (by simp [be8_length])).mono ?_
  rintro e w6 ⟨rfl, p6⟩
  dsimp only
  refine hK.out _ _ (EB.out _ p6.1) (fun hHeld => ?_)
  clear hK K
  try simp only [Act.put, List.setIfInBounds_toArray, List.set_cons_zero, List.set_cons_succ]
  refine wpAnyH_ready (rs := [10]) (by kernel_rfl) (by simp) ?_
  refine AllReadyH.cons (o := ⟨some 25, Op.call { callee := Callee.value (Operand.func 22), args := #[Operand.tmp 22, Operand.tmp 24], argTypes := #[53, 3] }, 53, _, _, none⟩) rfl (fun K hK => ?_) AllReadyH.nil
  go_simp
  refine (pen_num p6 _ (by simp [be8_length])).mono ?_
  rintro e w7 ⟨rfl, p7⟩
  dsimp only
  refine hK.out _ _ (EB.out _ p7.1) (fun hHeld => ?_)
  clear hK K
  try simp only [Act.put, List.setIfInBounds_toArray, List.set_cons_zero, List.set_cons_succ]
  refine wpAnyH_done (by kernel_rfl) ?_ _
  refine NoPanic.normal ?_
  clear hHeld p4 p5 p6
  go_upto_region 5 with (fail)
  have p8 := p7.drew
  clear p7
  have hl := HLEN.out
  simp only at hl
  refine wp_region_noPanic ?_
  refine wp_region_held_drew (S := fun w' => w'.cell? ⟨w.heap.size + 1, 3, none⟩ = some (.string key) ∧ w'.cell? ⟨w.heap.size + 1, 4, none⟩ = some (.string value) ∧ w'.cell? ⟨w.heap.size + 1, 5, none⟩ = some (.string old)) (by kernel_rfl) (ED.out _ p8.1) (fun hHeld => ?_)
  refine wpAnyH_take (i := 0) (oi := ⟨some 26, Op.move (Operand.tmp 4), 53, _, _, none⟩) (v := ?v0n3k1) rfl (by kernel_rfl) (by kernel_rfl) (by kernel_rfl) (fun _ _ _ h => h) (Or.inl ⟨by rfl, ?y0n3k1⟩) hHeld ?z0n3k1
  case y0n3k1 => intro w hSw; (try dsimp only at hSw); go_simp <;> rfl
  try simp only [Act.put, List.setIfInBounds_toArray, List.set_cons_zero, List.set_cons_succ]
  refine wpAnyH_take (i := 1) (oi := ⟨some 27, Op.fieldAddr 24 (Operand.tmp 3) 3, 0, _, _, none⟩) (v := ?v1n3k2) rfl (by kernel_rfl) (by kernel_rfl) (by kernel_rfl) (fun _ _ _ h => h) (Or.inl ⟨by rfl, ?y1n3k2⟩) hHeld ?z1n3k2
  case y1n3k2 => intro w hSw; (try dsimp only at hSw); go_simp <;> rfl
  try simp only [Act.put, List.setIfInBounds_toArray, List.set_cons_zero, List.set_cons_succ]
  refine wpAnyH_take (i := 2) (oi := ⟨some 28, Op.load 9 (Operand.tmp 27), 9, _, _, none⟩) (v := ?v2n3k3) rfl (by kernel_rfl) (by kernel_rfl) (by kernel_rfl) (fun _ _ _ h => h) (Or.inl ⟨by rfl, ?y2n3k3⟩) hHeld ?z2n3k3
  case y2n3k3 => intro w hSw; (try dsimp only at hSw); go_simp <;> rfl
  try simp only [Act.put, List.setIfInBounds_toArray, List.set_cons_zero, List.set_cons_succ]
  refine wpAnyH_take (i := 4) (oi := ⟨some 30, Op.fieldAddr 24 (Operand.tmp 3) 4, 0, _, _, none⟩) (v := ?v4n3k4) rfl (by kernel_rfl) (by kernel_rfl) (by kernel_rfl) (fun _ _ _ h => h) (Or.inl ⟨by rfl, ?y4n3k4⟩) hHeld ?z4n3k4
  case y4n3k4 => intro w hSw; (try dsimp only at hSw); go_simp <;> rfl
  try simp only [Act.put, List.setIfInBounds_toArray, List.set_cons_zero, List.set_cons_succ]
  refine wpAnyH_take (i := 5) (oi := ⟨some 31, Op.load 9 (Operand.tmp 30), 9, _, _, none⟩) (v := ?v5n3k5) rfl (by kernel_rfl) (by kernel_rfl) (by kernel_rfl) (fun _ _ _ h => h) (Or.inl ⟨by rfl, ?y5n3k5⟩) hHeld ?z5n3k5
  case y5n3k5 => intro w hSw; (try dsimp only at hSw); go_simp <;> rfl
  try simp only [Act.put, List.setIfInBounds_toArray, List.set_cons_zero, List.set_cons_succ]
  refine wpAnyH_take (i := 7) (oi := ⟨some 33, Op.fieldAddr 24 (Operand.tmp 3) 5, 0, _, _, none⟩) (v := ?v7n3k6) rfl (by kernel_rfl) (by kernel_rfl) (by kernel_rfl) (fun _ _ _ h => h) (Or.inl ⟨by rfl, ?y7n3k6⟩) hHeld ?z7n3k6
  case y7n3k6 => intro w hSw; (try dsimp only at hSw); go_simp <;> rfl
  try simp only [Act.put, List.setIfInBounds_toArray, List.set_cons_zero, List.set_cons_succ]
  refine wpAnyH_take (i := 8) (oi := ⟨some 34, Op.load 9 (Operand.tmp 33), 9, _, _, none⟩) (v := ?v8n3k7) rfl (by kernel_rfl) (by kernel_rfl) (by kernel_rfl) (fun _ _ _ h => h) (Or.inl ⟨by rfl, ?y8n3k7⟩) hHeld ?z8n3k7
  case y8n3k7 => intro w hSw; (try dsimp only at hSw); go_simp <;> rfl
  try simp only [Act.put, List.setIfInBounds_toArray, List.set_cons_zero, List.set_cons_succ]
  refine wpAnyH_ready (rs := [3]) (by kernel_rfl) (by simp) ?_
  refine AllReadyH.cons (o := ⟨some 29, Op.call { callee := Callee.value (Operand.func 24), args := #[Operand.tmp 26, Operand.tmp 28], argTypes := #[53, 9] }, 53, _, _, none⟩) rfl (fun K hK => ?_) AllReadyH.nil
  go_simp
  refine (pen_text p8 _ (by simp [be8_length]; omega)).mono ?_
  rintro e w9 ⟨rfl, p9⟩
  dsimp only
  refine hK.out _ _ (ED.out _ p9.1) (fun hHeld => ?_)
  clear hK K
  try simp only [Act.put, List.setIfInBounds_toArray, List.set_cons_zero, List.set_cons_succ]
  refine wpAnyH_ready (rs := [6]) (by kernel_rfl) (by simp) ?_
  refine AllReadyH.cons (o := ⟨some 32, Op.call { callee := Callee.value (Operand.func 24), args := #[Operand.tmp 29, Operand.tmp 31], argTypes := #[53, 9] }, 53, _, _, none⟩) rfl (fun K hK => ?_) AllReadyH.nil
  go_simp
  refine (pen_text p9 _ (by simp [be8_length, tx_length]; omega)).mono ?_
  rintro e w10 ⟨rfl, p10⟩
  dsimp only
  refine hK.out _ _ (ED.out _ p10.1) (fun hHeld => ?_)
  clear hK K
  try simp only [Act.put, List.setIfInBounds_toArray, List.set_cons_zero, List.set_cons_succ]
  refine wpAnyH_ready (rs := [9]) (by kernel_rfl) (by simp) ?_
  refine AllReadyH.cons (o := ⟨some 35, Op.call { callee := Callee.value (Operand.func 24), args := #[Operand.tmp 32, Operand.tmp 34], argTypes := #[53, 9] }, 53, _, _, none⟩) rfl (fun K hK => ?_) AllReadyH.nil
  go_simp
  refine (pen_text p10 _ (by simp [be8_length, tx_length]; omega)).mono ?_
  rintro e w11 ⟨rfl, p11⟩
  dsimp only
  refine hK.out _ _ (ED.out _ p11.1) (fun hHeld => ?_)
  clear hK K
  try simp only [Act.put, List.setIfInBounds_toArray, List.set_cons_zero, List.set_cons_succ]
  refine wpAnyH_done (by kernel_rfl) ?_ _
  refine NoPanic.normal ?_
  clear hHeld p8 p9 p10
  have he : [] ++ be8 index ++ be8 term ++ [low op] ++ be8 client ++ be8 seq ++ tx key ++ tx value ++ tx old = EntryV.bytes ⟨index, term, op, client, seq, key, value, old⟩ := by unfold EntryV.bytes; simp
  rw [he] at p11
  clear he hl
  go_wp2_with fail
  refine (pen_bytes p11 n HN.out hx).mono ?_
  rintro e w12 ⟨A, c, rfl, ho, k12⟩
  have R := Lib.hid ho
  clear ho
  go_wp2
  go_ret
  refine ⟨A, c, rfl, own_base R.out (fun i hi => ?_), K0.out.trans k12 (fun i hi h => by omega)⟩
  have := (R.out.lt i hi).1
  have := K0.out.size
  omega

end Go.Proofs.Ytgffdobhdkieaaa
