/-
  An entry's bytes as the statements of layer 6 say them. No statement is proved here.
-/
import Derived.Test.YtgffdobhdkieaaaCmdsBytes
namespace Go.Proofs.Ytgffdobhdkieaaa
open Go.RowKit

set_option maxHeartbeats 2000000 in
theorem ref_bytes (e : EntryV) (w : World) (hx : e.bytes.length ≤ 140737488355328) :
    Calls Try.prog 20 #[e.val] w fun en w' => en = .returned (.string (str e.bytes)) ∧ Kept noBlock w w' := by
  obtain ⟨n, hn⟩ : ∃ n, e.bytes.length = n := ⟨_, rfl⟩
  rw [hn] at hx
  have hlen := hn
  rw [EntryV.bytes_length] at hlen
  obtain ⟨w1, hw1⟩ : ∃ w1, w1 = (w.alloc (.cells e.cells.toArray 32)).alloc (.cells #[.slice none 0 0] 55) := ⟨_, rfl⟩
  obtain ⟨w2, hw2⟩ : ∃ w2, w2 = w1.alloc (.cells e.cmd.cells.toArray 24) := ⟨_, rfl⟩
  have k1 : Kept noBlock w w1 := by rw [hw1]; exact (Kept.alloc _ _ _).step (Kept.alloc _ _ _)
  have k2 : Kept noBlock w1 w2 := by rw [hw2]; exact Kept.alloc _ _ _
  have hs1 : w1.heap.size = w.heap.size + 1 + 1 := by rw [hw1]; simp
  have hs2 : w2.heap.size = w.heap.size + 1 + 1 + 1 := by rw [hw2]; simp [hs1]
  have b1 : w1.heap[w.heap.size]? = some (.cells e.cells.toArray 32 (0, 0)) := by rw [hw1]; exact (Kept.alloc noBlock _ _).blk (heap_alloc_new w _) (fun h => h)
  have b2 : w2.heap[w.heap.size + 1 + 1]? = some (.cells e.cmd.cells.toArray 24 (0, 0)) := by
    have := heap_alloc_new w1 (.cells e.cmd.cells.toArray 24)
    rw [hs1] at this
    rw [hw2]
    exact this
  have p0 : Pen w2 w2 (w.heap.size + 1) [] := by
    refine Pen.next (w1 := w1) ?_ k2
    have := Pen.new (w.alloc (.cells e.cells.toArray 32))
    rw [← hw1] at this
    simpa using this
  have EC : Hid (∀ w', Kept (fun k => k = w.heap.size + 1) w2 w' → Ecells w.heap.size (w.heap.size + 1 + 1) e w') := fun w' k =>
    ecells (k2.blk b1 (fun h => h)) b2 k (by omega) (by omega)
  have K0 := Lib.hid (k1.step k2)
  clear b1 b2 k1 k2
  have HLEN := Lib.hid hlen
  have HN := Lib.hid hn
  have HS2 := Lib.hid hs2
  clear hlen hn hs1 hs2
  unfold EntryV.cells at hw1
  unfold CmdV.cells at hw2
  rw [hw1] at hw2
  clear hw1
  obtain ⟨index, term, op, client, seq, key, value, old⟩ := e
  unfold EntryV.val
  simp only at hw2 ⊢
  have HU := Lib.hid (u8_low op)
  have EA : Hid (∀ w', Kept (fun k => k = w.heap.size + 1) w2 w' → w'.cell? ⟨w.heap.size, 0, none⟩ = some (.int .i64 index) ∧ w'.cell? ⟨w.heap.size, 1, none⟩ = some (.int .i64 term) ∧ w'.cell? ⟨w.heap.size + 1 + 1, 0, none⟩ = some (.int .i64 op) ∧ w'.cell? ⟨w.heap.size + 1 + 1, 1, none⟩ = some (.int .i64 client) ∧ w'.cell? ⟨w.heap.size + 1 + 1, 2, none⟩ = some (.int .i64 seq) ∧ w'.cell? ⟨w.heap.size + 1 + 1, 3, none⟩ = some (.string key) ∧ w'.cell? ⟨w.heap.size + 1 + 1, 4, none⟩ = some (.string value) ∧ w'.cell? ⟨w.heap.size + 1 + 1, 5, none⟩ = some (.string old)) := fun w' k => EC.out w' k
  clear EC
  obtain ⟨X, hX⟩ : ∃ X, X = str (EntryV.bytes ⟨index, term, op, client, seq, key, value, old⟩) := ⟨_, rfl⟩
  rw [← hX]
  have HX := Lib.hid hX
  clear hX
  have hl := HLEN.out
  simp only at hl
  go_enter Try.func20, Try.ntmps20
  go_upto_region 3 with (fail)
  rw [← hw2]
  clear hw2
  have p1 := p0.drew
  clear p0
  refine wp_region_noPanic ?_
  refine wp_region_held_drew (S := fun w' => w'.cell? ⟨w.heap.size, 0, none⟩ = some (.int .i64 index) ∧ w'.cell? ⟨w.heap.size, 1, none⟩ = some (.int .i64 term) ∧ w'.cell? ⟨w.heap.size + 1 + 1, 0, none⟩ = some (.int .i64 op) ∧ w'.cell? ⟨w.heap.size + 1 + 1, 1, none⟩ = some (.int .i64 client) ∧ w'.cell? ⟨w.heap.size + 1 + 1, 2, none⟩ = some (.int .i64 seq) ∧ w'.cell? ⟨w.heap.size + 1 + 1, 3, none⟩ = some (.string key) ∧ w'.cell? ⟨w.heap.size + 1 + 1, 4, none⟩ = some (.string value) ∧ w'.cell? ⟨w.heap.size + 1 + 1, 5, none⟩ = some (.string old)) (by kernel_rfl) (EA.out _ p1.1) (fun hHeld => ?_)
  refine wpAnyH_take (i := 0) (oi := ⟨some 9, Op.move (Operand.tmp 3), 53, _, _, none⟩) (v := ?v0n1k1) rfl (by kernel_rfl) (by kernel_rfl) (by kernel_rfl) (fun _ _ _ h => h) (Or.inl ⟨by rfl, ?y0n1k1⟩) hHeld ?z0n1k1
  case y0n1k1 => intro w hSw; (try dsimp only at hSw); go_simp <;> rfl
  try simp only [Act.put, List.setIfInBounds_toArray, List.set_cons_zero, List.set_cons_succ]
  refine wpAnyH_take (i := 1) (oi := ⟨some 10, Op.fieldAddr 32 (Operand.tmp 1) 0, 0, _, _, none⟩) (v := ?v1n1k2) rfl (by kernel_rfl) (by kernel_rfl) (by kernel_rfl) (fun _ _ _ h => h) (Or.inl ⟨by rfl, ?y1n1k2⟩) hHeld ?z1n1k2
  case y1n1k2 => intro w hSw; (try dsimp only at hSw); go_simp <;> rfl
  try simp only [Act.put, List.setIfInBounds_toArray, List.set_cons_zero, List.set_cons_succ]
  refine wpAnyH_take (i := 2) (oi := ⟨some 11, Op.load 3 (Operand.tmp 10), 3, _, _, none⟩) (v := ?v2n1k3) rfl (by kernel_rfl) (by kernel_rfl) (by kernel_rfl) (fun _ _ _ h => h) (Or.inl ⟨by rfl, ?y2n1k3⟩) hHeld ?z2n1k3
  case y2n1k3 => intro w hSw; (try dsimp only at hSw); go_simp <;> rfl
  try simp only [Act.put, List.setIfInBounds_toArray, List.set_cons_zero, List.set_cons_succ]
  refine wpAnyH_take (i := 4) (oi := ⟨some 13, Op.fieldAddr 32 (Operand.tmp 1) 1, 0, _, _, none⟩) (v := ?v4n1k4) rfl (by kernel_rfl) (by kernel_rfl) (by kernel_rfl) (fun _ _ _ h => h) (Or.inl ⟨by rfl, ?y4n1k4⟩) hHeld ?z4n1k4
  case y4n1k4 => intro w hSw; (try dsimp only at hSw); go_simp <;> rfl
  try simp only [Act.put, List.setIfInBounds_toArray, List.set_cons_zero, List.set_cons_succ]
  refine wpAnyH_take (i := 5) (oi := ⟨some 14, Op.load 3 (Operand.tmp 13), 3, _, _, none⟩) (v := ?v5n1k5) rfl (by kernel_rfl) (by kernel_rfl) (by kernel_rfl) (fun _ _ _ h => h) (Or.inl ⟨by rfl, ?y5n1k5⟩) hHeld ?z5n1k5
  case y5n1k5 => intro w hSw; (try dsimp only at hSw); go_simp <;> rfl
  try simp only [Act.put, List.setIfInBounds_toArray, List.set_cons_zero, List.set_cons_succ]
  refine wpAnyH_take (i := 7) (oi := ⟨some 16, Op.fieldAddr 24 (Operand.tmp 4) 0, 0, _, _, none⟩) (v := ?v7n1k6) rfl (by kernel_rfl) (by kernel_rfl) (by kernel_rfl) (fun _ _ _ h => h) (Or.inl ⟨by rfl, ?y7n1k6⟩) hHeld ?z7n1k6
  case y7n1k6 => intro w hSw; (try dsimp only at hSw); go_simp <;> rfl
  try simp only [Act.put, List.setIfInBounds_toArray, List.set_cons_zero, List.set_cons_succ]
  refine wpAnyH_take (i := 8) (oi := ⟨some 17, Op.load 22 (Operand.tmp 16), 22, _, _, none⟩) (v := ?v8n1k7) rfl (by kernel_rfl) (by kernel_rfl) (by kernel_rfl) (fun _ _ _ h => h) (Or.inl ⟨by rfl, ?y8n1k7⟩) hHeld ?z8n1k7
  case y8n1k7 => intro w hSw; (try dsimp only at hSw); go_simp <;> rfl
  try simp only [Act.put, List.setIfInBounds_toArray, List.set_cons_zero, List.set_cons_succ]
  refine wpAnyH_take (i := 9) (oi := ⟨some 18, Op.convert 22 5 (Operand.tmp 17), 5, _, _, none⟩) (v := ?v9n1k8) rfl (by kernel_rfl) (by kernel_rfl) (by kernel_rfl) (fun _ _ _ h => h) (Or.inl ⟨by rfl, ?y9n1k8⟩) hHeld ?z9n1k8
  case y9n1k8 => intro w hSw; (try dsimp only at hSw); go_simp <;> rfl
  try simp only [Act.put, List.setIfInBounds_toArray, List.set_cons_zero, List.set_cons_succ]
  refine wpAnyH_take (i := 11) (oi := ⟨some 20, Op.fieldAddr 24 (Operand.tmp 4) 1, 0, _, _, none⟩) (v := ?v11n1k9) rfl (by kernel_rfl) (by kernel_rfl) (by kernel_rfl) (fun _ _ _ h => h) (Or.inl ⟨by rfl, ?y11n1k9⟩) hHeld ?z11n1k9
  case y11n1k9 => intro w hSw; (try dsimp only at hSw); go_simp <;> rfl
  try simp only [Act.put, List.setIfInBounds_toArray, List.set_cons_zero, List.set_cons_succ]
  refine wpAnyH_take (i := 12) (oi := ⟨some 21, Op.load 3 (Operand.tmp 20), 3, _, _, none⟩) (v := ?v12n1k10) rfl (by kernel_rfl) (by kernel_rfl) (by kernel_rfl) (fun _ _ _ h => h) (Or.inl ⟨by rfl, ?y12n1k10⟩) hHeld ?z12n1k10
  case y12n1k10 => intro w hSw; (try dsimp only at hSw); go_simp <;> rfl
  try simp only [Act.put, List.setIfInBounds_toArray, List.set_cons_zero, List.set_cons_succ]
  refine wpAnyH_take (i := 14) (oi := ⟨some 23, Op.fieldAddr 24 (Operand.tmp 4) 2, 0, _, _, none⟩) (v := ?v14n1k11) rfl (by kernel_rfl) (by kernel_rfl) (by kernel_rfl) (fun _ _ _ h => h) (Or.inl ⟨by rfl, ?y14n1k11⟩) hHeld ?z14n1k11
  case y14n1k11 => intro w hSw; (try dsimp only at hSw); go_simp <;> rfl
  try simp only [Act.put, List.setIfInBounds_toArray, List.set_cons_zero, List.set_cons_succ]
  refine wpAnyH_take (i := 15) (oi := ⟨some 24, Op.load 3 (Operand.tmp 23), 3, _, _, none⟩) (v := ?v15n1k12) rfl (by kernel_rfl) (by kernel_rfl) (by kernel_rfl) (fun _ _ _ h => h) (Or.inl ⟨by rfl, ?y15n1k12⟩) hHeld ?z15n1k12
  case y15n1k12 => intro w hSw; (try dsimp only at hSw); go_simp <;> rfl
  try simp only [Act.put, List.setIfInBounds_toArray, List.set_cons_zero, List.set_cons_succ]
  refine wpAnyH_take (i := 17) (oi := ⟨some 26, Op.fieldAddr 24 (Operand.tmp 4) 3, 0, _, _, none⟩) (v := ?v17n1k13) rfl (by kernel_rfl) (by kernel_rfl) (by kernel_rfl) (fun _ _ _ h => h) (Or.inl ⟨by rfl, ?y17n1k13⟩) hHeld ?z17n1k13
  case y17n1k13 => intro w hSw; (try dsimp only at hSw); go_simp <;> rfl
  try simp only [Act.put, List.setIfInBounds_toArray, List.set_cons_zero, List.set_cons_succ]
  refine wpAnyH_take (i := 18) (oi := ⟨some 27, Op.load 9 (Operand.tmp 26), 9, _, _, none⟩) (v := ?v18n1k14) rfl (by kernel_rfl) (by kernel_rfl) (by kernel_rfl) (fun _ _ _ h => h) (Or.inl ⟨by rfl, ?y18n1k14⟩) hHeld ?z18n1k14
  case y18n1k14 => intro w hSw; (try dsimp only at hSw); go_simp <;> rfl
  try simp only [Act.put, List.setIfInBounds_toArray, List.set_cons_zero, List.set_cons_succ]
  refine wpAnyH_take (i := 20) (oi := ⟨some 29, Op.fieldAddr 24 (Operand.tmp 4) 4, 0, _, _, none⟩) (v := ?v20n1k15) rfl (by kernel_rfl) (by kernel_rfl) (by kernel_rfl) (fun _ _ _ h => h) (Or.inl ⟨by rfl, ?y20n1k15⟩) hHeld ?z20n1k15
  case y20n1k15 => intro w hSw; (try dsimp only at hSw); go_simp <;> rfl
  try simp only [Act.put, List.setIfInBounds_toArray, List.set_cons_zero, List.set_cons_succ]
  refine wpAnyH_take (i := 21) (oi := ⟨some 30, Op.load 9 (Operand.tmp 29), 9, _, _, none⟩) (v := ?v21n1k16) rfl (by kernel_rfl) (by kernel_rfl) (by kernel_rfl) (fun _ _ _ h => h) (Or.inl ⟨by rfl, ?y21n1k16⟩) hHeld ?z21n1k16
  case y21n1k16 => intro w hSw; (try dsimp only at hSw); go_simp <;> rfl
  try simp only [Act.put, List.setIfInBounds_toArray, List.set_cons_zero, List.set_cons_succ]
  refine wpAnyH_take (i := 23) (oi := ⟨some 32, Op.fieldAddr 24 (Operand.tmp 4) 5, 0, _, _, none⟩) (v := ?v23n1k17) rfl (by kernel_rfl) (by kernel_rfl) (by kernel_rfl) (fun _ _ _ h => h) (Or.inl ⟨by rfl, ?y23n1k17⟩) hHeld ?z23n1k17
  case y23n1k17 => intro w hSw; (try dsimp only at hSw); go_simp <;> rfl
  try simp only [Act.put, List.setIfInBounds_toArray, List.set_cons_zero, List.set_cons_succ]
  refine wpAnyH_take (i := 24) (oi := ⟨some 33, Op.load 9 (Operand.tmp 32), 9, _, _, none⟩) (v := ?v24n1k18) rfl (by kernel_rfl) (by kernel_rfl) (by kernel_rfl) (fun _ _ _ h => h) (Or.inl ⟨by rfl, ?y24n1k18⟩) hHeld ?z24n1k18
  case y24n1k18 => intro w hSw; (try dsimp only at hSw); go_simp <;> rfl
  try simp only [Act.put, List.setIfInBounds_toArray, List.set_cons_zero, List.set_cons_succ]
  refine wpAnyH_ready (rs := [3]) (by kernel_rfl) (by simp) ?_
  refine AllReadyH.cons (o := ⟨some 12, Op.call { callee := Callee.value (Operand.func 22), args := #[Operand.tmp 9, Operand.tmp 11], argTypes := #[53, 3] }, 53, _, _, none⟩) rfl (fun K hK => ?_) AllReadyH.nil
  go_simp
  refine (pen_num p1 _ (by simp)).mono ?_
  rintro e v2 ⟨rfl, p2⟩
  clear p1
  dsimp only
  refine hK.out _ _ (EA.out _ p2.1) (fun hHeld => ?_)
  clear hK K
  try simp only [Act.put, List.setIfInBounds_toArray, List.set_cons_zero, List.set_cons_succ]
  refine wpAnyH_ready (rs := [6]) (by kernel_rfl) (by simp) ?_
  refine AllReadyH.cons (o := ⟨some 15, Op.call { callee := Callee.value (Operand.func 22), args := #[Operand.tmp 12, Operand.tmp 14], argTypes := #[53, 3] }, 53, _, _, none⟩) rfl (fun K hK => ?_) AllReadyH.nil
  go_simp
  refine (pen_num p2 _ (by simp [be8_length])).mono ?_
  rintro e v3 ⟨rfl, p3⟩
  clear p2
  dsimp only
  refine hK.out _ _ (EA.out _ p3.1) (fun hHeld => ?_)
  clear hK K
  try simp only [Act.put, List.setIfInBounds_toArray, List.set_cons_zero, List.set_cons_succ]
  refine wpAnyH_ready (rs := [10]) (by kernel_rfl) (by simp) ?_
  refine AllReadyH.cons (o := ⟨some 19, Op.call { callee := Callee.value (Operand.func 23), args := #[Operand.tmp 15, Operand.tmp 18], argTypes := #[53, 5] }, 53, _, _, none⟩) rfl (fun K hK => ?_) AllReadyH.nil
  go_simp
  rw [HU.out]
  refine (pen_byte p3 _ (by simp [be8_length])).mono ?_
  rintro e v4 ⟨rfl, p4⟩
  clear p3
  dsimp only
  refine hK.out _ _ (EA.out _ p4.1) (fun hHeld => ?_)
  clear hK K
  try simp only [Act.put, List.setIfInBounds_toArray, List.set_cons_zero, List.set_cons_succ]
  refine wpAnyH_ready (rs := [13]) (by kernel_rfl) (by simp) ?_
  refine AllReadyH.cons (o := ⟨some 22, Op.call { callee := Callee.value (Operand.func 22), args := #[Operand.tmp 19, Operand.tmp 21], argTypes := #[53, 3] }, 53, _, _, none⟩) rfl (fun K hK => ?_) AllReadyH.nil
  go_simp
  refine (pen_num p4 _ (by simp [be8_length])).mono ?_
  rintro e v5 ⟨rfl, p5⟩
  clear p4
  dsimp only
  refine hK.out _ _ (EA.out _ p5.1) (fun hHeld => ?_)
  clear hK K
  try simp only [Act.put, List.setIfInBounds_toArray, List.set_cons_zero, List.set_cons_succ]
  refine wpAnyH_ready (rs := [16]) (by kernel_rfl) (by simp) ?_
  refine AllReadyH.cons (o := ⟨some 25, Op.call { callee := Callee.value (Operand.func 22), args := #[Operand.tmp 22, Operand.tmp 24], argTypes := #[53, 3] }, 53, _, _, none⟩) rfl (fun K hK => ?_) AllReadyH.nil
  go_simp
  refine (pen_num p5 _ (by simp [be8_length])).mono ?_
  rintro e v6 ⟨rfl, p6⟩
  clear p5
  dsimp only
  refine hK.out _ _ (EA.out _ p6.1) (fun hHeld => ?_)
  clear hK K
  try simp only [Act.put, List.setIfInBounds_toArray, List.set_cons_zero, List.set_cons_succ]
  refine wpAnyH_ready (rs := [19]) (by kernel_rfl) (by simp) ?_
  refine AllReadyH.cons (o := ⟨some 28, Op.call { callee := Callee.value (Operand.func 24), args := #[Operand.tmp 25, Operand.tmp 27], argTypes := #[53, 9] }, 53, _, _, none⟩) rfl (fun K hK => ?_) AllReadyH.nil
  go_simp
  refine (pen_text p6 _ (by simp [be8_length]; omega)).mono ?_
  rintro e v7 ⟨rfl, p7⟩
  clear p6
  dsimp only
  refine hK.out _ _ (EA.out _ p7.1) (fun hHeld => ?_)
  clear hK K
  try simp only [Act.put, List.setIfInBounds_toArray, List.set_cons_zero, List.set_cons_succ]
  refine wpAnyH_ready (rs := [22]) (by kernel_rfl) (by simp) ?_
  refine AllReadyH.cons (o := ⟨some 31, Op.call { callee := Callee.value (Operand.func 24), args := #[Operand.tmp 28, Operand.tmp 30], argTypes := #[53, 9] }, 53, _, _, none⟩) rfl (fun K hK => ?_) AllReadyH.nil
  go_simp
  refine (pen_text p7 _ (by simp [be8_length, tx_length]; omega)).mono ?_
  rintro e v8 ⟨rfl, p8⟩
  clear p7
  dsimp only
  refine hK.out _ _ (EA.out _ p8.1) (fun hHeld => ?_)
  clear hK K
  try simp only [Act.put, List.setIfInBounds_toArray, List.set_cons_zero, List.set_cons_succ]
  refine wpAnyH_ready (rs := [25]) (by kernel_rfl) (by simp) ?_
  refine AllReadyH.cons (o := ⟨some 34, Op.call { callee := Callee.value (Operand.func 24), args := #[Operand.tmp 31, Operand.tmp 33], argTypes := #[53, 9] }, 53, _, _, none⟩) rfl (fun K hK => ?_) AllReadyH.nil
  go_simp
  refine (pen_text p8 _ (by simp [be8_length, tx_length]; omega)).mono ?_
  rintro e v9 ⟨rfl, p9⟩
  clear p8
  dsimp only
  refine hK.out _ _ (EA.out _ p9.1) (fun hHeld => ?_)
  clear hK K
  try simp only [Act.put, List.setIfInBounds_toArray, List.set_cons_zero, List.set_cons_succ]
  refine wpAnyH_ready (rs := [26]) (by kernel_rfl) (by simp) ?_
  refine AllReadyH.cons (o := ⟨some 35, Op.call { callee := Callee.value (Operand.func 25), args := #[Operand.tmp 34], argTypes := #[53] }, 42, _, _, none⟩) rfl (fun K hK => ?_) AllReadyH.nil
  go_simp
  have he : [] ++ be8 index ++ be8 term ++ [low op] ++ be8 client ++ be8 seq ++ tx key ++ tx value ++ tx old = EntryV.bytes ⟨index, term, op, client, seq, key, value, old⟩ := by unfold EntryV.bytes; simp
  rw [he] at p9
  clear he
  refine (pen_bytes p9 n HN.out hx).mono ?_
  rintro e v10 ⟨A, c, rfl, ho, k10⟩
  have hcv : ∀ c, (convert 42 9 (.slice A n c)).run Try.prog v10 = .ok (.string X) v10 := by
    rw [HX.out]
    exact fun c => run_str_lies (P := Try.prog) 42 9 5 Try.underlying42 Try.underlying5 Try.underlying9 (Lies.of_own (F := fun _ => True) ho (fun _ _ => trivial)) HN.out c
  have K10 := Lib.hid (K0.out.trans k10 (fun i hi h => by omega))
  have E10 := Lib.hid (EA.out _ k10)
  clear ho p9 k10
  dsimp only
  refine hK.out _ _ E10.out (fun hHeld => ?_)
  clear hK K
  try simp only [Act.put, List.setIfInBounds_toArray, List.set_cons_zero, List.set_cons_succ]
  refine wpAnyH_more (S2 := fun w' => (w'.cell? ⟨w.heap.size, 0, none⟩ = some (.int .i64 index) ∧ w'.cell? ⟨w.heap.size, 1, none⟩ = some (.int .i64 term) ∧ w'.cell? ⟨w.heap.size + 1 + 1, 0, none⟩ = some (.int .i64 op) ∧ w'.cell? ⟨w.heap.size + 1 + 1, 1, none⟩ = some (.int .i64 client) ∧ w'.cell? ⟨w.heap.size + 1 + 1, 2, none⟩ = some (.int .i64 seq) ∧ w'.cell? ⟨w.heap.size + 1 + 1, 3, none⟩ = some (.string key) ∧ w'.cell? ⟨w.heap.size + 1 + 1, 4, none⟩ = some (.string value) ∧ w'.cell? ⟨w.heap.size + 1 + 1, 5, none⟩ = some (.string old)) ∧ (∀ c, (convert 42 9 (.slice A n c)).run Try.prog w' = .ok (.string X) w')) (fun _ h => h.1) ?_
  clear hHeld
  have hHeld : (fun w' => (w'.cell? ⟨w.heap.size, 0, none⟩ = some (.int .i64 index) ∧ w'.cell? ⟨w.heap.size, 1, none⟩ = some (.int .i64 term) ∧ w'.cell? ⟨w.heap.size + 1 + 1, 0, none⟩ = some (.int .i64 op) ∧ w'.cell? ⟨w.heap.size + 1 + 1, 1, none⟩ = some (.int .i64 client) ∧ w'.cell? ⟨w.heap.size + 1 + 1, 2, none⟩ = some (.int .i64 seq) ∧ w'.cell? ⟨w.heap.size + 1 + 1, 3, none⟩ = some (.string key) ∧ w'.cell? ⟨w.heap.size + 1 + 1, 4, none⟩ = some (.string value) ∧ w'.cell? ⟨w.heap.size + 1 + 1, 5, none⟩ = some (.string old)) ∧ (∀ c, (convert 42 9 (.slice A n c)).run Try.prog w' = .ok (.string X) w')) _ := ⟨E10.out, hcv⟩
  refine wpAnyH_take (i := 27) (oi := ⟨some 36, Op.convert 42 9 (Operand.tmp 35), 9, _, _, none⟩) (v := ?v27n1k19) rfl (by kernel_rfl) (by kernel_rfl) (by kernel_rfl) (fun _ _ _ h => h) (Or.inl ⟨by rfl, ?y27n1k19⟩) hHeld ?z27n1k19
  case y27n1k19 => intro w hSw; (try dsimp only at hSw); go_simp <;> rfl
  try simp only [Act.put, List.setIfInBounds_toArray, List.set_cons_zero, List.set_cons_succ]
  refine wpAnyH_take (i := 28) (oi := ⟨some 2, Op.assign (Operand.tmp 36), 9, _, _, none⟩) (v := ?v28n1k20) rfl (by kernel_rfl) (by kernel_rfl) (by kernel_rfl) (fun _ _ _ h => h) (Or.inl ⟨by rfl, ?y28n1k20⟩) hHeld ?z28n1k20
  case y28n1k20 => intro w hSw; (try dsimp only at hSw); go_simp <;> rfl
  try simp only [Act.put, List.setIfInBounds_toArray, List.set_cons_zero, List.set_cons_succ]
  refine wpAnyH_done (by kernel_rfl) ?_ _
  refine NoPanic.normal ?_
  go_wp2
  go_ret
  exact ⟨rfl, K10.out⟩

end Go.Proofs.Ytgffdobhdkieaaa
