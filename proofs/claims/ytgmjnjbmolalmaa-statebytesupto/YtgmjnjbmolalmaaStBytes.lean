/-
  The contracts of state.Bytes and state.Same. No statement is proved here.
-/
import Derived.Test.YtgmjnjbmolalmaaStPut
namespace Go.Proofs.Ytgmjnjbmolalmaa
open Go.RowKit Tot

theorem Lies.lt {w : World} {F : Nat → Prop} {a : Option Addr} {xs : List Value} (h : Lies w F a xs) : Lies w (fun i => i < w.heap.size) a xs := fun hx => by
  obtain ⟨ad, e, _, hc⟩ := h hx
  refine ⟨ad, e, ?_, hc⟩
  cases xs with
  | nil => exact absurd rfl hx
  | cons x r =>
    have := World.block_lt_of_cell? w _ (hc 0 x rfl)
    rw [block_add] at this
    exact this
theorem StV.bytes_length (s : StV) : s.bytes.length = 16 + (rowsB s.pairs s.sess).length := by
  unfold StV.bytes
  simp only [List.length_append, be8_length]
  omega

set_option maxRecDepth 100000 in
set_option maxHeartbeats 1000000 in
theorem sbytes_any (F : Nat → Prop) (s : StV) (A : Option Addr) (c : Nat) (B : Option Addr) (d : Nat) (n : Nat) (w : World) (h : Sv w F s A c B d) (hn : s.bytes.length = n) (hx : n ≤ 140737488355328) :
    Calls Try.prog 23 #[stv s A c B d] w fun e w' => ∃ P cp, e = .returned (.slice P n cp) ∧ w'.ownsRow w.heap.size 5 1 (.slice P n cp) n (s.bytes.map bv) ∧ Kept noBlock w w' := by
  have ka := Kept.alloc noBlock w (.cells #[.int .i64 s.index, .int .i64 s.term, .slice A s.pairs.length c, .slice B s.sess.length d] 33)
  have ha := heap_alloc_new w (.cells #[.int .i64 s.index, .int .i64 s.term, .slice A s.pairs.length c, .slice B s.sess.length d] 33)
  have hs1 : (w.alloc (.cells #[.int .i64 s.index, .int .i64 s.term, .slice A s.pairs.length c, .slice B s.sess.length d] 33)).heap.size = w.heap.size + 1 := by simp
  have KA := Lib.hid ka
  have HA := Lib.hid ha
  have HS1 := Lib.hid hs1
  have hlen := s.bytes_length
  rw [hn] at hlen
  have HLEN := Lib.hid hlen
  have HN := Lib.hid hn
  have HL1 := Lib.hid h.lp.lt
  have HL2 := Lib.hid h.ls.lt
  have hcp := h.cp
  have hcs := h.cs
  clear ka ha hs1 hlen hn h
  unfold stv
  go_enter Try.func23, Try.ntmps23
  go_upto_region 1 with (fail)
  generalize w.alloc (.cells #[.int .i64 s.index, .int .i64 s.term, .slice A s.pairs.length c, .slice B s.sess.length d] 33) = w1 at KA HA HS1 ⊢
  have p0 := Pen.new w1
  obtain ⟨b, hb⟩ : ∃ b, b = w1.heap.size := ⟨_, rfl⟩
  have kn := Kept.alloc noBlock w1 (.cells #[.slice none 0 0] 75)
  have CE : Hid (∀ u xs, Pen (w1.alloc (.cells #[.slice none 0 0] 75)) u b xs → u.cell? ⟨w.heap.size, 0, none⟩ = some (.int .i64 s.index) ∧ u.cell? ⟨w.heap.size, 1, none⟩ = some (.int .i64 s.term) ∧ u.cell? ⟨w.heap.size, 2, none⟩ = some (.slice A s.pairs.length c) ∧ u.cell? ⟨w.heap.size, 3, none⟩ = some (.slice B s.sess.length d)) := fun u xs h => st_cells (h.1.blk (kn.blk HA.out (fun h => h)) (by rw [hb, HS1.out]; omega))
  have CE0 : Hid (∀ u, Kept noBlock w1 u → u.cell? ⟨w.heap.size, 0, none⟩ = some (.int .i64 s.index) ∧ u.cell? ⟨w.heap.size, 1, none⟩ = some (.int .i64 s.term)) := fun u k => by
    obtain ⟨a0, a1, _, _⟩ := st_cells (k.blk HA.out (fun h => h))
    exact ⟨a0, a1⟩
  rw [← hb] at p0
  have HB := Lib.hid hb
  have KN := Lib.hid kn
  have p1 := p0.drew
  clear p0 hb kn
  refine wp_region_noPanic ?_
  refine wp_region_held_drew (S := fun u => u.cell? ⟨w.heap.size, 0, none⟩ = some (.int .i64 s.index) ∧ u.cell? ⟨w.heap.size, 1, none⟩ = some (.int .i64 s.term)) (by kernel_rfl) (CE0.out _ (Kept.drew _ _)) (fun hHeld => ?_)
  refine wpAnyH_take (i := 1) (oi := ⟨some 5, Op.fieldAddr 33 (Operand.tmp 1) 0, 0, _, _, none⟩) (v := ?v1n14k1) rfl (by kernel_rfl) (by kernel_rfl) (by kernel_rfl) (fun _ _ _ h => h) (Or.inl ⟨by rfl, ?y1n14k1⟩) hHeld ?z1n14k1
  case y1n14k1 => intro w hSw; (try dsimp only at hSw); go_simp <;> rfl
  try simp only [Act.put, List.setIfInBounds_toArray, List.set_cons_zero, List.set_cons_succ]
  refine wpAnyH_take (i := 2) (oi := ⟨some 6, Op.load 3 (Operand.tmp 5), 3, _, _, none⟩) (v := ?v2n14k2) rfl (by kernel_rfl) (by kernel_rfl) (by kernel_rfl) (fun _ _ _ h => h) (Or.inl ⟨by rfl, ?y2n14k2⟩) hHeld ?z2n14k2
  case y2n14k2 => intro w hSw; (try dsimp only at hSw); go_simp <;> rfl
  try simp only [Act.put, List.setIfInBounds_toArray, List.set_cons_zero, List.set_cons_succ]
  refine wpAnyH_take (i := 4) (oi := ⟨some 8, Op.fieldAddr 33 (Operand.tmp 1) 1, 0, _, _, none⟩) (v := ?v4n14k3) rfl (by kernel_rfl) (by kernel_rfl) (by kernel_rfl) (fun _ _ _ h => h) (Or.inl ⟨by rfl, ?y4n14k3⟩) hHeld ?z4n14k3
  case y4n14k3 => intro w hSw; (try dsimp only at hSw); go_simp <;> rfl
  try simp only [Act.put, List.setIfInBounds_toArray, List.set_cons_zero, List.set_cons_succ]
  refine wpAnyH_take (i := 5) (oi := ⟨some 9, Op.load 3 (Operand.tmp 8), 3, _, _, none⟩) (v := ?v5n14k4) rfl (by kernel_rfl) (by kernel_rfl) (by kernel_rfl) (fun _ _ _ h => h) (Or.inl ⟨by rfl, ?y5n14k4⟩) hHeld ?z5n14k4
  case y5n14k4 => intro w hSw; (try dsimp only at hSw); go_simp <;> rfl
  try simp only [Act.put, List.setIfInBounds_toArray, List.set_cons_zero, List.set_cons_succ]
  refine wpAnyH_ready (rs := [0]) (by kernel_rfl) (by simp) ?_
  refine AllReadyH.cons (o := ⟨some 4, Op.alloc 75, 73, _, _, none⟩) rfl (fun K hK => ?_) AllReadyH.nil
  go_simp
  refine hK.out _ _ (CE0.out _ (KN.out.step (Kept.drew _ _))) (fun hHeld => ?_)
  clear hK K
  try simp only [Act.put, List.setIfInBounds_toArray, List.set_cons_zero, List.set_cons_succ]
  refine wpAnyH_ready (rs := [3]) (by kernel_rfl) (by simp) ?_
  refine AllReadyH.cons (o := ⟨some 7, Op.call { callee := Callee.value (Operand.func 44), args := #[Operand.tmp 4, Operand.tmp 6], argTypes := #[73, 3] }, 73, _, _, none⟩) rfl (fun K hK => ?_) AllReadyH.nil
  go_simp
  rw [← HB.out]
  refine (pen_num p1 _ (by simp)).mono ?_
  rintro e w2 ⟨rfl, p2⟩
  dsimp only
  refine hK.out _ _ ⟨(CE.out _ _ p2).1, (CE.out _ _ p2).2.1⟩ (fun hHeld => ?_)
  clear hK K
  try simp only [Act.put, List.setIfInBounds_toArray, List.set_cons_zero, List.set_cons_succ]
  refine wpAnyH_ready (rs := [6]) (by kernel_rfl) (by simp) ?_
  refine AllReadyH.cons (o := ⟨some 10, Op.call { callee := Callee.value (Operand.func 44), args := #[Operand.tmp 7, Operand.tmp 9], argTypes := #[73, 3] }, 73, _, _, none⟩) rfl (fun K hK => ?_) AllReadyH.nil
  go_simp
  refine (pen_num p2 _ (by simp [be8_length])).mono ?_
  rintro e w3 ⟨rfl, p3⟩
  dsimp only
  refine hK.out _ _ ⟨(CE.out _ _ p3).1, (CE.out _ _ p3).2.1⟩ (fun hHeld => ?_)
  clear hK K
  try simp only [Act.put, List.setIfInBounds_toArray, List.set_cons_zero, List.set_cons_succ]
  refine wpAnyH_take (i := 7) (oi := ⟨some 3, Op.assign (Operand.tmp 10), 73, _, _, none⟩) (v := ?v7n14k5) rfl (by kernel_rfl) (by kernel_rfl) (by kernel_rfl) (fun _ _ _ h => h) (Or.inl ⟨by rfl, ?y7n14k5⟩) hHeld ?z7n14k5
  case y7n14k5 => intro w hSw; (try dsimp only at hSw); go_simp <;> rfl
  try simp only [Act.put, List.setIfInBounds_toArray, List.set_cons_zero, List.set_cons_succ]
  refine wpAnyH_done (by kernel_rfl) ?_ _
  refine NoPanic.normal ?_
  clear hHeld p1 p2
  obtain ⟨c0, c1, c2, c3⟩ := CE.out _ _ p3
  have P3 := Lib.hid p3
  clear p3
  have PUT := Lib.hid (put_any (fun i => i < w.heap.size) (w1.alloc (.cells #[.slice none 0 0] 75)) b ([] ++ be8 s.index ++ be8 s.term) A s.pairs.length c B s.sess.length d s.pairs s.sess w3 P3.out
    (HL1.out.keep (KA.out.step KN.out) (fun _ _ h => h)) (HL2.out.keep (KA.out.step KN.out) (fun _ _ h => h)) (fun i hi e => by have := HB.out; have := HS1.out; omega) rfl rfl hcp hcs (by have := HLEN.out; simp only [List.length_append, be8_length, List.length_nil]; omega))
  go_wp2_with fail
  refine PUT.out.mono ?_
  rintro e w4 ⟨rfl, p4⟩
  have he : [] ++ be8 s.index ++ be8 s.term ++ rowsB s.pairs s.sess = s.bytes := by unfold StV.bytes; simp
  rw [he] at p4
  clear PUT c0 c1 c2 c3 he
  go_wp2_with fail
  refine (pen_bytes p4 n HN.out hx).mono ?_
  rintro e w5 ⟨P, cp, rfl, ho, k5⟩
  have R := Lib.hid ho
  clear ho
  go_wp2
  go_ret
  refine ⟨P, cp, rfl, own_base R.out (fun i hi => ?_), (KA.out.step KN.out).trans k5 (fun i hi h => by have := HB.out; have := KA.out.size; omega)⟩
  have := (R.out.lt i hi).1
  have := (KA.out.step KN.out).size
  omega

/-- Whether two slices have the same bytes. -/
theorem equal_any (F G : Nat → Prop) (a : Option Addr) (n c : Nat) (b : Option Addr) (m d : Nat) (l k : List UInt8) (w : World) (h1 : Lies w F a (l.map bv)) (hl : l.length = n) (h2 : Lies w G b (k.map bv)) (hk : k.length = m) :
    Calls Try.prog 43 #[.slice a n c, .slice b m d] w fun e w' => e = .returned (.bool (decide (l = k))) ∧ w = w' := by
  have CX := run_str_lies (P := Try.prog) 37 9 5 Try.underlying37 Try.underlying5 Try.underlying9 h1 hl c
  have CY := run_str_lies (P := Try.prog) 37 9 5 Try.underlying37 Try.underlying5 Try.underlying9 h2 hk d
  have HQ : Hid ((ByteArray.toList ⟨l.toArray⟩ == ByteArray.toList ⟨k.toArray⟩) = decide (l = k)) := by
    unfold Hid
    have e1 : ByteArray.toList ⟨l.toArray⟩ = l := str_toList l
    have e2 : ByteArray.toList ⟨k.toArray⟩ = k := str_toList k
    rw [e1, e2]
    by_cases h : l = k
    · rw [h]; simp
    · rw [decide_eq_false h]
      exact beq_false_of_ne h
  clear h1 h2
  obtain ⟨X, hX⟩ : ∃ X : ByteArray, X = ⟨l.toArray⟩ := ⟨_, rfl⟩
  obtain ⟨Y, hY⟩ : ∃ Y : ByteArray, Y = ⟨k.toArray⟩ := ⟨_, rfl⟩
  rw [← hX] at CX HQ
  rw [← hY] at CY HQ
  clear hX hY hl hk
  go_enter Try.func43, Try.ntmps43
  go_wp2
  go_ret
  exact ⟨by rw [← HQ.out]; rfl, rfl⟩

set_option maxRecDepth 100000 in
set_option maxHeartbeats 1000000 in
theorem same_any (F G : Nat → Prop) (s t : StV) (A : Option Addr) (c : Nat) (B : Option Addr) (d : Nat) (A' : Option Addr) (c' : Nat) (B' : Option Addr) (d' : Nat) (w : World) (h : Sv w F s A c B d) (h' : Sv w G t A' c' B' d') (hn : s.bytes.length ≤ 140737488355328) (hm : t.bytes.length ≤ 140737488355328) :
    Calls Try.prog 20 #[stv s A c B d, stv t A' c' B' d'] w (Says w (decide (s.bytes = t.bytes))) := by
  have BS := Lib.hid (fun u (k : Kept noBlock w u) => sbytes_any F s A c B d _ u (h.kept k) rfl hn)
  have BT := Lib.hid (fun u (k : Kept noBlock w u) => sbytes_any G t A' c' B' d' _ u (h'.kept k) rfl hm)
  obtain ⟨w1, hw1⟩ : ∃ w1, w1 = (w.alloc (.cells #[.int .i64 s.index, .int .i64 s.term, .slice A s.pairs.length c, .slice B s.sess.length d] 33)).alloc (.cells #[.int .i64 t.index, .int .i64 t.term, .slice A' t.pairs.length c', .slice B' t.sess.length d'] 33) := ⟨_, rfl⟩
  have k1 : Kept noBlock w w1 := by rw [hw1]; exact (Kept.alloc _ _ _).step (Kept.alloc _ _ _)
  have hs : w1.heap[w.heap.size]? = some (.cells #[.int .i64 s.index, .int .i64 s.term, .slice A s.pairs.length c, .slice B s.sess.length d] 33 (0, 0)) := by rw [hw1]; exact (Kept.alloc noBlock _ _).blk (heap_alloc_new w _) (fun h => h)
  have ht : w1.heap[w.heap.size + 1]? = some (.cells #[.int .i64 t.index, .int .i64 t.term, .slice A' t.pairs.length c', .slice B' t.sess.length d'] 33 (0, 0)) := by
    rw [hw1]
    have := heap_alloc_new (w.alloc (.cells #[.int .i64 s.index, .int .i64 s.term, .slice A s.pairs.length c, .slice B s.sess.length d] 33)) (.cells #[.int .i64 t.index, .int .i64 t.term, .slice A' t.pairs.length c', .slice B' t.sess.length d'] 33)
    simpa using this
  obtain ⟨X, hX⟩ : ∃ X, X = s.bytes := ⟨_, rfl⟩
  obtain ⟨Y, hY⟩ : ∃ Y, Y = t.bytes := ⟨_, rfl⟩
  rw [← hX] at BS ⊢
  rw [← hY] at BT ⊢
  obtain ⟨n, hnn⟩ : ∃ n, X.length = n := ⟨_, rfl⟩
  obtain ⟨m, hmm⟩ : ∃ m, Y.length = m := ⟨_, rfl⟩
  simp only [hnn] at BS
  simp only [hmm] at BT
  have K1 := Lib.hid k1
  have HS := Lib.hid hs
  have HT := Lib.hid ht
  have HN := Lib.hid hnn
  have HM := Lib.hid hmm
  have CE : Hid (∀ u, Kept noBlock w1 u → (u.cell? ⟨w.heap.size, 0, none⟩ = some (.int .i64 s.index) ∧ u.cell? ⟨w.heap.size, 1, none⟩ = some (.int .i64 s.term) ∧ u.cell? ⟨w.heap.size, 2, none⟩ = some (.slice A s.pairs.length c) ∧ u.cell? ⟨w.heap.size, 3, none⟩ = some (.slice B s.sess.length d)) ∧
      (u.cell? ⟨w.heap.size + 1, 0, none⟩ = some (.int .i64 t.index) ∧ u.cell? ⟨w.heap.size + 1, 1, none⟩ = some (.int .i64 t.term) ∧ u.cell? ⟨w.heap.size + 1, 2, none⟩ = some (.slice A' t.pairs.length c') ∧ u.cell? ⟨w.heap.size + 1, 3, none⟩ = some (.slice B' t.sess.length d'))) := fun u k => ⟨st_cells (k.blk hs (fun h => h)), st_cells (k.blk ht (fun h => h))⟩
  clear k1 hs ht hX hY hnn hmm h h' hn hm
  unfold stv at *
  go_enter Try.func20, Try.ntmps20
  go_upto_region 1 with (fail)
  rw [← hw1]
  clear hw1
  refine wp_region_noPanic ?_
  refine wp_region_held_drew (S := fun u => (u.cell? ⟨w.heap.size, 0, none⟩ = some (.int .i64 s.index) ∧ u.cell? ⟨w.heap.size, 1, none⟩ = some (.int .i64 s.term) ∧ u.cell? ⟨w.heap.size, 2, none⟩ = some (.slice A s.pairs.length c) ∧ u.cell? ⟨w.heap.size, 3, none⟩ = some (.slice B s.sess.length d)) ∧ (u.cell? ⟨w.heap.size + 1, 0, none⟩ = some (.int .i64 t.index) ∧ u.cell? ⟨w.heap.size + 1, 1, none⟩ = some (.int .i64 t.term) ∧ u.cell? ⟨w.heap.size + 1, 2, none⟩ = some (.slice A' t.pairs.length c') ∧ u.cell? ⟨w.heap.size + 1, 3, none⟩ = some (.slice B' t.sess.length d'))) (by kernel_rfl) (CE.out _ (Kept.drew _ _)) (fun hHeld => ?_)
  refine wpAnyH_take (i := 0) (oi := ⟨some 5, Op.load 33 (Operand.tmp 2), 33, _, _, none⟩) (v := ?v0n15k1) rfl (by kernel_rfl) (by kernel_rfl) (by kernel_rfl) (fun _ _ _ h => h) (Or.inl ⟨by rfl, ?y0n15k1⟩) hHeld ?z0n15k1
  case y0n15k1 => intro w hSw; (try dsimp only at hSw); go_simp <;> rfl
  try simp only [Act.put, List.setIfInBounds_toArray, List.set_cons_zero, List.set_cons_succ]
  refine wpAnyH_take (i := 2) (oi := ⟨some 7, Op.load 33 (Operand.tmp 3), 33, _, _, none⟩) (v := ?v2n15k2) rfl (by kernel_rfl) (by kernel_rfl) (by kernel_rfl) (fun _ _ _ h => h) (Or.inl ⟨by rfl, ?y2n15k2⟩) hHeld ?z2n15k2
  case y2n15k2 => intro w hSw; (try dsimp only at hSw); go_simp <;> rfl
  try simp only [Act.put, List.setIfInBounds_toArray, List.set_cons_zero, List.set_cons_succ]
  refine wpAnyH_ready (rs := [1]) (by kernel_rfl) (by simp) ?_
  refine AllReadyH.cons (o := ⟨some 6, Op.call { callee := Callee.value (Operand.func 23), args := #[Operand.tmp 5], argTypes := #[33] }, 37, _, _, none⟩) rfl (fun K hK => ?_) AllReadyH.nil
  go_simp
  refine (BS.out _ (K1.out.step (Kept.drew _ _))).mono ?_
  rintro e w2 ⟨P, cp, rfl, o2, k2⟩
  have K2 := Lib.hid ((Kept.drew noBlock w1).step k2)
  have L2 := Lib.hid (Lies.of_own (F := fun _ => True) o2 (fun _ _ => trivial))
  clear o2 k2
  dsimp only
  refine hK.out _ _ (CE.out _ K2.out) (fun hHeld => ?_)
  clear hK K
  try simp only [Act.put, List.setIfInBounds_toArray, List.set_cons_zero, List.set_cons_succ]
  refine wpAnyH_ready (rs := [3]) (by kernel_rfl) (by simp) ?_
  refine AllReadyH.cons (o := ⟨some 8, Op.call { callee := Callee.value (Operand.func 23), args := #[Operand.tmp 7], argTypes := #[33] }, 37, _, _, none⟩) rfl (fun K hK => ?_) AllReadyH.nil
  go_simp
  refine (BT.out _ (K1.out.step K2.out)).mono ?_
  rintro e w3 ⟨P', cp', rfl, o3, k3⟩
  have K3 := Lib.hid (K2.out.step k3)
  have L3 := Lib.hid (Lies.of_own (F := fun _ => True) o3 (fun _ _ => trivial))
  have L2' := Lib.hid (L2.out.keep k3 (fun _ _ h => h))
  clear o3 k3
  dsimp only
  refine hK.out _ _ (CE.out _ K3.out) (fun hHeld => ?_)
  clear hK K
  try simp only [Act.put, List.setIfInBounds_toArray, List.set_cons_zero, List.set_cons_succ]
  refine wpAnyH_ready (rs := [4]) (by kernel_rfl) (by simp) ?_
  refine AllReadyH.cons (o := ⟨some 9, Op.call { callee := Callee.value (Operand.func 43), args := #[Operand.tmp 6, Operand.tmp 8], argTypes := #[37, 37] }, 4, _, _, none⟩) rfl (fun K hK => ?_) AllReadyH.nil
  go_simp
  refine (equal_any _ _ _ _ _ _ _ _ X Y _ L2'.out HN.out L3.out HM.out).mono ?_
  rintro e w4 ⟨rfl, rfl⟩
  dsimp only
  refine hK.out _ _ (CE.out _ K3.out) (fun hHeld => ?_)
  clear hK K
  try simp only [Act.put, List.setIfInBounds_toArray, List.set_cons_zero, List.set_cons_succ]
  refine wpAnyH_take (i := 5) (oi := ⟨some 4, Op.assign (Operand.tmp 9), 4, _, _, none⟩) (v := ?v5n15k3) rfl (by kernel_rfl) (by kernel_rfl) (by kernel_rfl) (fun _ _ _ h => h) (Or.inl ⟨by rfl, ?y5n15k3⟩) hHeld ?z5n15k3
  case y5n15k3 => intro w hSw; (try dsimp only at hSw); go_simp <;> rfl
  try simp only [Act.put, List.setIfInBounds_toArray, List.set_cons_zero, List.set_cons_succ]
  refine wpAnyH_done (by kernel_rfl) ?_ _
  refine NoPanic.normal ?_
  go_wp2
  go_ret
  exact ⟨rfl, K1.out.step K3.out⟩
end Go.Proofs.Ytgmjnjbmolalmaa
