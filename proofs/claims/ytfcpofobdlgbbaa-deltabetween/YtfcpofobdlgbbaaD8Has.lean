/-
  The contract of has: whether a state has a pair. No statement is proved here.
-/
import Derived.Test.YtfcpofobdlgbbaaLawK
import Derived.Test.YtfcpofobdlgbbaaDltK
namespace Go.Proofs.Ytfcpofobdlgbbaa
open Go.RowKit Tot

theorem get_is {s : StV} (hs : s.Right) (k v : ByteArray) : getV s.pairs k = ⟨0, v⟩ ↔ Srt.look s.pairs k = some (v, false) := by
  unfold getV
  cases hl : Srt.look s.pairs k with
  | none => simp [told]
  | some u =>
    have := hs.here.look hl
    obtain ⟨u1, u2⟩ := u
    simp only at this
    subst this
    simp

set_option maxRecDepth 100000 in
set_option maxHeartbeats 1000000 in
theorem has_any (F : Nat → Prop) (s : StV) (A : Option Addr) (c : Nat) (B : Option Addr) (d : Nat) (k v : ByteArray) (g : Bool) (w : World) (h : Sv w F s A c B d) (hs : s.Right) :
    Calls Try.prog 26 #[stv s A c B d, .agg #[.string k, .string v, .bool g]] w (Says w (decide (g = false ∧ Srt.look s.pairs k = some (v, false)))) := by
  obtain ⟨w1, hw1⟩ : ∃ w1, w1 = (w.alloc (.cells #[.int .i64 s.index, .int .i64 s.term, .slice A s.pairs.length c, .slice B s.sess.length d] 27)).alloc (.cells #[.string k, .string v, .bool g] 39) := ⟨_, rfl⟩
  have k1 : Kept noBlock w w1 := by rw [hw1]; exact (Kept.alloc _ _ _).step (Kept.alloc _ _ _)
  have hb : w1.heap[w.heap.size]? = some (.cells #[.int .i64 s.index, .int .i64 s.term, .slice A s.pairs.length c, .slice B s.sess.length d] 27 (0, 0)) := by rw [hw1]; exact (Kept.alloc noBlock _ _).blk (heap_alloc_new w _) (fun h => h)
  have hp : w1.heap[w.heap.size + 1]? = some (.cells #[.string k, .string v, .bool g] 39 (0, 0)) := by
    rw [hw1]
    exact heap_alloc_at (by simp)
  have GET := Lib.hid (fun u (ku : Kept noBlock w u) => get_any F s A c B d k u (h.kept ku) hs)
  have GI := Lib.hid (get_is hs k v)
  obtain ⟨r, hr⟩ : ∃ r, r = getV s.pairs k := ⟨_, rfl⟩
  rw [← hr] at GET GI
  obtain ⟨re, rv⟩ := r
  unfold stv at *
  unfold RepV.val at GET
  simp only at GET
  have K1 := Lib.hid k1
  have CE : Hid (∀ u, Kept noBlock w1 u → (u.cell? ⟨w.heap.size, 0, none⟩ = some (.int .i64 s.index) ∧ u.cell? ⟨w.heap.size, 1, none⟩ = some (.int .i64 s.term) ∧ u.cell? ⟨w.heap.size, 2, none⟩ = some (.slice A s.pairs.length c) ∧ u.cell? ⟨w.heap.size, 3, none⟩ = some (.slice B s.sess.length d)) ∧
      (u.cell? ⟨w.heap.size + 1, 0, none⟩ = some (.string k) ∧ u.cell? ⟨w.heap.size + 1, 1, none⟩ = some (.string v) ∧ u.cell? ⟨w.heap.size + 1, 2, none⟩ = some (.bool g))) := fun u ku => ⟨st_cells (ku.blk hb (fun h => h)), cell_of_row _ _ _ _ _ _ (ku.blk hp (fun h => h)), cell_of_row _ _ _ _ _ _ (ku.blk hp (fun h => h)), cell_of_row _ _ _ _ _ _ (ku.blk hp (fun h => h))⟩
  obtain ⟨res, hres⟩ : ∃ res, res = decide (g = false ∧ Srt.look s.pairs k = some (v, false)) := ⟨_, rfl⟩
  rw [← hres]
  have HRES := Lib.hid hres
  clear k1 hb hp h hs hr hres
  go_enter Try.func26, Try.ntmps26
  go_upto_region 1 with (fail)
  rw [← hw1]
  clear hw1
  cases g with
  | true =>
    have HD : Hid (false = res) := Lib.hid (by rw [HRES.out]; simp)
    clear GI GET HRES
    refine wp_region_noPanic ?_
    refine wp_region_held_drew (S := fun u => (u.cell? ⟨w.heap.size, 0, none⟩ = some (.int .i64 s.index) ∧ u.cell? ⟨w.heap.size, 1, none⟩ = some (.int .i64 s.term) ∧ u.cell? ⟨w.heap.size, 2, none⟩ = some (.slice A s.pairs.length c) ∧ u.cell? ⟨w.heap.size, 3, none⟩ = some (.slice B s.sess.length d)) ∧ (u.cell? ⟨w.heap.size + 1, 0, none⟩ = some (.string k) ∧ u.cell? ⟨w.heap.size + 1, 1, none⟩ = some (.string v) ∧ u.cell? ⟨w.heap.size + 1, 2, none⟩ = some (.bool true))) (by kernel_rfl) (CE.out _ (Kept.drew _ _)) (fun hHeld => ?_)
    refine wpAnyH_take (i := 0) (oi := ⟨some 5, Op.fieldAddr 39 (Operand.tmp 3) 2, 0, _, _, none⟩) (v := ?v0n17k1) rfl (by kernel_rfl) (by kernel_rfl) (by kernel_rfl) (fun _ _ _ h => h) (Or.inl ⟨by rfl, ?y0n17k1⟩) hHeld ?z0n17k1
    case y0n17k1 => intro w hSw; (try dsimp only at hSw); go_simp <;> rfl
    try simp only [Act.put, List.setIfInBounds_toArray, List.set_cons_zero, List.set_cons_succ]
    refine wpAnyH_take (i := 1) (oi := ⟨some 6, Op.load 4 (Operand.tmp 5), 4, _, _, none⟩) (v := ?v1n17k2) rfl (by kernel_rfl) (by kernel_rfl) (by kernel_rfl) (fun _ _ _ h => h) (Or.inl ⟨by rfl, ?y1n17k2⟩) hHeld ?z1n17k2
    case y1n17k2 => intro w hSw; (try dsimp only at hSw); go_simp <;> rfl
    try simp only [Act.put, List.setIfInBounds_toArray, List.set_cons_zero, List.set_cons_succ]
    refine wpAnyH_take (i := 2) (oi := ⟨some 7, Op.unOp UnOp.not 4 (Operand.tmp 6), 4, _, _, none⟩) (v := ?v2n17k3) rfl (by kernel_rfl) (by kernel_rfl) (by kernel_rfl) (fun _ _ _ h => h) (Or.inl ⟨by rfl, ?y2n17k3⟩) hHeld ?z2n17k3
    case y2n17k3 => intro w hSw; (try dsimp only at hSw); go_simp <;> rfl
    try simp only [Act.put, List.setIfInBounds_toArray, List.set_cons_zero, List.set_cons_succ]
    refine wpAnyH_take (i := 3) (oi := ⟨some 8, Op.move (Operand.tmp 7), 4, _, _, none⟩) (v := ?v3n17k4) rfl (by kernel_rfl) (by kernel_rfl) (by kernel_rfl) (fun _ _ _ h => h) (Or.inl ⟨by rfl, ?y3n17k4⟩) hHeld ?z3n17k4
    case y3n17k4 => intro w hSw; (try dsimp only at hSw); go_simp <;> rfl
    try simp only [Act.put, List.setIfInBounds_toArray, List.set_cons_zero, List.set_cons_succ]
    refine wpAnyH_take (i := 4) (oi := ⟨some 9, Op.load 27 (Operand.tmp 2), 27, _, _, some (3, true)⟩) (v := undef) rfl (by kernel_rfl) (by kernel_rfl) (by kernel_rfl) (fun _ _ _ h => h) (Or.inr ⟨by rfl, rfl⟩) hHeld ?z4n17k5
    try simp only [Act.put, List.setIfInBounds_toArray, List.set_cons_zero, List.set_cons_succ]
    refine wpAnyH_take (i := 5) (oi := ⟨some 10, Op.fieldAddr 39 (Operand.tmp 3) 0, 0, _, _, some (3, true)⟩) (v := undef) rfl (by kernel_rfl) (by kernel_rfl) (by kernel_rfl) (fun _ _ _ h => h) (Or.inr ⟨by rfl, rfl⟩) hHeld ?z5n17k6
    try simp only [Act.put, List.setIfInBounds_toArray, List.set_cons_zero, List.set_cons_succ]
    refine wpAnyH_take (i := 6) (oi := ⟨some 11, Op.load 9 (Operand.tmp 10), 9, _, _, some (3, true)⟩) (v := undef) rfl (by kernel_rfl) (by kernel_rfl) (by kernel_rfl) (fun _ _ _ h => h) (Or.inr ⟨by rfl, rfl⟩) hHeld ?z6n17k7
    try simp only [Act.put, List.setIfInBounds_toArray, List.set_cons_zero, List.set_cons_succ]
    refine wpAnyH_take (i := 7) (oi := ⟨some 12, Op.call { callee := Callee.value (Operand.func 41), args := #[Operand.tmp 9, Operand.tmp 11], argTypes := #[27, 9] }, 58, _, _, some (3, true)⟩) (v := undef) rfl (by kernel_rfl) (by kernel_rfl) (by kernel_rfl) (fun _ _ _ h => h) (Or.inr ⟨by rfl, rfl⟩) hHeld ?z7n17k8
    try simp only [Act.put, List.setIfInBounds_toArray, List.set_cons_zero, List.set_cons_succ]
    refine wpAnyH_take (i := 8) (oi := ⟨some 13, Op.fieldAddr 39 (Operand.tmp 3) 1, 0, _, _, some (3, true)⟩) (v := undef) rfl (by kernel_rfl) (by kernel_rfl) (by kernel_rfl) (fun _ _ _ h => h) (Or.inr ⟨by rfl, rfl⟩) hHeld ?z8n17k9
    try simp only [Act.put, List.setIfInBounds_toArray, List.set_cons_zero, List.set_cons_succ]
    refine wpAnyH_take (i := 9) (oi := ⟨some 14, Op.load 9 (Operand.tmp 13), 9, _, _, some (3, true)⟩) (v := undef) rfl (by kernel_rfl) (by kernel_rfl) (by kernel_rfl) (fun _ _ _ h => h) (Or.inr ⟨by rfl, rfl⟩) hHeld ?z9n17k10
    try simp only [Act.put, List.setIfInBounds_toArray, List.set_cons_zero, List.set_cons_succ]
    refine wpAnyH_take (i := 10) (oi := ⟨some 15, Op.build 58 #[(1, Operand.tmp 14)], 58, _, _, some (3, true)⟩) (v := undef) rfl (by kernel_rfl) (by kernel_rfl) (by kernel_rfl) (fun _ _ _ h => h) (Or.inr ⟨by rfl, rfl⟩) hHeld ?z10n17k11
    try simp only [Act.put, List.setIfInBounds_toArray, List.set_cons_zero, List.set_cons_succ]
    refine wpAnyH_take (i := 11) (oi := ⟨some 16, Op.binOp BinOp.eql 58 (Operand.tmp 12) (Operand.tmp 15) 58, 4, _, _, some (3, true)⟩) (v := undef) rfl (by kernel_rfl) (by kernel_rfl) (by kernel_rfl) (fun _ _ _ h => h) (Or.inr ⟨by rfl, rfl⟩) hHeld ?z11n17k12
    try simp only [Act.put, List.setIfInBounds_toArray, List.set_cons_zero, List.set_cons_succ]
    refine wpAnyH_take (i := 12) (oi := ⟨some 17, Op.pick (Operand.tmp 8) (Operand.tmp 16) (Operand.const (Value.bool false)), 4, _, _, none⟩) (v := ?v12n17k13) rfl (by kernel_rfl) (by kernel_rfl) (by kernel_rfl) (fun _ _ _ h => h) (Or.inl ⟨by rfl, ?y12n17k13⟩) hHeld ?z12n17k13
    case y12n17k13 => intro w hSw; (try dsimp only at hSw); go_simp <;> rfl
    try simp only [Act.put, List.setIfInBounds_toArray, List.set_cons_zero, List.set_cons_succ]
    refine wpAnyH_take (i := 13) (oi := ⟨some 4, Op.assign (Operand.tmp 17), 4, _, _, none⟩) (v := ?v13n17k14) rfl (by kernel_rfl) (by kernel_rfl) (by kernel_rfl) (fun _ _ _ h => h) (Or.inl ⟨by rfl, ?y13n17k14⟩) hHeld ?z13n17k14
    case y13n17k14 => intro w hSw; (try dsimp only at hSw); go_simp <;> rfl
    try simp only [Act.put, List.setIfInBounds_toArray, List.set_cons_zero, List.set_cons_succ]
    refine wpAnyH_done (by kernel_rfl) ?_ _
    refine NoPanic.normal ?_
    go_wp2
    go_ret
    exact ⟨by have h := HD.out; subst h; rfl, K1.out.step (Kept.drew _ _)⟩
  | false =>
    have EQ : Hid (RepV.same ⟨re, rv⟩ ⟨0, v⟩ = res) := by
      unfold Hid
      rw [HRES.out, Bool.eq_iff_iff, RepV.same_iff, GI.out]
      simp
    have RE : ∀ u, (binOp .eql 58 (.agg #[.int .i64 re, .string rv]) (.agg #[.int .i64 0, .string v])).run Try.prog u = .ok (.bool (RepV.same ⟨re, rv⟩ ⟨0, v⟩)) u := fun u => rep_eql u ⟨re, rv⟩ ⟨0, v⟩
    rw [EQ.out] at RE
    clear GI EQ HRES
    refine wp_region_noPanic ?_
    refine wp_region_held_drew (S := fun u => (u.cell? ⟨w.heap.size, 0, none⟩ = some (.int .i64 s.index) ∧ u.cell? ⟨w.heap.size, 1, none⟩ = some (.int .i64 s.term) ∧ u.cell? ⟨w.heap.size, 2, none⟩ = some (.slice A s.pairs.length c) ∧ u.cell? ⟨w.heap.size, 3, none⟩ = some (.slice B s.sess.length d)) ∧ (u.cell? ⟨w.heap.size + 1, 0, none⟩ = some (.string k) ∧ u.cell? ⟨w.heap.size + 1, 1, none⟩ = some (.string v) ∧ u.cell? ⟨w.heap.size + 1, 2, none⟩ = some (.bool false))) (by kernel_rfl) (CE.out _ (Kept.drew _ _)) (fun hHeld => ?_)
    refine wpAnyH_take (i := 0) (oi := ⟨some 5, Op.fieldAddr 39 (Operand.tmp 3) 2, 0, _, _, none⟩) (v := ?v0n18k1) rfl (by kernel_rfl) (by kernel_rfl) (by kernel_rfl) (fun _ _ _ h => h) (Or.inl ⟨by rfl, ?y0n18k1⟩) hHeld ?z0n18k1
    case y0n18k1 => intro w hSw; (try dsimp only at hSw); go_simp <;> rfl
    try simp only [Act.put, List.setIfInBounds_toArray, List.set_cons_zero, List.set_cons_succ]
    refine wpAnyH_take (i := 1) (oi := ⟨some 6, Op.load 4 (Operand.tmp 5), 4, _, _, none⟩) (v := ?v1n18k2) rfl (by kernel_rfl) (by kernel_rfl) (by kernel_rfl) (fun _ _ _ h => h) (Or.inl ⟨by rfl, ?y1n18k2⟩) hHeld ?z1n18k2
    case y1n18k2 => intro w hSw; (try dsimp only at hSw); go_simp <;> rfl
    try simp only [Act.put, List.setIfInBounds_toArray, List.set_cons_zero, List.set_cons_succ]
    refine wpAnyH_take (i := 2) (oi := ⟨some 7, Op.unOp UnOp.not 4 (Operand.tmp 6), 4, _, _, none⟩) (v := ?v2n18k3) rfl (by kernel_rfl) (by kernel_rfl) (by kernel_rfl) (fun _ _ _ h => h) (Or.inl ⟨by rfl, ?y2n18k3⟩) hHeld ?z2n18k3
    case y2n18k3 => intro w hSw; (try dsimp only at hSw); go_simp <;> rfl
    try simp only [Act.put, List.setIfInBounds_toArray, List.set_cons_zero, List.set_cons_succ]
    refine wpAnyH_take (i := 3) (oi := ⟨some 8, Op.move (Operand.tmp 7), 4, _, _, none⟩) (v := ?v3n18k4) rfl (by kernel_rfl) (by kernel_rfl) (by kernel_rfl) (fun _ _ _ h => h) (Or.inl ⟨by rfl, ?y3n18k4⟩) hHeld ?z3n18k4
    case y3n18k4 => intro w hSw; (try dsimp only at hSw); go_simp <;> rfl
    try simp only [Act.put, List.setIfInBounds_toArray, List.set_cons_zero, List.set_cons_succ]
    refine wpAnyH_take (i := 4) (oi := ⟨some 9, Op.load 27 (Operand.tmp 2), 27, _, _, some (3, true)⟩) (v := ?v4n18k5) rfl (by kernel_rfl) (by kernel_rfl) (by kernel_rfl) (fun _ _ _ h => h) (Or.inl ⟨by rfl, ?y4n18k5⟩) hHeld ?z4n18k5
    case y4n18k5 => intro w hSw; (try dsimp only at hSw); go_simp <;> rfl
    try simp only [Act.put, List.setIfInBounds_toArray, List.set_cons_zero, List.set_cons_succ]
    refine wpAnyH_take (i := 5) (oi := ⟨some 10, Op.fieldAddr 39 (Operand.tmp 3) 0, 0, _, _, some (3, true)⟩) (v := ?v5n18k6) rfl (by kernel_rfl) (by kernel_rfl) (by kernel_rfl) (fun _ _ _ h => h) (Or.inl ⟨by rfl, ?y5n18k6⟩) hHeld ?z5n18k6
    case y5n18k6 => intro w hSw; (try dsimp only at hSw); go_simp <;> rfl
    try simp only [Act.put, List.setIfInBounds_toArray, List.set_cons_zero, List.set_cons_succ]
    refine wpAnyH_take (i := 6) (oi := ⟨some 11, Op.load 9 (Operand.tmp 10), 9, _, _, some (3, true)⟩) (v := ?v6n18k7) rfl (by kernel_rfl) (by kernel_rfl) (by kernel_rfl) (fun _ _ _ h => h) (Or.inl ⟨by rfl, ?y6n18k7⟩) hHeld ?z6n18k7
    case y6n18k7 => intro w hSw; (try dsimp only at hSw); go_simp <;> rfl
    try simp only [Act.put, List.setIfInBounds_toArray, List.set_cons_zero, List.set_cons_succ]
    refine wpAnyH_take (i := 8) (oi := ⟨some 13, Op.fieldAddr 39 (Operand.tmp 3) 1, 0, _, _, some (3, true)⟩) (v := ?v8n18k8) rfl (by kernel_rfl) (by kernel_rfl) (by kernel_rfl) (fun _ _ _ h => h) (Or.inl ⟨by rfl, ?y8n18k8⟩) hHeld ?z8n18k8
    case y8n18k8 => intro w hSw; (try dsimp only at hSw); go_simp <;> rfl
    try simp only [Act.put, List.setIfInBounds_toArray, List.set_cons_zero, List.set_cons_succ]
    refine wpAnyH_take (i := 9) (oi := ⟨some 14, Op.load 9 (Operand.tmp 13), 9, _, _, some (3, true)⟩) (v := ?v9n18k9) rfl (by kernel_rfl) (by kernel_rfl) (by kernel_rfl) (fun _ _ _ h => h) (Or.inl ⟨by rfl, ?y9n18k9⟩) hHeld ?z9n18k9
    case y9n18k9 => intro w hSw; (try dsimp only at hSw); go_simp <;> rfl
    try simp only [Act.put, List.setIfInBounds_toArray, List.set_cons_zero, List.set_cons_succ]
    refine wpAnyH_take (i := 10) (oi := ⟨some 15, Op.build 58 #[(1, Operand.tmp 14)], 58, _, _, some (3, true)⟩) (v := ?v10n18k10) rfl (by kernel_rfl) (by kernel_rfl) (by kernel_rfl) (fun _ _ _ h => h) (Or.inl ⟨by rfl, ?y10n18k10⟩) hHeld ?z10n18k10
    case y10n18k10 => intro w hSw; (try dsimp only at hSw); go_simp <;> rfl
    try simp only [Act.put, List.setIfInBounds_toArray, List.set_cons_zero, List.set_cons_succ]
    refine wpAnyH_ready (rs := [7]) (by kernel_rfl) (by simp) ?_
    refine AllReadyH.cons (o := ⟨some 12, Op.call { callee := Callee.value (Operand.func 41), args := #[Operand.tmp 9, Operand.tmp 11], argTypes := #[27, 9] }, 58, _, _, some (3, true)⟩) rfl (fun K hK => ?_) AllReadyH.nil
    go_simp
    refine (GET.out _ (K1.out.step (Kept.drew _ _))).mono ?_
    rintro e w2 ⟨rfl, k2⟩
    have K2 := Lib.hid ((Kept.drew noBlock w1).step k2)
    clear k2
    dsimp only
    refine hK.out _ _ (CE.out _ K2.out) (fun hHeld => ?_)
    clear hK K
    try simp only [Act.put, List.setIfInBounds_toArray, List.set_cons_zero, List.set_cons_succ]
    refine wpAnyH_take (i := 11) (oi := ⟨some 16, Op.binOp BinOp.eql 58 (Operand.tmp 12) (Operand.tmp 15) 58, 4, _, _, some (3, true)⟩) (v := ?v11n18k11) rfl (by kernel_rfl) (by kernel_rfl) (by kernel_rfl) (fun _ _ _ h => h) (Or.inl ⟨by rfl, ?y11n18k11⟩) hHeld ?z11n18k11
    case y11n18k11 => intro w hSw; (try dsimp only at hSw); go_simp <;> rfl
    try simp only [Act.put, List.setIfInBounds_toArray, List.set_cons_zero, List.set_cons_succ]
    refine wpAnyH_take (i := 12) (oi := ⟨some 17, Op.pick (Operand.tmp 8) (Operand.tmp 16) (Operand.const (Value.bool false)), 4, _, _, none⟩) (v := ?v12n18k12) rfl (by kernel_rfl) (by kernel_rfl) (by kernel_rfl) (fun _ _ _ h => h) (Or.inl ⟨by rfl, ?y12n18k12⟩) hHeld ?z12n18k12
    case y12n18k12 => intro w hSw; (try dsimp only at hSw); go_simp <;> rfl
    try simp only [Act.put, List.setIfInBounds_toArray, List.set_cons_zero, List.set_cons_succ]
    refine wpAnyH_take (i := 13) (oi := ⟨some 4, Op.assign (Operand.tmp 17), 4, _, _, none⟩) (v := ?v13n18k13) rfl (by kernel_rfl) (by kernel_rfl) (by kernel_rfl) (fun _ _ _ h => h) (Or.inl ⟨by rfl, ?y13n18k13⟩) hHeld ?z13n18k13
    case y13n18k13 => intro w hSw; (try dsimp only at hSw); go_simp <;> rfl
    try simp only [Act.put, List.setIfInBounds_toArray, List.set_cons_zero, List.set_cons_succ]
    refine wpAnyH_done (by kernel_rfl) ?_ _
    refine NoPanic.normal ?_
    go_wp2
    go_ret
    exact ⟨rfl, K1.out.step K2.out⟩
end Go.Proofs.Ytfcpofobdlgbbaa
