/-
  The contract of has: whether a state has a pair. No statement is proved here.
-/
import Derived.Test.YthmjjhjblokjeaaGreatLawK
import Derived.Test.YthmjjhjblokjeaaGreatDltK
namespace Go.Proofs.YthmjjhjblokjeaaGreat
open Go.RowKit Tot

theorem get_is {s : StV} (hs : s.Right) (k v : ByteArray) : getV s.pairs k = ⟨0, v⟩ ↔ Srt.look s.pairs k = some (v, false) := by
  unfold getV
  cases hl : Srt.look s.pairs k with
  | none => simp [told]
  | some u =>
    have := hs.here.look hl
    obtain ⟨u1, u2⟩ := u
    simp only at this
    subst this
    simp

set_option maxRecDepth 100000 in
set_option maxHeartbeats 1000000 in
theorem has_any (F : Nat → Prop) (s : StV) (A : Option Addr) (c : Nat) (B : Option Addr) (d : Nat) (k v : ByteArray) (g : Bool) (w : World) (h : Sv w F s A c B d) (hs : s.Right) :
    Calls Tryz.prog 24 #[stv s A c B d, .agg #[.string k, .string v, .bool g]] w (Says w (decide (g = false ∧ Srt.look s.pairs k = some (v, false)))) := by
  obtain ⟨w1, hw1⟩ : ∃ w1, w1 = (w.alloc (.cells #[.int .i64 s.index, .int .i64 s.term, .slice A s.pairs.length c, .slice B s.sess.length d] 27)).alloc (.cells #[.string k, .string v, .bool g] 68) := ⟨_, rfl⟩
  have k1 : Kept noBlock w w1 := by rw [hw1]; exact (Kept.alloc _ _ _).step (Kept.alloc _ _ _)
  have hb : w1.heap[w.heap.size]? = some (.cells #[.int .i64 s.index, .int .i64 s.term, .slice A s.pairs.length c, .slice B s.sess.length d] 27 (0, 0)) := by rw [hw1]; exact (Kept.alloc noBlock _ _).blk (heap_alloc_new w _) (fun h => h)
  have hp : w1.heap[w.heap.size + 1]? = some (.cells #[.string k, .string v, .bool g] 68 (0, 0)) := by
    rw [hw1]
    exact heap_alloc_at (by simp)
  have GET := Lib.hid (fun u (ku : Kept noBlock w u) => get_any F s A c B d k u (h.kept ku) hs)
  have GI := Lib.hid (get_is hs k v)
  obtain ⟨r, hr⟩ : ∃ r, r = getV s.pairs k := ⟨_, rfl⟩
  rw [← hr] at GET GI
  obtain ⟨re, rv⟩ := r
  unfold stv at *
  unfold RepV.val at GET
  simp only at GET
  have K1 := Lib.hid k1
  have CE : Hid (∀ u, Kept noBlock w1 u → (u.cell? ⟨w.heap.size, 0, none⟩ = some (.int .i64 s.index) ∧ u.cell? ⟨w.heap.size, 1, none⟩ = some (.int .i64 s.term) ∧ u.cell? ⟨w.heap.size, 2, none⟩ = some (.slice A s.pairs.length c) ∧ u.cell? ⟨w.heap.size, 3, none⟩ = some (.slice B s.sess.length d)) ∧
      (u.cell? ⟨w.heap.size + 1, 0, none⟩ = some (.string k) ∧ u.cell? ⟨w.heap.size + 1, 1, none⟩ = some (.string v) ∧ u.cell? ⟨w.heap.size + 1, 2, none⟩ = some (.bool g))) := fun u ku => ⟨st_cells (ku.blk hb (fun h => h)), cell_of_row _ _ _ _ _ _ (ku.blk hp (fun h => h)), cell_of_row _ _ _ _ _ _ (ku.blk hp (fun h => h)), cell_of_row _ _ _ _ _ _ (ku.blk hp (fun h => h))⟩
  obtain ⟨res, hres⟩ : ∃ res, res = decide (g = false ∧ Srt.look s.pairs k = some (v, false)) := ⟨_, rfl⟩
  rw [← hres]
  have HRES := Lib.hid hres
  clear k1 hb hp h hs hr hres
  go_enter Tryz.func24, Tryz.ntmps24
  go_upto_region 1 with (fail)
  rw [← hw1]
  clear hw1
  cases g with
  | true =>
    have HD : Hid (false = res) := Lib.hid (by rw [HRES.out]; simp)
    clear GI GET HRES
    refine wp_region_noPanic ?_
    refine wp_region_held_drew (S := fun u => (u.cell? ⟨w.heap.size, 0, none⟩ = some (.int .i64 s.index) ∧ u.cell? ⟨w.heap.size, 1, none⟩ = some (.int .i64 s.term) ∧ u.cell? ⟨w.heap.size, 2, none⟩ = some (.slice A s.pairs.length c) ∧ u.cell? ⟨w.heap.size, 3, none⟩ = some (.slice B s.sess.length d)) ∧ (u.cell? ⟨w.heap.size + 1, 0, none⟩ = some (.string k) ∧ u.cell? ⟨w.heap.size + 1, 1, none⟩ = some (.string v) ∧ u.cell? ⟨w.heap.size + 1, 2, none⟩ = some (.bool true))) (by kernel_rfl) (CE.out _ (Kept.drew _ _)) (fun hHeld => ?_)
    refine wpAnyH_take (i := 0) (oi := ⟨some 5, Op.fieldAddr 68 (Operand.tmp 3) 2, 0, _, _, none⟩) (v := ?v0n15k1) rfl (by kernel_rfl) (by kernel_rfl) (by kernel_rfl) (fun _ _ _ h => h) (Or.inl ⟨by rfl, ?y0n15k1⟩) hHeld ?z0n15k1
    case y0n15k1 => intro w hSw; (try dsimp only at hSw); go_simp <;> rfl
    try simp only [Act.put, List.setIfInBounds_toArray, List.set_cons_zero, List.set_cons_succ]
    refine wpAnyH_take (i := 1) (oi := ⟨some 6, Op.load 4 (Operand.tmp 5), 4, _, _, none⟩) (v := ?v1n15k2) rfl (by kernel_rfl) (by kernel_rfl) (by kernel_rfl) (fun _ _ _ h => h) (Or.inl ⟨by rfl, ?y1n15k2⟩) hHeld ?z1n15k2
    case y1n15k2 => intro w hSw; (try dsimp only at hSw); go_simp <;> rfl
    try simp only [Act.put, List.setIfInBounds_toArray, List.set_cons_zero, List.set_cons_succ]
    refine wpAnyH_take (i := 2) (oi := ⟨some 7, Op.unOp UnOp.not 4 (Operand.tmp 6), 4, _, _, none⟩) (v := ?v2n15k3) rfl (by kernel_rfl) (by kernel_rfl) (by kernel_rfl) (fun _ _ _ h => h) (Or.inl ⟨by rfl, ?y2n15k3⟩) hHeld ?z2n15k3
    case y2n15k3 => intro w hSw; (try dsimp only at hSw); go_simp <;> rfl
    try simp only [Act.put, List.setIfInBounds_toArray, List.set_cons_zero, List.set_cons_succ]
    refine wpAnyH_take (i := 3) (oi := ⟨some 8, Op.move (Operand.tmp 7), 4, _, _, none⟩) (v := ?v3n15k4) rfl (by kernel_rfl) (by kernel_rfl) (by kernel_rfl) (fun _ _ _ h => h) (Or.inl ⟨by rfl, ?y3n15k4⟩) hHeld ?z3n15k4
    case y3n15k4 => intro w hSw; (try dsimp only at hSw); go_simp <;> rfl
    try simp only [Act.put, List.setIfInBounds_toArray, List.set_cons_zero, List.set_cons_succ]
    refine wpAnyH_take (i := 4) (oi := ⟨some 9, Op.load 27 (Operand.tmp 2), 27, _, _, some (3, true)⟩) (v := undef) rfl (by kernel_rfl) (by kernel_rfl) (by kernel_rfl) (fun _ _ _ h => h) (Or.inr ⟨by rfl, rfl⟩) hHeld ?z4n15k5
    try simp only [Act.put, List.setIfInBounds_toArray, List.set_cons_zero, List.set_cons_succ]
    refine wpAnyH_take (i := 5) (oi := ⟨some 10, Op.fieldAddr 68 (Operand.tmp 3) 0, 0, _, _, some (3, true)⟩) (v := undef) rfl (by kernel_rfl) (by kernel_rfl) (by kernel_rfl) (fun _ _ _ h => h) (Or.inr ⟨by rfl, rfl⟩) hHeld ?z5n15k6
    try simp only [Act.put, List.setIfInBounds_toArray, List.set_cons_zero, List.set_cons_succ]
    refine wpAnyH_take (i := 6) (oi := ⟨some 11, Op.load 9 (Operand.tmp 10), 9, _, _, some (3, true)⟩) (v := undef) rfl (by kernel_rfl) (by kernel_rfl) (by kernel_rfl) (fun _ _ _ h => h) (Or.inr ⟨by rfl, rfl⟩) hHeld ?z6n15k7
    try simp only [Act.put, List.setIfInBounds_toArray, List.set_cons_zero, List.set_cons_succ]
    refine wpAnyH_take (i := 7) (oi := ⟨some 12, Op.call { callee := Callee.value (Operand.func 51), args := #[Operand.tmp 9, Operand.tmp 11], argTypes := #[27, 9] }, 61, _, _, some (3, true)⟩) (v := undef) rfl (by kernel_rfl) (by kernel_rfl) (by kernel_rfl) (fun _ _ _ h => h) (Or.inr ⟨by rfl, rfl⟩) hHeld ?z7n15k8
    try simp only [Act.put, List.setIfInBounds_toArray, List.set_cons_zero, List.set_cons_succ]
    refine wpAnyH_take (i := 8) (oi := ⟨some 13, Op.fieldAddr 68 (Operand.tmp 3) 1, 0, _, _, some (3, true)⟩) (v := undef) rfl (by kernel_rfl) (by kernel_rfl) (by kernel_rfl) (fun _ _ _ h => h) (Or.inr ⟨by rfl, rfl⟩) hHeld ?z8n15k9
    try simp only [Act.put, List.setIfInBounds_toArray, List.set_cons_zero, List.set_cons_succ]
    refine wpAnyH_take (i := 9) (oi := ⟨some 14, Op.load 9 (Operand.tmp 13), 9, _, _, some (3, true)⟩) (v := undef) rfl (by kernel_rfl) (by kernel_rfl) (by kernel_rfl) (fun _ _ _ h => h) (Or.inr ⟨by rfl, rfl⟩) hHeld ?z9n15k10
    try simp only [Act.put, List.setIfInBounds_toArray, List.set_cons_zero, List.set_cons_succ]
    refine wpAnyH_take (i := 10) (oi := ⟨some 15, Op.build 61 #[(1, Operand.tmp 14)], 61, _, _, some (3, true)⟩) (v := undef) rfl (by kernel_rfl) (by kernel_rfl) (by kernel_rfl) (fun _ _ _ h => h) (Or.inr ⟨by rfl, rfl⟩) hHeld ?z10n15k11
    try simp only [Act.put, List.setIfInBounds_toArray, List.set_cons_zero, List.set_cons_succ]
    refine wpAnyH_take (i := 11) (oi := ⟨some 16, Op.binOp BinOp.eql 61 (Operand.tmp 12) (Operand.tmp 15) 61, 4, _, _, some (3, true)⟩) (v := undef) rfl (by kernel_rfl) (by kernel_rfl) (by kernel_rfl) (fun _ _ _ h => h) (Or.inr ⟨by rfl, rfl⟩) hHeld ?z11n15k12
    try simp only [Act.put, List.setIfInBounds_toArray, List.set_cons_zero, List.set_cons_succ]
    refine wpAnyH_take (i := 12) (oi := ⟨some 17, Op.pick (Operand.tmp 8) (Operand.tmp 16) (Operand.const (Value.bool false)), 4, _, _, none⟩) (v := ?v12n15k13) rfl (by kernel_rfl) (by kernel_rfl) (by kernel_rfl) (fun _ _ _ h => h) (Or.inl ⟨by rfl, ?y12n15k13⟩) hHeld ?z12n15k13
    case y12n15k13 => intro w hSw; (try dsimp only at hSw); go_simp <;> rfl
    try simp only [Act.put, List.setIfInBounds_toArray, List.set_cons_zero, List.set_cons_succ]
    refine wpAnyH_take (i := 13) (oi := ⟨some 4, Op.assign (Operand.tmp 17), 4, _, _, none⟩) (v := ?v13n15k14) rfl (by kernel_rfl) (by kernel_rfl) (by kernel_rfl) (fun _ _ _ h => h) (Or.inl ⟨by rfl, ?y13n15k14⟩) hHeld ?z13n15k14
    case y13n15k14 => intro w hSw; (try dsimp only at hSw); go_simp <;> rfl
    try simp only [Act.put, List.setIfInBounds_toArray, List.set_cons_zero, List.set_cons_succ]
    refine wpAnyH_done (by kernel_rfl) ?_ _
    refine NoPanic.normal ?_
    go_wp2
    go_ret
    exact ⟨by have h := HD.out; subst h; rfl, K1.out.step (Kept.drew _ _)⟩
  | false =>
    have EQ : Hid (RepV.same ⟨re, rv⟩ ⟨0, v⟩ = res) := by
      unfold Hid
      rw [HRES.out, Bool.eq_iff_iff, RepV.same_iff, GI.out]
      simp
    have RE : ∀ u, (binOp .eql 61 (.agg #[.int .i64 re, .string rv]) (.agg #[.int .i64 0, .string v])).run Tryz.prog u = .ok (.bool (RepV.same ⟨re, rv⟩ ⟨0, v⟩)) u := fun u => rep_eql u ⟨re, rv⟩ ⟨0, v⟩
    rw [EQ.out] at RE
    clear GI EQ HRES
    refine wp_region_noPanic ?_
    refine wp_region_held_drew (S := fun u => (u.cell? ⟨w.heap.size, 0, none⟩ = some (.int .i64 s.index) ∧ u.cell? ⟨w.heap.size, 1, none⟩ = some (.int .i64 s.term) ∧ u.cell? ⟨w.heap.size, 2, none⟩ = some (.slice A s.pairs.length c) ∧ u.cell? ⟨w.heap.size, 3, none⟩ = some (.slice B s.sess.length d)) ∧ (u.cell? ⟨w.heap.size + 1, 0, none⟩ = some (.string k) ∧ u.cell? ⟨w.heap.size + 1, 1, none⟩ = some (.string v) ∧ u.cell? ⟨w.heap.size + 1, 2, none⟩ = some (.bool false))) (by kernel_rfl) (CE.out _ (Kept.drew _ _)) (fun hHeld => ?_)
    refine wpAnyH_take (i := 0) (oi := ⟨some 5, Op.fieldAddr 68 (Operand.tmp 3) 2, 0, _, _, none⟩) (v := ?v0n16k1) rfl (by kernel_rfl) (by kernel_rfl) (by kernel_rfl) (fun _ _ _ h => h) (Or.inl ⟨by rfl, ?y0n16k1⟩) hHeld ?z0n16k1
    case y0n16k1 => intro w hSw; (try dsimp only at hSw); go_simp <;> rfl
    try simp only [Act.put, List.setIfInBounds_toArray, List.set_cons_zero, List.set_cons_succ]
    refine wpAnyH_take (i := 1) (oi := ⟨some 6, Op.load 4 (Operand.tmp 5), 4, _, _, none⟩) (v := ?v1n16k2) rfl (by kernel_rfl) (by kernel_rfl) (by kernel_rfl) (fun _ _ _ h => h) (Or.inl ⟨by rfl, ?y1n16k2⟩) hHeld ?z1n16k2
    case y1n16k2 => intro w hSw; (try dsimp only at hSw); go_simp <;> rfl
    try simp only [Act.put, List.setIfInBounds_toArray, List.set_cons_zero, List.set_cons_succ]
    refine wpAnyH_take (i := 2) (oi := ⟨some 7, Op.unOp UnOp.not 4 (Operand.tmp 6), 4, _, _, none⟩) (v := ?v2n16k3) rfl (by kernel_rfl) (by kernel_rfl) (by kernel_rfl) (fun _ _ _ h => h) (Or.inl ⟨by rfl, ?y2n16k3⟩) hHeld ?z2n16k3
    case y2n16k3 => intro w hSw; (try dsimp only at hSw); go_simp <;> rfl
    try simp only [Act.put, List.setIfInBounds_toArray, List.set_cons_zero, List.set_cons_succ]
    refine wpAnyH_take (i := 3) (oi := ⟨some 8, Op.move (Operand.tmp 7), 4, _, _, none⟩) (v := ?v3n16k4) rfl (by kernel_rfl) (by kernel_rfl) (by kernel_rfl) (fun _ _ _ h => h) (Or.inl ⟨by rfl, ?y3n16k4⟩) hHeld ?z3n16k4
    case y3n16k4 => intro w hSw; (try dsimp only at hSw); go_simp <;> rfl
    try simp only [Act.put, List.setIfInBounds_toArray, List.set_cons_zero, List.set_cons_succ]
    refine wpAnyH_take (i := 4) (oi := ⟨some 9, Op.load 27 (Operand.tmp 2), 27, _, _, some (3, true)⟩) (v := ?v4n16k5) rfl (by kernel_rfl) (by kernel_rfl) (by kernel_rfl) (fun _ _ _ h => h) (Or.inl ⟨by rfl, ?y4n16k5⟩) hHeld ?z4n16k5
    case y4n16k5 => intro w hSw; (try dsimp only at hSw); go_simp <;> rfl
    try simp only [Act.put, List.setIfInBounds_toArray, List.set_cons_zero, List.set_cons_succ]
    refine wpAnyH_take (i := 5) (oi := ⟨some 10, Op.fieldAddr 68 (Operand.tmp 3) 0, 0, _, _, some (3, true)⟩) (v := ?v5n16k6) rfl (by kernel_rfl) (by kernel_rfl) (by kernel_rfl) (fun _ _ _ h => h) (Or.inl ⟨by rfl, ?y5n16k6⟩) hHeld ?z5n16k6
    case y5n16k6 => intro w hSw; (try dsimp only at hSw); go_simp <;> rfl
    try simp only [Act.put, List.setIfInBounds_toArray, List.set_cons_zero, List.set_cons_succ]
    refine wpAnyH_take (i := 6) (oi := ⟨some 11, Op.load 9 (Operand.tmp 10), 9, _, _, some (3, true)⟩) (v := ?v6n16k7) rfl (by kernel_rfl) (by kernel_rfl) (by kernel_rfl) (fun _ _ _ h => h) (Or.inl ⟨by rfl, ?y6n16k7⟩) hHeld ?z6n16k7
    case y6n16k7 => intro w hSw; (try dsimp only at hSw); go_simp <;> rfl
    try simp only [Act.put, List.setIfInBounds_toArray, List.set_cons_zero, List.set_cons_succ]
    refine wpAnyH_take (i := 8) (oi := ⟨some 13, Op.fieldAddr 68 (Operand.tmp 3) 1, 0, _, _, some (3, true)⟩) (v := ?v8n16k8) rfl (by kernel_rfl) (by kernel_rfl) (by kernel_rfl) (fun _ _ _ h => h) (Or.inl ⟨by rfl, ?y8n16k8⟩) hHeld ?z8n16k8
    case y8n16k8 => intro w hSw; (try dsimp only at hSw); go_simp <;> rfl
    try simp only [Act.put, List.setIfInBounds_toArray, List.set_cons_zero, List.set_cons_succ]
    refine wpAnyH_take (i := 9) (oi := ⟨some 14, Op.load 9 (Operand.tmp 13), 9, _, _, some (3, true)⟩) (v := ?v9n16k9) rfl (by kernel_rfl) (by kernel_rfl) (by kernel_rfl) (fun _ _ _ h => h) (Or.inl ⟨by rfl, ?y9n16k9⟩) hHeld ?z9n16k9
    case y9n16k9 => intro w hSw; (try dsimp only at hSw); go_simp <;> rfl
    try simp only [Act.put, List.setIfInBounds_toArray, List.set_cons_zero, List.set_cons_succ]
    refine wpAnyH_take (i := 10) (oi := ⟨some 15, Op.build 61 #[(1, Operand.tmp 14)], 61, _, _, some (3, true)⟩) (v := ?v10n16k10) rfl (by kernel_rfl) (by kernel_rfl) (by kernel_rfl) (fun _ _ _ h => h) (Or.inl ⟨by rfl, ?y10n16k10⟩) hHeld ?z10n16k10
    case y10n16k10 => intro w hSw; (try dsimp only at hSw); go_simp <;> rfl
    try simp only [Act.put, List.setIfInBounds_toArray, List.set_cons_zero, List.set_cons_succ]
    refine wpAnyH_ready (rs := [7]) (by kernel_rfl) (by simp) ?_
    refine AllReadyH.cons (o := ⟨some 12, Op.call { callee := Callee.value (Operand.func 51), args := #[Operand.tmp 9, Operand.tmp 11], argTypes := #[27, 9] }, 61, _, _, some (3, true)⟩) rfl (fun K hK => ?_) AllReadyH.nil
    go_simp
    refine (GET.out _ (K1.out.step (Kept.drew _ _))).mono ?_
    rintro e w2 ⟨rfl, k2⟩
    have K2 := Lib.hid ((Kept.drew noBlock w1).step k2)
    clear k2
    dsimp only
    refine hK.out _ _ (CE.out _ K2.out) (fun hHeld => ?_)
    clear hK K
    try simp only [Act.put, List.setIfInBounds_toArray, List.set_cons_zero, List.set_cons_succ]
    refine wpAnyH_take (i := 11) (oi := ⟨some 16, Op.binOp BinOp.eql 61 (Operand.tmp 12) (Operand.tmp 15) 61, 4, _, _, some (3, true)⟩) (v := ?v11n16k11) rfl (by kernel_rfl) (by kernel_rfl) (by kernel_rfl) (fun _ _ _ h => h) (Or.inl ⟨by rfl, ?y11n16k11⟩) hHeld ?z11n16k11
    case y11n16k11 => intro w hSw; (try dsimp only at hSw); go_simp <;> rfl
    try simp only [Act.put, List.setIfInBounds_toArray, List.set_cons_zero, List.set_cons_succ]
    refine wpAnyH_take (i := 12) (oi := ⟨some 17, Op.pick (Operand.tmp 8) (Operand.tmp 16) (Operand.const (Value.bool false)), 4, _, _, none⟩) (v := ?v12n16k12) rfl (by kernel_rfl) (by kernel_rfl) (by kernel_rfl) (fun _ _ _ h => h) (Or.inl ⟨by rfl, ?y12n16k12⟩) hHeld ?z12n16k12
    case y12n16k12 => intro w hSw; (try dsimp only at hSw); go_simp <;> rfl
    try simp only [Act.put, List.setIfInBounds_toArray, List.set_cons_zero, List.set_cons_succ]
    refine wpAnyH_take (i := 13) (oi := ⟨some 4, Op.assign (Operand.tmp 17), 4, _, _, none⟩) (v := ?v13n16k13) rfl (by kernel_rfl) (by kernel_rfl) (by kernel_rfl) (fun _ _ _ h => h) (Or.inl ⟨by rfl, ?y13n16k13⟩) hHeld ?z13n16k13
    case y13n16k13 => intro w hSw; (try dsimp only at hSw); go_simp <;> rfl
    try simp only [Act.put, List.setIfInBounds_toArray, List.set_cons_zero, List.set_cons_succ]
    refine wpAnyH_done (by kernel_rfl) ?_ _
    refine NoPanic.normal ?_
    go_wp2
    go_ret
    exact ⟨rfl, K1.out.step K2.out⟩
end Go.Proofs.YthmjjhjblokjeaaGreat
