/-
  The contract of edits.All. No statement is proved here.
-/
import Derived.Test.YtjijdkdpmbfdmaaE10Do
namespace Go.Proofs.Ytjijdkdpmbfdmaa
open Go.RowKit Tot

set_option maxHeartbeats 400000 in
theorem rclone_any (F : Nat → Prop) (a : Option Addr) (n c : Nat) (L : List RefV) (w : World) (h : Lies w F a (refCells L)) (hl : L.length = n) (hx : n ≤ 1099511627776) :
    Calls Try.prog 47 #[.slice a n c] w fun e w' => ∃ A c', e = .returned (.slice A n c') ∧ w'.ownsRow w.heap.size 31 4 (.slice A n c') n (refCells L) ∧ Kept noBlock w w' := by
  have hq : ∀ (w : World) (a : Option Addr) (n c n' c' : Nat), (binOp .eql 24 (.slice a n c) (.slice none n' c')).run Try.prog w = .ok (.bool a.isNone) w := fun w a n c n' c' => Lib.run_eql_slice_nil w _ _ a n c n' c' Try.underlying24
  cases a with
  | none =>
    obtain rfl : L = [] := by
      cases L with
      | nil => rfl
      | cons x r => obtain ⟨ad, h, _⟩ := h (by simp [refCells, RefV.cells]); cases h
    obtain rfl : n = 0 := hl.symm
    go_enter Try.func47, Try.ntmps47
    go_wp2
    go_ret
    exact ⟨none, 0, rfl, World.ownsRow_nil _ _ _ _, Kept.refl _ _⟩
  | some ad =>
    have hsrc : Src Try.prog 4 24 (.slice (some ad) n c) n (refCells L) (w.alloc (.cells #[] 31)) :=
      src_sl (h.keep (Kept.alloc noBlock w _) (fun _ _ h => h)) (by rw [refCells_length, hl]) (one_refs L)
    have hown : (w.alloc (.cells #[] 31)).ownsRow 0 31 4 (.slice (some ⟨w.heap.size, 0, none⟩) 0 0) 0 [] := ⟨rfl, .inr ⟨w.heap.size, 0, #[], rfl, Nat.zero_le _, heap_alloc_new _ _, Nat.le_refl _, Nat.zero_le _, rfl, rfl⟩⟩
    go_enter Try.func47, Try.ntmps47
    go_wp2_with (at_builtin; refine wpList_append_src rfl (.tmp 5) (.tmp 6) 24 24 rfl 31 noRef.val 4 40 Try.underlying24 Try.infoRef rfl _ 0 [] rfl hown _ n (refCells L) rfl hsrc ?c3 ?c4 ?_)
    case c3 => unfold maxLen; omega
    case c4 => left; omega
    intro A' c' w1 hown1 k1 hat
    have R := Lib.hid hown1
    have k2 : Kept noBlock w w1 := (Kept.alloc noBlock w _).trans k1 (fun i hi h => by simp [Value.ownBlock] at h; omega)
    have hb2 : ∀ k, (Value.slice A' n c').ownBlock = some k → w.heap.size ≤ k := fun k hk => by
      rcases hat k hk with h | h
      · simp [Value.ownBlock] at h; omega
      · have := h.1; simp at this; omega
    clear hown1 hat k1
    go_wp2
    go_ret
    refine ⟨A', c', by simp, ?_, k2⟩
    have := own_base R.out hb2
    simpa using this

theorem three_set {w : World} {R : Nat} {y0 y1 y2 x0 x1 x2 : Value} {t : TypeId} (h : w.heap[R]? = some (.cells #[y0, y1, y2] t (0, 0))) : (((w.setCell ⟨R, 0, none⟩ x0).setCell ⟨R, 1, none⟩ x1).setCell ⟨R, 2, none⟩ x2).heap[R]? = some (.cells #[x0, x1, x2] t (0, 0)) ∧
    Kept (fun i => i = R) w (((w.setCell ⟨R, 0, none⟩ x0).setCell ⟨R, 1, none⟩ x1).setCell ⟨R, 2, none⟩ x2) := by
  have h0 := heap_setCell_same w R 0 _ t x0 h
  have h1 := heap_setCell_same _ R 1 _ t x1 h0
  have h2 := heap_setCell_same _ R 2 _ t x2 h1
  exact ⟨by simpa using h2, ((Kept.setCell w (by rfl) _).step (Kept.setCell _ (by rfl) _)).step (Kept.setCell _ (by rfl) _)⟩

set_option maxRecDepth 100000 in
set_option maxHeartbeats 1000000 in
theorem eall_any (F : Nat → Prop) (N : Fls) (f : Int) (A : Option Addr) (c : Nat) (w : World) (hS : Sw w F N A c) (hN : N.length ≤ 274877906944) :
    Calls Try.prog 26 #[setv N f A c] w fun en w' => ∃ A' c', en = .returned (evl (allE N f) A' c' none 0) ∧ w'.ownsRow w.heap.size 31 4 (.slice A' N.length c') N.length (refCells (N.map (·.2))) ∧ Kept noBlock w w' := by
  obtain ⟨n, hn⟩ : ∃ n, n = N.length := ⟨_, rfl⟩
  obtain ⟨w1, hw1⟩ : ∃ w1, w1 = (w.alloc (.cells #[.slice A n c, .int .i64 f] 26)).alloc (.cells #[.slice none 0 0, .slice none 0 0, .int .i64 0] 36) := ⟨_, rfl⟩
  have k1 : Kept noBlock w w1 := by rw [hw1]; exact (Kept.alloc _ _ _).step (Kept.alloc _ _ _)
  have b0 : w1.heap[w.heap.size]? = some (.cells #[.slice A n c, .int .i64 f] 26 (0, 0)) := by rw [hw1]; exact (Kept.alloc noBlock _ _).blk (heap_alloc_new w _) (fun h => h)
  have b1 : w1.heap[w.heap.size + 1]? = some (.cells #[.slice none 0 0, .slice none 0 0, .int .i64 0] 36 (0, 0)) := by
    rw [hw1]
    have := heap_alloc_new (w.alloc (.cells #[.slice A n c, .int .i64 f] 26)) (.cells #[.slice none 0 0, .slice none 0 0, .int .i64 0] 36)
    simpa using this
  have CL := Lib.hid (fun u (k : Kept noBlock w1 u) => rclone_any F A n c (N.map (·.2)) u (hS.la.keep (k1.step k) (fun _ _ h => h)) (by rw [List.length_map, hn]) (by omega))
  have K1 := Lib.hid k1
  have B0 := Lib.hid b0
  have B1 := Lib.hid b1
  have CE : Hid (∀ u, Kept noBlock w1 u → u.cell? ⟨w.heap.size, 0, none⟩ = some (.slice A n c) ∧ u.cell? ⟨w.heap.size, 1, none⟩ = some (.int .i64 f)) := fun u k => two_cells (k.blk b0 (fun h => h))
  have KC : Hid (Kept noBlock w1 w1.drew) := Kept.drew _ _
  have HN := Lib.hid hn
  unfold setv
  rw [← hn]
  clear hS k1 b0 b1 hn
  go_enter Try.func26, Try.ntmps26
  go_upto_region 1 with (fail)
  rw [← hw1]
  clear hw1
  refine wp_region_noPanic ?_
  refine wp_region_held_drew (S := fun u => u.cell? ⟨w.heap.size, 0, none⟩ = some (.slice A n c) ∧ u.cell? ⟨w.heap.size, 1, none⟩ = some (.int .i64 f)) (by kernel_rfl) (CE.out _ KC.out) (fun hHeld => ?_)
  refine wpAnyH_take (i := 0) (oi := ⟨some 3, Op.fieldAddr 26 (Operand.tmp 1) 0, 0, _, _, none⟩) (v := ?v0n1k1) rfl (by kernel_rfl) (by kernel_rfl) (by kernel_rfl) (fun _ _ _ h => h) (Or.inl ⟨by rfl, ?y0n1k1⟩) hHeld ?z0n1k1
  case y0n1k1 => intro w hSw; (try dsimp only at hSw); go_simp <;> rfl
  try simp only [Act.put, List.setIfInBounds_toArray, List.set_cons_zero, List.set_cons_succ]
  refine wpAnyH_take (i := 1) (oi := ⟨some 4, Op.load 24 (Operand.tmp 3), 24, _, _, none⟩) (v := ?v1n1k2) rfl (by kernel_rfl) (by kernel_rfl) (by kernel_rfl) (fun _ _ _ h => h) (Or.inl ⟨by rfl, ?y1n1k2⟩) hHeld ?z1n1k2
  case y1n1k2 => intro w hSw; (try dsimp only at hSw); go_simp <;> rfl
  try simp only [Act.put, List.setIfInBounds_toArray, List.set_cons_zero, List.set_cons_succ]
  refine wpAnyH_take (i := 3) (oi := ⟨some 6, Op.fieldAddr 26 (Operand.tmp 1) 1, 0, _, _, none⟩) (v := ?v3n1k3) rfl (by kernel_rfl) (by kernel_rfl) (by kernel_rfl) (fun _ _ _ h => h) (Or.inl ⟨by rfl, ?y3n1k3⟩) hHeld ?z3n1k3
  case y3n1k3 => intro w hSw; (try dsimp only at hSw); go_simp <;> rfl
  try simp only [Act.put, List.setIfInBounds_toArray, List.set_cons_zero, List.set_cons_succ]
  refine wpAnyH_take (i := 4) (oi := ⟨some 7, Op.load 3 (Operand.tmp 6), 3, _, _, none⟩) (v := ?v4n1k4) rfl (by kernel_rfl) (by kernel_rfl) (by kernel_rfl) (fun _ _ _ h => h) (Or.inl ⟨by rfl, ?y4n1k4⟩) hHeld ?z4n1k4
  case y4n1k4 => intro w hSw; (try dsimp only at hSw); go_simp <;> rfl
  try simp only [Act.put, List.setIfInBounds_toArray, List.set_cons_zero, List.set_cons_succ]
  refine wpAnyH_ready (rs := [2]) (by kernel_rfl) (by simp) ?_
  refine AllReadyH.cons (o := ⟨some 5, Op.call { callee := Callee.value (Operand.func 47), args := #[Operand.tmp 4], argTypes := #[24] }, 24, _, _, none⟩) rfl (fun K hK => ?_) AllReadyH.nil
  go_simp
  refine (CL.out _ KC.out).mono ?_
  rintro en u2 ⟨A2, c2, rfl, o2, k2⟩
  have O2 := Lib.hid (own_base (base' := w.heap.size + 2) o2 (fun i hi => by have := (o2.lt i hi).1; have := KC.out.size; have := lt_of_blk B1.out; omega))
  replace KC := Lib.hid (KC.out.step k2)
  clear o2 k2
  dsimp only
  refine hK.out _ _ (CE.out _ KC.out) (fun hHeld => ?_)
  clear hK K
  try simp only [Act.put, List.setIfInBounds_toArray, List.set_cons_zero, List.set_cons_succ]
  refine wpAnyH_take (i := 5) (oi := ⟨some 8, Op.build 36 #[(0, Operand.tmp 5), (2, Operand.tmp 7)], 36, _, _, none⟩) (v := ?v5n1k5) rfl (by kernel_rfl) (by kernel_rfl) (by kernel_rfl) (fun _ _ _ h => h) (Or.inl ⟨by rfl, ?y5n1k5⟩) hHeld ?z5n1k5
  case y5n1k5 => intro w hSw; (try dsimp only at hSw); go_simp <;> rfl
  try simp only [Act.put, List.setIfInBounds_toArray, List.set_cons_zero, List.set_cons_succ]
  refine wpAnyH_ready (rs := [6]) (by kernel_rfl) (by simp) ?_
  refine AllReadyH.cons (o := ⟨none, Op.store 36 (Operand.tmp 2) (Operand.tmp 8), 0, _, _, none⟩) rfl (fun K hK => ?_) AllReadyH.nil
  have hb := KC.out.blk B1.out (fun h => h)
  obtain ⟨r0, r1, r2⟩ := ed_cells hb
  have f0 : u2.frozen? ⟨w.heap.size + 1, 0, none⟩ = false := frozen_of_row _ _ _ _ _ hb
  have f1 : u2.frozen? ⟨w.heap.size + 1, 1, none⟩ = false := frozen_of_row _ _ _ _ _ hb
  have f2 : u2.frozen? ⟨w.heap.size + 1, 2, none⟩ = false := frozen_of_row _ _ _ _ _ hb
  obtain ⟨hz, kz⟩ := three_set (x0 := .slice A2 n c2) (x1 := .slice none 0 0) (x2 := .int .i64 f) hb
  have HZ := Lib.hid hz
  have OZ := Lib.hid (own_keep O2.out kz (fun i hi e => by have := (O2.out.lt i hi).1; omega))
  have KZ : Hid (Kept noBlock w _) := (K1.out.step KC.out).trans kz (fun i hi h => by omega)
  have CZ := Lib.hid (two_cells (kz.blk (KC.out.blk B0.out (fun h => h)) (by omega)))
  clear hb hz kz
  go_simp
  refine hK.out _ _ (CZ.out) (fun hHeld => ?_)
  clear hK K
  try simp only [Act.put, List.setIfInBounds_toArray, List.set_cons_zero, List.set_cons_succ]
  refine wpAnyH_done (by kernel_rfl) ?_ _
  refine NoPanic.normal ?_
  clear hHeld r0 r1 r2 f0 f1 f2
  go_wp2
  change bodyPost _ _ _ _ _ (((u2.setCell ⟨w.heap.size + 1, 0, none⟩ (.slice A2 n c2)).setCell ⟨w.heap.size + 1, 1, none⟩ (.slice none 0 0)).setCell ⟨w.heap.size + 1, 2, none⟩ (.int .i64 f))
  generalize ((u2.setCell ⟨w.heap.size + 1, 0, none⟩ (.slice A2 n c2)).setCell ⟨w.heap.size + 1, 1, none⟩ (.slice none 0 0)).setCell ⟨w.heap.size + 1, 2, none⟩ (.int .i64 f) = v9 at HZ OZ KZ ⊢
  obtain ⟨z0, z1, z2⟩ := ed_cells HZ.out
  refine bodyPost_ret (v := .agg #[.slice A2 n c2, .slice none 0 0, .int .i64 f]) (by simp [results, Try.results26, go_sem, Try.isAgg36, Try.sizeOf36, z0, z1, z2]) rfl ?_
  refine ⟨A2, c2, ?_, own_base OZ.out (fun i hi => by have := (OZ.out.lt i hi).1; omega), KZ.out⟩
  unfold evl allE
  simp only [List.length_map, List.length_nil]
  rw [← HN.out]
end Go.Proofs.Ytjijdkdpmbfdmaa
