/-
  The statements' own last full file. No statement is proved here.
-/
import Derived.Test.YtollmkkbeeeccaaL11Ord
import Derived.Test.YtollmkkbeeeccaaP11Pair
import Derived.Test.YtollmkkbeeeccaaP11Way
namespace Go.Proofs.Ytollmkkbeeeccaa
open Go.RowKit Tot

def atB : Option RefV → Int
  | none => -1
  | some r => r.to_
def bestB (o : Option RefV) : RefV := o.getD noRef

set_option maxRecDepth 100000 in
set_option maxHeartbeats 2000000 in
theorem lfl_any (F : Nat → Prop) (A : Option Addr) (n c : Nat) (f i : Int) (L : List RefV) (w : World) (h : Lies w F A (refCells L)) (hl : L.length = n) (hn : n ≤ 1000000) :
    Calls Try.prog 13 #[.agg #[.slice A n c, .int .i64 f], .int .i64 i] w fun e w' => e = .returned (.tuple #[(bestB (fullV (ordK 0 L) i)).val, .int .i64 (atB (fullV (ordK 0 L) i))]) ∧ Kept noBlock w w' := by
  obtain ⟨w1, hw1⟩ : ∃ w1, w1 = ((w.alloc (.cells #[.slice A n c, .int .i64 f] 27)).alloc (.cells #[.string ⟨#[]⟩, .int .i64 0, .int .i64 0, .int .i64 0] 37)).alloc (.cells #[.string ⟨#[]⟩, .int .i64 0, .int .i64 0, .int .i64 0] 37) := ⟨_, rfl⟩
  have k1 : Kept noBlock w w1 := by rw [hw1]; exact ((Kept.alloc _ _ _).step (Kept.alloc _ _ _)).step (Kept.alloc _ _ _)
  have b0 : w1.heap[w.heap.size]? = some (.cells #[.slice A n c, .int .i64 f] 27 (0, 0)) := by rw [hw1]; exact ((Kept.alloc noBlock _ _).step (Kept.alloc noBlock _ _)).blk (heap_alloc_new w _) (fun h => h)
  have b1 : w1.heap[w.heap.size + 1]? = some (.cells #[.string ⟨#[]⟩, .int .i64 0, .int .i64 0, .int .i64 0] 37 (0, 0)) := by
    rw [hw1]
    exact (Kept.alloc noBlock _ _).blk (by have := heap_alloc_new (w.alloc (.cells #[.slice A n c, .int .i64 f] 27)) (.cells #[.string ⟨#[]⟩, .int .i64 0, .int .i64 0, .int .i64 0] 37); simpa using this) (fun h => h)
  have b2 : w1.heap[w.heap.size + 1 + 1]? = some (.cells #[.string ⟨#[]⟩, .int .i64 0, .int .i64 0, .int .i64 0] 37 (0, 0)) := by
    rw [hw1]
    have := heap_alloc_new ((w.alloc (.cells #[.slice A n c, .int .i64 f] 27)).alloc (.cells #[.string ⟨#[]⟩, .int .i64 0, .int .i64 0, .int .i64 0] 37)) (.cells #[.string ⟨#[]⟩, .int .i64 0, .int .i64 0, .int .i64 0] 37)
    simpa using this
  obtain ⟨D, hD⟩ : ∃ D, D = w.heap.size + 1 + 1 := ⟨_, rfl⟩
  rw [← hD] at b2
  obtain ⟨O, hO⟩ : ∃ O, O = ordK 0 L := ⟨_, rfl⟩
  have K1 := Lib.hid k1
  have HSZ : Hid (w1.heap.size = D + 1) := by unfold Hid; rw [hw1, hD]; simp
  have ORD := Lib.hid (lof_any F A n c f 0 L w1 (h.keep k1 (fun _ _ h => h)) hl hn)
  have HOL : Hid (O.length ≤ 1000000) := by unfold Hid; rw [hO]; unfold ordK; rw [ordV_len]; exact Nat.le_trans (List.length_filter_le _ _) (by omega)
  obtain ⟨c0, c1⟩ := pair_cells b0
  have B1 := Lib.hid b1
  have B2 := Lib.hid b2
  have HD := Lib.hid hD
  obtain ⟨z, hz⟩ : ∃ z, z = fullV (ordK 0 L) i := ⟨_, rfl⟩
  rw [← hz]
  have HZ : Hid (z = fullV O i) := by unfold Hid; rw [hz, hO]
  rw [← hO] at ORD
  obtain ⟨best, hbest⟩ : ∃ b, b = bestB z := ⟨_, rfl⟩
  obtain ⟨at_, hat⟩ : ∃ a, a = atB z := ⟨_, rfl⟩
  have HBE : Hid (bestB z = best) := hbest.symm
  have HAT : Hid (atB z = at_) := hat.symm
  rw [← hbest, ← hat]
  clear h hl k1 b0 b1 b2 hO hz hbest hat
  go_enter Try.func13, Try.ntmps13
  go_upto_region 2 with (fail)
  rw [← hw1]
  (try rw [← hD])
  clear hw1 hD
  go_wp2_with fail
  refine ORD.out.mono ?_
  rintro e w2 ⟨A', c', rfl, o2, k2⟩
  have H := Lib.hid (Lies.of_rows (F := fun i => w1.heap.size ≤ i) o2 (fun i hi => (o2.lt i hi).1))
  have K2 := Lib.hid (K1.out.step k2)
  obtain ⟨m, hm⟩ : ∃ m, m = O.length := ⟨_, rfl⟩
  have HML : Hid (m = O.length) := hm
  rw [← hm] at HOL ⊢
  have hmL := HOL.out
  have B12 := Lib.hid (k2.blk B1.out (fun h => h))
  have B22 := Lib.hid (k2.blk B2.out (fun h => h))
  clear o2 k2 hm ORD c0 c1 B1 B2 HOL
  go_wp2_with fail
  go_loopw [7, 14] (fun v ix wr => ∃ (j : Nat) (o : Option RefV), j ≤ m ∧ v = .int .i64 (atB o) ∧ ix = .int .i64 (j : Int) ∧ Hid (fullV (O.take j) i = o) ∧ Hid (wr.heap[D]? = some (.cells #[.string (bestB o).name, .int .i64 (bestB o).kind, .int .i64 (bestB o).from_, .int .i64 (bestB o).to_] 37 (0, 0))) ∧ Hid (Kept (fun i => i = D) w2 wr)) (fun _ ix _ => m - (intOf ix).toNat)
  case atStart => exact ⟨0, none, by omega, rfl, rfl, rfl, B22, Kept.refl _ _⟩
  case round =>
    obtain ⟨j, o, hjm, rfl, rfl, HF, HB, HK⟩ := hrel
    by_cases hlt : j < m
    · obtain ⟨x, hx⟩ : ∃ x, O[j]? = some x := ⟨_, List.getElem?_eq_getElem (by have := HML.out; omega)⟩
      obtain ⟨g, oo, rfl, hgb, cc⟩ := (H.out.keep HK.out (fun i hi e => by have := HSZ.out; omega)).elem (enc := RefV.cells) ref_len (by omega) hx
      have e0 := cc 0 _ rfl
      have e1 := cc 1 _ rfl
      have e2 := cc 2 _ rfl
      have e3 := cc 3 _ rfl
      rw [Nat.add_zero] at e0
      have ST := Lib.hid (fullV_step (i := i) hx)
      clear hx cc hgb
      go_upto_region 5 with (fail)
      have k3 := Kept.alloc noBlock wr (.cells #[.string x.name, .int .i64 x.kind, .int .i64 x.from_, .int .i64 x.to_] 37)
      have b3 := heap_alloc_new wr (.cells #[.string x.name, .int .i64 x.kind, .int .i64 x.from_, .int .i64 x.to_] 37)
      obtain ⟨C, hC⟩ : ∃ C, C = wr.heap.size := ⟨_, rfl⟩
      have HC : Hid (D < C) := by unfold Hid; rw [hC]; exact lt_of_blk HB.out
      rw [← hC] at b3 ⊢
      generalize wr.alloc (.cells #[.string x.name, .int .i64 x.kind, .int .i64 x.from_, .int .i64 x.to_] 37) = w3 at k3 b3 ⊢
      obtain ⟨d0, d1, d2, d3⟩ := ref_cells b3
      have K3 := Lib.hid (HK.out.step k3.to)
      have HB3 := Lib.hid b3
      have HD3 := Lib.hid (k3.blk HB.out (fun h => h))
      clear e0 e1 e2 e3 k3 b3 hC HB HK
      by_cases hto : x.to_ ≤ i
      · have HF9 : Hid (fullV (O.take (j + 1)) i = some x) := by unfold Hid; rw [ST.out, if_pos hto]
        have CE : Hid (∀ u, Kept (fun i => i = D) w3 u → u.cell? ⟨C, 0, none⟩ = some (.string x.name) ∧ u.cell? ⟨C, 1, none⟩ = some (.int .i64 x.kind) ∧ u.cell? ⟨C, 2, none⟩ = some (.int .i64 x.from_) ∧ u.cell? ⟨C, 3, none⟩ = some (.int .i64 x.to_)) := fun u ku => ref_cells (ku.blk HB3.out (fun e => by have := HC.out; omega))
        have KC : Hid (Kept noBlock w3 w3.drew) := Kept.drew _ _
        go_upto_region 6 with (fail)
        refine wp_region_noPanic ?_
        refine wp_region_held_drew (S := fun u => u.cell? ⟨C, 0, none⟩ = some (.string x.name) ∧ u.cell? ⟨C, 1, none⟩ = some (.int .i64 x.kind) ∧ u.cell? ⟨C, 2, none⟩ = some (.int .i64 x.from_) ∧ u.cell? ⟨C, 3, none⟩ = some (.int .i64 x.to_)) (by kernel_rfl) (CE.out _ KC.out.to) (fun hHeld => ?_)
        refine wpAnyH_take (i := 0) (oi := ⟨some 22, Op.load 37 (Operand.tmp 9), 37, _, _, none⟩) (v := ?v0n1k1) rfl (by kernel_rfl) (by kernel_rfl) (by kernel_rfl) (fun _ _ _ h => h) (Or.inl ⟨by rfl, ?y0n1k1⟩) hHeld ?z0n1k1
        case y0n1k1 => intro w hSw; (try dsimp only at hSw); go_simp <;> rfl
        try simp only [Act.put, List.setIfInBounds_toArray, List.set_cons_zero, List.set_cons_succ]
        refine wpAnyH_take (i := 1) (oi := ⟨some 23, Op.fieldAddr 37 (Operand.tmp 9) 3, 0, _, _, none⟩) (v := ?v1n1k2) rfl (by kernel_rfl) (by kernel_rfl) (by kernel_rfl) (fun _ _ _ h => h) (Or.inl ⟨by rfl, ?y1n1k2⟩) hHeld ?z1n1k2
        case y1n1k2 => intro w hSw; (try dsimp only at hSw); go_simp <;> rfl
        try simp only [Act.put, List.setIfInBounds_toArray, List.set_cons_zero, List.set_cons_succ]
        refine wpAnyH_take (i := 2) (oi := ⟨some 24, Op.load 3 (Operand.tmp 23), 3, _, _, none⟩) (v := ?v2n1k3) rfl (by kernel_rfl) (by kernel_rfl) (by kernel_rfl) (fun _ _ _ h => h) (Or.inl ⟨by rfl, ?y2n1k3⟩) hHeld ?z2n1k3
        case y2n1k3 => intro w hSw; (try dsimp only at hSw); go_simp <;> rfl
        try simp only [Act.put, List.setIfInBounds_toArray, List.set_cons_zero, List.set_cons_succ]
        refine wpAnyH_ready (rs := [3]) (by kernel_rfl) (by simp) ?_
        refine AllReadyH.cons (o := ⟨none, Op.store 37 (Operand.tmp 6) (Operand.tmp 22), 0, _, _, none⟩) rfl (fun K hK => ?_) AllReadyH.nil
        have hb1 := KC.out.blk HD3.out (fun h => h)
        obtain ⟨hz, kz⟩ := ref_set (r := x) hb1
        have KZ : Hid (Kept (fun i => i = D) w3 _) := KC.out.to.step kz
        have HBZ := Lib.hid hz
        refine step_storeR rfl rfl hb1 ?_
        clear hb1 hz kz
        refine hK.out _ _ (CE.out _ KZ.out) (fun hHeld => ?_)
        clear hK K
        try simp only [Act.put, List.setIfInBounds_toArray, List.set_cons_zero, List.set_cons_succ]
        refine wpAnyH_take (i := 4) (oi := ⟨some 7, Op.assign (Operand.tmp 24), 3, _, _, none⟩) (v := ?v4n1k4) rfl (by kernel_rfl) (by kernel_rfl) (by kernel_rfl) (fun _ _ _ h => h) (Or.inl ⟨by rfl, ?y4n1k4⟩) hHeld ?z4n1k4
        case y4n1k4 => intro w hSw; (try dsimp only at hSw); go_simp <;> rfl
        try simp only [Act.put, List.setIfInBounds_toArray, List.set_cons_zero, List.set_cons_succ]
        refine wpAnyH_done (by kernel_rfl) ?_ _
        refine NoPanic.normal ?_
        clear hHeld d0 d1 d2 d3
        have KE := Lib.hid (K3.out.step KZ.out)
        generalize setR w3.drew D x = v9 at HBZ KE ⊢
        go_wp2
        go_roundw
        case rel => exact ⟨j + 1, some x, by omega, rfl, by go_num, HF9, HBZ, KE⟩
        case measure => simp [intOf]; omega
      · have HF9 : Hid (fullV (O.take (j + 1)) i = o) := by unfold Hid; rw [ST.out, if_neg hto, HF.out]
        clear ST HF
        go_wp2
        go_roundw
        case rel => exact ⟨j + 1, o, by omega, rfl, by go_num, HF9, HD3, K3⟩
        case measure => simp [intOf]; omega
    · obtain rfl : j = m := by omega
      have hf := HF.out
      rw [List.take_of_length_le (by have := HML.out; omega), ← HZ.out] at hf
      have hb1 := HK.out.blk B12.out (fun e => by have := HD.out; omega)
      have hb2 := HB.out
      rw [← hf, HBE.out] at hb2
      rw [← hf, HAT.out]
      obtain ⟨f0, f1, f2, f3⟩ := fz hb1
      obtain ⟨x0, x1, x2, x3⟩ := ref_cells hb1
      obtain ⟨y0, y1, y2, y3⟩ := ref_cells hb2
      clear hb2 HB hf
      obtain ⟨hz, kz⟩ := ref_set (r := best) hb1
      have KE : Hid (Kept noBlock w _) := (K2.out.trans HK.out (fun i hi e => by have := HD.out; omega)).trans kz (fun i hi e => by omega)
      have HZZ := Lib.hid hz
      clear hb1 hz kz
      go_wp2
      change bodyPost _ _ _ _ _ (setR wr (w.heap.size + 1) best)
      generalize setR wr (w.heap.size + 1) best = v9 at HZZ KE ⊢
      obtain ⟨x0, x1, x2, x3⟩ := ref_cells HZZ.out
      refine bodyPost_ret (v := .tuple #[.agg #[.string best.name, .int .i64 best.kind, .int .i64 best.from_, .int .i64 best.to_], .int .i64 at_]) (by simp [results, Try.results13, go_sem, Try.isAgg37, Try.sizeOf37, x0, x1, x2, x3]) rfl ?_
      exact ⟨rfl, KE.out⟩
end Go.Proofs.Ytollmkkbeeeccaa
