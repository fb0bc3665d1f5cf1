/-
  The contract of plan.Of. No statement is proved here.
-/
import Derived.Test.YtollmkkbeeeccaaP11Prt
namespace Go.Proofs.Ytollmkkbeeeccaa
open Go.RowKit Tot

/-- A plan as a value; where it lies. -/
def plnv (P : PlnV) (p A1 : Option Addr) (c1 : Nat) (A2 : Option Addr) (c2 : Nat) : Value := .agg #[.pointer p, .slice A1 P.deltas.length c1, .slice A2 P.parts.length c2]
structure PlnAt (w : World) (base : Nat) (P : PlnV) (p A1 : Option Addr) (c1 : Nat) (A2 : Option Addr) (c2 : Nat) : Prop where
  full : PtAt w base p P.full
  deltas : w.ownsRow base 37 4 (.slice A1 P.deltas.length c1) P.deltas.length (refCells P.deltas)
  parts : w.ownsRow base 37 4 (.slice A2 P.parts.length c2) P.parts.length (refCells P.parts)
theorem PlnAt.keep {w w' : World} {base : Nat} {P : PlnV} {p A1 : Option Addr} {c1 : Nat} {A2 : Option Addr} {c2 : Nat} (h : PlnAt w base P p A1 c1 A2 c2) (k : Kept noBlock w w') : PlnAt w' base P p A1 c1 A2 c2 :=
  ⟨h.full.keep k, own_keep h.deltas k (fun _ _ h => h), own_keep h.parts k (fun _ _ h => h)⟩
theorem PlnAt.none (w : World) (base : Nat) : PlnAt w base noPln none none 0 none 0 := ⟨rfl, World.ownsRow_nil _ _ _ _, World.ownsRow_nil _ _ _ _⟩
theorem tri_cells {w : World} {R : Nat} {x0 x1 x2 : Value} {t : TypeId} {fr : Nat × Nat} (h : w.heap[R]? = some (.cells #[x0, x1, x2] t fr)) : w.cell? ⟨R, 0, none⟩ = some x0 ∧ w.cell? ⟨R, 1, none⟩ = some x1 ∧ w.cell? ⟨R, 2, none⟩ = some x2 :=
  ⟨cell_of_row _ _ _ _ _ _ h, cell_of_row _ _ _ _ _ _ h, cell_of_row _ _ _ _ _ _ h⟩
/-- A plan stored at its place. -/
def setL (w : World) (R : Nat) (x0 x1 x2 : Value) : World := ((w.setCell ⟨R, 0, none⟩ x0).setCell ⟨R, 1, none⟩ x1).setCell ⟨R, 2, none⟩ x2
theorem tri_set {w : World} {R : Nat} {y0 y1 y2 x0 x1 x2 : Value} {t : TypeId} (h : w.heap[R]? = some (.cells #[y0, y1, y2] t (0, 0))) : (setL w R x0 x1 x2).heap[R]? = some (.cells #[x0, x1, x2] t (0, 0)) ∧ Kept (fun i => i = R) w (setL w R x0 x1 x2) := by
  have h0 := heap_setCell_same w R 0 _ t x0 h
  have h1 := heap_setCell_same _ R 1 _ t x1 h0
  have h2 := heap_setCell_same _ R 2 _ t x2 h1
  exact ⟨by simpa [setL] using h2, ((Kept.setCell w (by rfl) _).step (Kept.setCell _ (by rfl) _)).step (Kept.setCell _ (by rfl) _)⟩
theorem planV_out {L : List RefV} {f n i : Int} (h : i < f ∨ n < i) : planV L f n i = (noPln, 9) := if_pos h
theorem planV_not {L : List RefV} {f n i : Int} (h : ¬ (i < f ∨ n < i)) (h2 : (posP L n i).2 < i) : planV L f n i = (noPln, 9) := by unfold planV; rw [if_neg h, if_pos h2]
theorem planV_yes {L : List RefV} {f n i : Int} (h : ¬ (i < f ∨ n < i)) (h2 : ¬ (posP L n i).2 < i) : planV L f n i = (⟨fullV (ordK 0 L) i, (posD L i).1, (posP L n i).1⟩, 0) := by unfold planV; rw [if_neg h, if_neg h2]

set_option maxRecDepth 100000 in
set_option maxHeartbeats 2000000 in
theorem of_any (F : Nat → Prop) (A : Option Addr) (n c : Nat) (f last i : Int) (L : List RefV) (w : World) (h : Lies w F A (refCells L)) (hl : L.length = n) (hn : n ≤ 1099511627776) (hk : ∀ kd, (ofK kd L).length < 20) :
    Calls Try.prog 12 #[.agg #[.slice A n c, .int .i64 f], .int .i64 last, .int .i64 i] w fun e w' => ∃ p A1 c1 A2 c2, e = .returned (.tuple #[plnv (planV L f last i).1 p A1 c1 A2 c2, .int .i64 (planV L f last i).2]) ∧ PlnAt w' w.heap.size (planV L f last i).1 p A1 c1 A2 c2 ∧ Kept noBlock w w' := by
  obtain ⟨w1, hw1⟩ : ∃ w1, w1 = (w.alloc (.cells #[.slice A n c, .int .i64 f] 27)).alloc (.cells #[.pointer none, .slice none 0 0, .slice none 0 0] 31) := ⟨_, rfl⟩
  have k1 : Kept noBlock w w1 := by rw [hw1]; exact (Kept.alloc _ _ _).step (Kept.alloc _ _ _)
  have b0 : w1.heap[w.heap.size]? = some (.cells #[.slice A n c, .int .i64 f] 27 (0, 0)) := by rw [hw1]; exact (Kept.alloc noBlock _ _).blk (heap_alloc_new w _) (fun h => h)
  have b1 : w1.heap[w.heap.size + 1]? = some (.cells #[.pointer none, .slice none 0 0, .slice none 0 0] 31 (0, 0)) := by
    rw [hw1]
    have := heap_alloc_new (w.alloc (.cells #[.slice A n c, .int .i64 f] 27)) (.cells #[.pointer none, .slice none 0 0, .slice none 0 0] 31)
    simpa using this
  have H := Lib.hid (h.lt.keep k1 (fun _ _ h => h))
  have HL := Lib.hid hl
  have HK := Lib.hid hk
  have K1 := Lib.hid k1
  have B0 := Lib.hid b0
  have B1 := Lib.hid b1
  have HSZ : Hid (w1.heap.size = w.heap.size + 2) := by unfold Hid; rw [hw1]; simp
  obtain ⟨c0, c1⟩ := pair_cells b0
  have FAIL : Hid (∀ v9 : World, planV L f last i = (noPln, 9) → ∀ u : World, Kept noBlock w u → u.heap[w.heap.size + 1]? = some (.cells #[.pointer none, .slice none 0 0, .slice none 0 0] 31 (0, 0)) → v9 = setL u (w.heap.size + 1) (.pointer none) (.slice none 0 0) (.slice none 0 0) →
      (∃ p A1 c1 A2 c2, Ending.returned (.tuple #[.agg #[.pointer none, .slice none 0 0, .slice none 0 0], .int .i64 9]) = Ending.returned (.tuple #[plnv (planV L f last i).1 p A1 c1 A2 c2, .int .i64 (planV L f last i).2]) ∧ PlnAt v9 w.heap.size (planV L f last i).1 p A1 c1 A2 c2 ∧ Kept noBlock w v9) ∧ v9.heap[w.heap.size + 1]? = some (.cells #[.pointer none, .slice none 0 0, .slice none 0 0] 31 (0, 0))) := by
    intro v9 hp u ku hu hv
    obtain ⟨hz, kz⟩ := tri_set (x0 := .pointer none) (x1 := .slice none 0 0) (x2 := .slice none 0 0) hu
    rw [← hv] at hz kz
    rw [hp]
    exact ⟨⟨none, none, 0, none, 0, rfl, PlnAt.none _ _, ku.trans kz (fun i hi e => by omega)⟩, hz⟩
  clear h hl k1 hk
  by_cases ho : i < f ∨ last < i
  · have HP := Lib.hid (planV_out (L := L) ho)
    have b1f := B1.out
    obtain ⟨r0, r1, r2⟩ := tri_cells b1f
    have f0 : w1.frozen? ⟨w.heap.size + 1, 0, none⟩ = false := frozen_of_row _ _ _ _ _ b1f
    have f1 : w1.frozen? ⟨w.heap.size + 1, 1, none⟩ = false := frozen_of_row _ _ _ _ _ b1f
    have f2 : w1.frozen? ⟨w.heap.size + 1, 2, none⟩ = false := frozen_of_row _ _ _ _ _ b1f
    clear b0 b1 b1f
    by_cases h1 : i < f
    · clear ho
      go_enter Try.func12, Try.ntmps12
      go_upto_region 1 with (fail)
      rw [← hw1]
      clear hw1
      go_wp2
      change bodyPost _ _ _ _ _ (setL w1 (w.heap.size + 1) (.pointer none) (.slice none 0 0) (.slice none 0 0))
      generalize hv9 : setL w1 (w.heap.size + 1) (.pointer none) (.slice none 0 0) (.slice none 0 0) = v9
      obtain ⟨han, hz⟩ := FAIL.out v9 HP.out w1 K1.out B1.out hv9.symm
      obtain ⟨z0, z1, z2⟩ := tri_cells hz
      refine bodyPost_ret (v := .tuple #[.agg #[.pointer none, .slice none 0 0, .slice none 0 0], .int .i64 9]) (by simp [results, Try.results12, go_sem, Try.isAgg31, Try.sizeOf31, z0, z1, z2]) rfl ?_
      exact han
    · have h2 : last < i := by rcases ho with h | h; exact absurd h h1; exact h
      clear ho
      go_enter Try.func12, Try.ntmps12
      go_upto_region 1 with (fail)
      rw [← hw1]
      clear hw1
      go_wp2
      change bodyPost _ _ _ _ _ (setL w1 (w.heap.size + 1) (.pointer none) (.slice none 0 0) (.slice none 0 0))
      generalize hv9 : setL w1 (w.heap.size + 1) (.pointer none) (.slice none 0 0) (.slice none 0 0) = v9
      obtain ⟨han, hz⟩ := FAIL.out v9 HP.out w1 K1.out B1.out hv9.symm
      obtain ⟨z0, z1, z2⟩ := tri_cells hz
      refine bodyPost_ret (v := .tuple #[.agg #[.pointer none, .slice none 0 0, .slice none 0 0], .int .i64 9]) (by simp [results, Try.results12, go_sem, Try.isAgg31, Try.sizeOf31, z0, z1, z2]) rfl ?_
      exact han
  · have h1 : ¬ i < f := fun h => ho (.inl h)
    have h2 : ¬ last < i := fun h => ho (.inr h)
    have HOUT := Lib.hid ho
    clear b0 b1 ho
    go_enter Try.func12, Try.ntmps12
    go_upto_region 1 with (fail)
    rw [← hw1]
    clear hw1
    go_upto_region 5 with (fail)
    have k2 := Kept.alloc noBlock w1 (.cells #[.pointer none, .slice none 0 0, .slice none 0 0] 31)
    have b2 := heap_alloc_new w1 (.cells #[.pointer none, .slice none 0 0, .slice none 0 0] 31)
    obtain ⟨X, hX⟩ : ∃ X, X = w1.heap.size := ⟨_, rfl⟩
    rw [← hX] at b2 ⊢
    generalize w1.alloc (.cells #[.pointer none, .slice none 0 0, .slice none 0 0] 31) = w2 at k2 b2 ⊢
    have HX : Hid (X = w.heap.size + 2) := by unfold Hid; rw [hX, HSZ.out]
    have K2 := Lib.hid (K1.out.step k2)
    have B2 := Lib.hid b2
    have K12 := Lib.hid k2
    obtain ⟨c0, c1⟩ := pair_cells (k2.blk B0.out (fun h => h))
    have H2 := Lib.hid (H.out.keep k2 (fun _ _ h => h))
    have LF := Lib.hid (lfull_any (fun i => i < w.heap.size) A n c f i L w2 H2.out HL.out hn (HK.out 0))
    obtain ⟨o, ho⟩ : ∃ o, o = fullV (ordK 0 L) i := ⟨_, rfl⟩
    rw [← ho] at LF
    have HO := Lib.hid ho
    clear hX k2 b2 ho
    go_wp2_with fail
    refine LF.out.mono ?_
    rintro e w3 ⟨p, rfl, hp, k3⟩
    have b3 := k3.blk B2.out (fun h => h)
    have f0 : w3.frozen? ⟨X, 0, none⟩ = false := frozen_of_row _ _ _ _ _ b3
    obtain ⟨x0, x1, x2⟩ := tri_cells b3
    have K3 := Lib.hid (K2.out.step k3)
    have K23 := Lib.hid k3
    have B3 := Lib.hid b3
    have HP3 := Lib.hid hp
    clear k3 b3 LF hp c0 c1
    go_upto_region 6 with (fail)
    have kz : Kept (fun i => i = X) w3 (w3.setCell ⟨X, 0, none⟩ (.pointer p)) := Kept.setCell w3 (by rfl) _
    have hz := heap_setCell_same w3 X 0 _ 31 (.pointer p) B3.out
    generalize w3.setCell ⟨X, 0, none⟩ (.pointer p) = w4 at kz hz ⊢
    have B4 : Hid (w4.heap[X]? = some (.cells #[.pointer p, .slice none 0 0, .slice none 0 0] 31 (0, 0))) := by unfold Hid; simpa using hz
    have K4 : Hid (Kept noBlock w w4) := K3.out.trans kz (fun i hi e => by have := HX.out; omega)
    have K24 : Hid (Kept (fun i => i = X) w2 w4) := (K23.out.to).step kz
    have HP4 : Hid (PtAt w4 w.heap.size p o) := by
      have h3 := HP3.out
      unfold Hid
      cases o with
      | none => exact h3
      | some r =>
        obtain ⟨C, e1, e2, e3⟩ := h3
        have := HX.out
        have hne : ¬ C = X := fun e => by have := lt_of_blk B2.out; omega
        exact ⟨C, e1, by have := K2.out.size; omega, kz.blk e3 hne⟩
    clear hz kz f0 x0 x1 x2
    obtain ⟨x0, x1, x2⟩ := tri_cells B4.out
    obtain ⟨q, hq⟩ : ∃ q, q = posF L i := ⟨_, rfl⟩
    have HQ := Lib.hid hq
    have hqo : q = toV o := by rw [hq, HO.out]; rfl
    clear hq
    have HQO := Lib.hid hqo
    clear hqo
    go_upto_if 26 with (fail)
    go_cut [9] (fun x wc => x = .int .i64 q ∧ w4 = wc)
    case first =>
      cases o with
      | none =>
        obtain rfl : p = none := HP4.out
        go_wp2_with fail
        go_meet
        exact ⟨by rw [HQO.out]; rfl, rfl⟩
      | some r =>
        obtain ⟨C, rfl, _, hc⟩ := HP4.out
        obtain ⟨d0, d1, d2, d3⟩ := ref_cells hc
        clear hc
        go_wp2_with fail
        go_meet
        exact ⟨by rw [HQO.out]; rfl, rfl⟩
    case rest =>
      obtain ⟨rfl, rfl⟩ := hcut
      clear x0 x1 x2
      have H4 := Lib.hid (H2.out.keep K24.out (fun i hi e => by have := HX.out; omega))
      have DB := Lib.hid (dback_any (fun i => i < w.heap.size) A n c f q i L w4 H4.out HL.out hn (HK.out 1))
      obtain ⟨ds, hds⟩ : ∃ ds, ds = (posD L i).1 := ⟨_, rfl⟩
      obtain ⟨q2, hq2⟩ : ∃ q2, q2 = (posD L i).2 := ⟨_, rfl⟩
      have hd0 : dltV (ordK 1 L) q i = posD L i := by unfold posD; rw [HQ.out]
      rw [hd0, ← hds, ← hq2] at DB
      obtain ⟨k1, hk1⟩ : ∃ k1, k1 = ds.length := ⟨_, rfl⟩
      rw [← hk1] at DB
      have HDS := Lib.hid hds
      have HQ2 := Lib.hid hq2
      have HK1 := Lib.hid hk1
      have B04 := Lib.hid ((K12.out.to.step K24.out).blk B0.out (fun e => by have := HX.out; omega))
      obtain ⟨c0, c1⟩ := pair_cells B04.out
      clear hd0 hds hq2 hk1
      go_wp2_with fail
      refine DB.out.mono ?_
      rintro e w5 ⟨A1, c1', rfl, o5, k5⟩
      have b5 := k5.blk B4.out (fun h => h)
      have f0 : w5.frozen? ⟨X, 1, none⟩ = false := frozen_of_row _ _ _ _ _ b5
      obtain ⟨x0, x1, x2⟩ := tri_cells b5
      have K5 := Lib.hid (K4.out.step k5)
      have K45 := Lib.hid k5
      have B5 := Lib.hid b5
      have O5 := Lib.hid o5
      clear k5 b5 DB o5 c0 c1
      go_upto_region 9 with (fail)
      have kz : Kept (fun i => i = X) w5 (w5.setCell ⟨X, 1, none⟩ (.slice A1 k1 c1')) := Kept.setCell w5 (by rfl) _
      have hz := heap_setCell_same w5 X 1 _ 31 (.slice A1 k1 c1') B5.out
      generalize w5.setCell ⟨X, 1, none⟩ (.slice A1 k1 c1') = w6 at kz hz ⊢
      have B6 : Hid (w6.heap[X]? = some (.cells #[.pointer p, .slice A1 k1 c1', .slice none 0 0] 31 (0, 0))) := by unfold Hid; simpa using hz
      have K6 : Hid (Kept noBlock w w6) := K5.out.trans kz (fun i hi e => by have := HX.out; omega)
      have K26 : Hid (Kept (fun i => i = X) w2 w6) := (K24.out.step K45.out.to).step kz
      have hXw : X < w4.heap.size := lt_of_blk B4.out
      have O6 := Lib.hid (own_keep O5.out kz (fun i hi e => by have := (O5.out.lt i hi).1; omega))
      have hp6 : PtAt w6 w.heap.size p o := by
        have h3 := HP4.out
        cases o with
        | none => exact h3
        | some r =>
          obtain ⟨C, e1, e2, e3⟩ := h3
          have hne : ¬ C = X := fun e => by rw [e, B4.out] at e3; simp at e3
          exact ⟨C, e1, e2, (K45.out.to.step kz).blk e3 hne⟩
      have HP6 := Lib.hid hp6
      clear hz kz f0 x0 x1 x2 hp6 hXw
      have H6 := Lib.hid (H2.out.keep K26.out (fun i hi e => by have := HX.out; omega))
      have PB := Lib.hid (pback_any (fun i => i < w.heap.size) A n c f q2 last i L w6 H6.out HL.out hn (HK.out 2))
      obtain ⟨ps, hps⟩ : ∃ ps, ps = (posP L last i).1 := ⟨_, rfl⟩
      obtain ⟨q3, hq3⟩ : ∃ q3, q3 = (posP L last i).2 := ⟨_, rfl⟩
      have hd0 : prtV (ordK 2 L) q2 last i = posP L last i := by unfold posP; rw [HQ2.out]
      rw [hd0, ← hps, ← hq3] at PB
      obtain ⟨k2, hk2⟩ : ∃ k2, k2 = ps.length := ⟨_, rfl⟩
      rw [← hk2] at PB
      have HPS := Lib.hid hps
      have HQ3 := Lib.hid hq3
      have HK2 := Lib.hid hk2
      have B06 := Lib.hid ((K12.out.to.step K26.out).blk B0.out (fun e => by have := HX.out; omega))
      obtain ⟨c0, c1⟩ := pair_cells B06.out
      clear hd0 hps hq3 hk2
      go_wp2_with fail
      refine PB.out.mono ?_
      rintro e w7 ⟨A2, c2', rfl, o7, k7⟩
      have b7 := k7.blk B6.out (fun h => h)
      have f0 : w7.frozen? ⟨X, 2, none⟩ = false := frozen_of_row _ _ _ _ _ b7
      obtain ⟨x0, x1, x2⟩ := tri_cells b7
      have K7 := Lib.hid (K6.out.step k7)
      have K67 := Lib.hid k7
      have B7 := Lib.hid b7
      have O7 := Lib.hid o7
      clear k7 b7 PB o7 c0 c1
      go_upto_region 10 with (fail)
      have kz : Kept (fun i => i = X) w7 (w7.setCell ⟨X, 2, none⟩ (.slice A2 k2 c2')) := Kept.setCell w7 (by rfl) _
      have hz := heap_setCell_same w7 X 2 _ 31 (.slice A2 k2 c2') B7.out
      generalize w7.setCell ⟨X, 2, none⟩ (.slice A2 k2 c2') = w8 at kz hz ⊢
      have B8 : Hid (w8.heap[X]? = some (.cells #[.pointer p, .slice A1 k1 c1', .slice A2 k2 c2'] 31 (0, 0))) := by unfold Hid; simpa using hz
      have K8 : Hid (Kept noBlock w w8) := K7.out.trans kz (fun i hi e => by have := HX.out; omega)
      have K28 : Hid (Kept (fun i => i = X) w2 w8) := (K26.out.step K67.out.to).step kz
      have hXw : X < w6.heap.size := lt_of_blk B6.out
      have O8 := Lib.hid (own_keep O7.out kz (fun i hi e => by have := (O7.out.lt i hi).1; omega))
      have O68 := Lib.hid (own_keep O6.out (K67.out.to.step kz) (fun i hi e => by have := (O6.out.lt i hi).1; have := lt_of_blk B4.out; omega))
      have hp8 : PtAt w8 w.heap.size p o := by
        have h3 := HP6.out
        cases o with
        | none => exact h3
        | some r =>
          obtain ⟨C, e1, e2, e3⟩ := h3
          have hne : ¬ C = X := fun e => by rw [e, B6.out] at e3; simp at e3
          exact ⟨C, e1, e2, (K67.out.to.step kz).blk e3 hne⟩
      have HP8 := Lib.hid hp8
      have B18 := Lib.hid ((K12.out.to.step K28.out).blk B1.out (fun e => by have := HX.out; omega))
      clear hz kz f0 x0 x1 x2 hp8 hXw
      obtain ⟨r0, r1, r2⟩ := tri_cells B18.out
      have f0 : w8.frozen? ⟨w.heap.size + 1, 0, none⟩ = false := frozen_of_row _ _ _ _ _ B18.out
      have f1 : w8.frozen? ⟨w.heap.size + 1, 1, none⟩ = false := frozen_of_row _ _ _ _ _ B18.out
      have f2 : w8.frozen? ⟨w.heap.size + 1, 2, none⟩ = false := frozen_of_row _ _ _ _ _ B18.out
      by_cases hlt : q3 < i
      · have HPL := Lib.hid (planV_not HOUT.out (by rw [← HQ3.out]; exact hlt))
        go_wp2
        change bodyPost _ _ _ _ _ (setL w8 (w.heap.size + 1) (.pointer none) (.slice none 0 0) (.slice none 0 0))
        generalize hv9 : setL w8 (w.heap.size + 1) (.pointer none) (.slice none 0 0) (.slice none 0 0) = v9
        obtain ⟨han, hz⟩ := FAIL.out v9 HPL.out w8 K8.out B18.out hv9.symm
        obtain ⟨z0, z1, z2⟩ := tri_cells hz
        refine bodyPost_ret (v := .tuple #[.agg #[.pointer none, .slice none 0 0, .slice none 0 0], .int .i64 9]) (by simp [results, Try.results12, go_sem, Try.isAgg31, Try.sizeOf31, z0, z1, z2]) rfl ?_
        exact han
      · have HPL := Lib.hid (planV_yes HOUT.out (by rw [← HQ3.out]; exact hlt))
        obtain ⟨y0, y1, y2⟩ := tri_cells B8.out
        go_wp2
        change bodyPost _ _ _ _ _ (setL w8 (w.heap.size + 1) (.pointer p) (.slice A1 k1 c1') (.slice A2 k2 c2'))
        obtain ⟨hz, kz⟩ := tri_set (x0 := .pointer p) (x1 := .slice A1 k1 c1') (x2 := .slice A2 k2 c2') B18.out
        generalize setL w8 (w.heap.size + 1) (.pointer p) (.slice A1 k1 c1') (.slice A2 k2 c2') = v9 at hz kz ⊢
        obtain ⟨z0, z1, z2⟩ := tri_cells hz
        refine bodyPost_ret (v := .tuple #[.agg #[.pointer p, .slice A1 k1 c1', .slice A2 k2 c2'], .int .i64 0]) (by simp [results, Try.results12, go_sem, Try.isAgg31, Try.sizeOf31, z0, z1, z2]) rfl ?_
        rw [HPL.out, ← HDS.out, ← HPS.out, ← HO.out]
        refine ⟨p, A1, c1', A2, c2', ?_, ⟨?_, ?_, ?_⟩, K8.out.trans kz (fun i hi e => by omega)⟩
        · unfold plnv
          simp only
          rw [← HK1.out, ← HK2.out]
        · have h3 := HP8.out
          cases o with
          | none => exact h3
          | some r =>
            obtain ⟨C, e1, e2, e3⟩ := h3
            have hne : ¬ C = w.heap.size + 1 := fun e => by rw [e, B18.out] at e3; simp at e3
            exact ⟨C, e1, e2, kz.blk e3 hne⟩
        · simp only
          rw [← HK1.out]
          exact own_base (own_keep O68.out kz (fun i hi e => by have := (O6.out.lt i hi).1; have := lt_of_blk B4.out; have := HX.out; omega)) (fun i hi => Nat.le_trans K4.out.size (O6.out.lt i hi).1)
        · simp only
          rw [← HK2.out]
          exact own_base (own_keep O8.out kz (fun i hi e => by have := (O8.out.lt i hi).1; have := lt_of_blk B6.out; have := HX.out; omega)) (fun i hi => Nat.le_trans K6.out.size (O8.out.lt i hi).1)
end Go.Proofs.Ytollmkkbeeeccaa
