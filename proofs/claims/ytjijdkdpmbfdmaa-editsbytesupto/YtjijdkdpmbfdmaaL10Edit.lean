/-
  The edit of a step. No statement is proved here.
-/
import Derived.Test.YtjijdkdpmbfdmaaL10Step
import Derived.IntWalk
namespace Go.Proofs.Ytjijdkdpmbfdmaa
open Go.RowKit Tot

theorem u8_tmod (n : UInt8) (k : Nat) : ((n.toNat : Int)).tmod (k : Int) = ((n.toNat % k : Nat) : Int) := by
  rw [Int.tmod_eq_emod_of_nonneg (by omega)]
  omega
theorem u8_tdiv (n : UInt8) (k : Nat) : ((n.toNat : Int)).tdiv (k : Int) = ((n.toNat / k : Nat) : Int) := by
  rw [Int.tdiv_eq_ediv_of_nonneg (by omega)]
  omega
theorem step_cells {w : World} {R : Nat} {x0 x1 x2 x3 x4 x5 x6 x7 : Value} {t : TypeId} {fr : Nat × Nat} (h : w.heap[R]? = some (.cells #[x0, x1, x2, x3, x4, x5, x6, x7] t fr)) :
    w.cell? ⟨R, 0, none⟩ = some x0 ∧ w.cell? ⟨R, 1, none⟩ = some x1 ∧ w.cell? ⟨R, 2, none⟩ = some x2 ∧ w.cell? ⟨R, 3, none⟩ = some x3 ∧ w.cell? ⟨R, 4, none⟩ = some x4 ∧ w.cell? ⟨R, 5, none⟩ = some x5 ∧ w.cell? ⟨R, 6, none⟩ = some x6 ∧ w.cell? ⟨R, 7, none⟩ = some x7 :=
  ⟨cell_of_row _ _ _ _ _ _ h, cell_of_row _ _ _ _ _ _ h, cell_of_row _ _ _ _ _ _ h, cell_of_row _ _ _ _ _ _ h, cell_of_row _ _ _ _ _ _ h, cell_of_row _ _ _ _ _ _ h, cell_of_row _ _ _ _ _ _ h, cell_of_row _ _ _ _ _ _ h⟩

theorem own_cells10 {w : World} {base : Nat} {e : TypeId} {size n : Nat} {v : Value} {xs : List Value} (h : w.ownsRow base e size v n xs) : ∀ k, v.ownBlock = some k → ∃ cs fr, w.heap[k]? = some (.cells cs e fr) := by
  rcases h.2 with ⟨rfl, _⟩ | ⟨g', cap, cur, rfl, _, hh, _⟩
  · intro k hk; simp [Value.ownBlock] at hk
  · intro k hk
    simp [Value.ownBlock] at hk
    subst hk
    exact ⟨_, _, hh⟩

set_option maxRecDepth 100000 in
set_option maxHeartbeats 1000000 in
theorem ledit_any (F : Nat → Prop) (x : StepV) (w : World) (h : x.lies F w) :
    Calls Try.prog 12 #[x.val] w fun e w' => ∃ A ca D cd, e = .returned (evl (editOf x) A ca D cd) ∧ Ev w' (fresh w w') (editOf x) A ca D cd ∧ Kept noBlock w w' := by
  obtain ⟨xA, xca, xadd, xD, xcd, xdrop, xfl, xodd, xany⟩ := x
  obtain ⟨na, hna⟩ : ∃ n, n = xadd.length := ⟨_, rfl⟩
  obtain ⟨nd, hnd⟩ : ∃ n, n = xdrop.length := ⟨_, rfl⟩
  obtain ⟨fl, hfl⟩ : ∃ fl, fl = xfl.toNat % 16 := ⟨_, rfl⟩
  have t1 : ((xfl.toNat : Int)).tmod 16 = (fl : Int) := by rw [hfl]; exact u8_tmod xfl 16
  have hfl16 : fl < 16 := by omega
  obtain ⟨w1, hw1⟩ : ∃ w1, w1 = ((w.alloc (.cells #[.slice xA na xca, .slice xD nd xcd, .int .u8 (xfl.toNat : Int), .bool xodd, .string xany.name, .int .i64 xany.kind, .int .i64 xany.from_, .int .i64 xany.to_] 33)).alloc (.cells #[.slice none 0 0, .slice none 0 0, .int .i64 0] 36)).alloc (.cells #[.slice none 0 0, .slice none 0 0, .int .i64 (fl : Int)] 36) := ⟨_, rfl⟩
  have k1 : Kept noBlock w w1 := by rw [hw1]; exact ((Kept.alloc _ _ _).step (Kept.alloc _ _ _)).step (Kept.alloc _ _ _)
  have b0 : w1.heap[w.heap.size]? = some (.cells #[.slice xA na xca, .slice xD nd xcd, .int .u8 (xfl.toNat : Int), .bool xodd, .string xany.name, .int .i64 xany.kind, .int .i64 xany.from_, .int .i64 xany.to_] 33 (0, 0)) := by rw [hw1]; exact ((Kept.alloc noBlock _ _).step (Kept.alloc _ _ _)).blk (heap_alloc_new w _) (fun h => h)
  have b1 : w1.heap[w.heap.size + 1]? = some (.cells #[.slice none 0 0, .slice none 0 0, .int .i64 0] 36 (0, 0)) := by
    rw [hw1]
    exact (Kept.alloc noBlock _ _).blk (by have := heap_alloc_new (w.alloc (.cells #[.slice xA na xca, .slice xD nd xcd, .int .u8 (xfl.toNat : Int), .bool xodd, .string xany.name, .int .i64 xany.kind, .int .i64 xany.from_, .int .i64 xany.to_] 33)) (.cells #[.slice none 0 0, .slice none 0 0, .int .i64 0] 36); simpa using this) (fun h => h)
  have b2 : w1.heap[w.heap.size + 2]? = some (.cells #[.slice none 0 0, .slice none 0 0, .int .i64 (fl : Int)] 36 (0, 0)) := by
    rw [hw1]
    have := heap_alloc_new ((w.alloc (.cells #[.slice xA na xca, .slice xD nd xcd, .int .u8 (xfl.toNat : Int), .bool xodd, .string xany.name, .int .i64 xany.kind, .int .i64 xany.from_, .int .i64 xany.to_] 33)).alloc (.cells #[.slice none 0 0, .slice none 0 0, .int .i64 0] 36)) (.cells #[.slice none 0 0, .slice none 0 0, .int .i64 (fl : Int)] 36)
    simpa using this
  obtain ⟨M, hme⟩ : ∃ M, M = min na 4 := ⟨_, rfl⟩
  obtain ⟨ML, hml⟩ : ∃ M, M = min nd 4 := ⟨_, rfl⟩
  have q1 : (if (4 : Int) < (na : Int) then (4 : Int) else (na : Int)) = (M : Int) := by split <;> omega
  have q2 : min (na : Int) 4 = (M : Int) := by omega
  have q3 : (if (4 : Int) < (nd : Int) then (4 : Int) else (nd : Int)) = (ML : Int) := by split <;> omega
  have q4 : min (nd : Int) 4 = (ML : Int) := by omega
  have hca : na ≤ xca := by rw [hna]; exact h.ca
  have hcd : nd ≤ xcd := by rw [hnd]; exact h.cd
  have i1 : (M : Int) ≤ xca := by omega
  have i2 : (ML : Int) ≤ xcd := by omega
  have hM : M ≤ 4 := by omega
  have hML : ML ≤ 4 := by omega
  have HNA := Lib.hid hna
  have HND := Lib.hid hnd
  have HFL := Lib.hid hfl
  have HME := Lib.hid hme
  have HML := Lib.hid hml
  have H1 := Lib.hid (h.lt.keep k1 (fun _ _ h => h))
  have HSZ : Hid (w1.heap.size = w.heap.size + 3) := by unfold Hid; rw [hw1]; simp
  have K1 := Lib.hid k1
  have B0 := Lib.hid b0
  have B1 := Lib.hid b1
  have B2 := Lib.hid b2
  unfold StepV.val
  simp only
  rw [← hna, ← hnd]
  clear hna hnd hfl h k1 b0 b1 b2 hme hml
  go_enter Try.func12, Try.ntmps12
  go_upto_region 2 with (fail)
  rw [← hw1]
  obtain ⟨c0, c1, c2, c3, c4, c5, c6, c7⟩ := step_cells B0.out
  clear hw1 t1
  go_wp2_with fail
  go_loopw [22] (fun i wr => ∃ (k : Nat) (A1 : Option Addr) (p1 : Nat), k ≤ M ∧ i = .int .i64 (k : Int) ∧ Hid (wr.heap[w.heap.size + 2]? = some (.cells #[.slice A1 k p1, .slice none 0 0, .int .i64 (fl : Int)] 36 (0, 0))) ∧ Hid (wr.ownsRow 0 31 4 (.slice A1 k p1) k (refCells ((xadd.take k).map refOf))) ∧
    Hid (∀ i, (Value.slice A1 k p1).ownBlock = some i → w.heap.size + 2 < i) ∧ Hid (Kept (fun i => i = w.heap.size + 2) w1 wr)) (fun i _ => M - (intOf i).toNat)
  case atStart => exact ⟨0, none, 0, by omega, rfl, B2, World.ownsRow_nil _ _ _ _, fun i hi => by simp [Value.ownBlock] at hi, Kept.refl _ _⟩
  case round =>
    obtain ⟨k, A1, p1, hkM, rfl, HE, HO, HOB, HK⟩ := hrel
    by_cases hlt : k < M
    · obtain ⟨y, hy⟩ : ∃ y, xadd[k]? = some y := ⟨_, List.getElem?_eq_getElem (by have := HNA.out; have := HME.out; omega)⟩
      obtain ⟨ad, rfl, _, hcell⟩ := (H1.out.la.keep HK.out (fun i hi e => by omega)).at_ (k := k) (u := bv y) (by simp [hy])
      unfold bv at hcell
      have hy256 := y.toNat_lt
      have LN := Lib.hid (fun u => lname_any y u)
      obtain ⟨nmx, hnmx⟩ : ∃ s, s = nmE (y.toNat % 8) := ⟨_, rfl⟩
      rw [← hnmx] at LN
      obtain ⟨d8, hd8⟩ : ∃ k, k = y.toNat / 8 := ⟨_, rfl⟩
      obtain ⟨k3, hk3⟩ : ∃ k, k = d8 % 3 := ⟨_, rfl⟩
      obtain ⟨qq, hqq⟩ : ∃ k, k = y.toNat / 32 := ⟨_, rfl⟩
      obtain ⟨r5, hr5⟩ : ∃ k, k = y.toNat % 5 := ⟨_, rfl⟩
      have t1 : ((y.toNat : Int)).tdiv 8 = (d8 : Int) := by rw [hd8]; exact u8_tdiv y 8
      have t2 : ((d8 : Int)).tmod 3 = (k3 : Int) := by rw [hk3, Int.tmod_eq_emod_of_nonneg (by omega)]; omega
      have t3 : ((y.toNat : Int)).tdiv 32 = (qq : Int) := by rw [hqq]; exact u8_tdiv y 32
      have t4 : ((y.toNat : Int)).tmod 5 = (r5 : Int) := by rw [hr5]; exact u8_tmod y 5
      have b1 : d8 < 32 := by omega
      have b2 : k3 < 3 := by omega
      have b3 : qq < 8 := by omega
      have b4 : r5 < 5 := by omega
      have HREF : Hid (refOf y = ⟨nmx, (k3 : Int), (qq : Int), ((if k3 = 0 then qq else qq + r5 : Nat) : Int)⟩) := by unfold Hid refOf; rw [← hd8, ← hk3, ← hqq, ← hr5, ← hnmx]
      have HY := Lib.hid hy
      clear hd8 hk3 hqq hr5 hnmx hy
      go_wp2_with fail
      refine (LN.out wr).mono ?_
      rintro e w4 ⟨rfl, rfl⟩
      go_upto_region 6 with (fail)
      obtain ⟨C, hC⟩ : ∃ C, C = wr.heap.size := ⟨_, rfl⟩
      have k5 := Kept.alloc noBlock wr (.cells #[.string nmx, .int .i64 (k3 : Int), .int .i64 (qq : Int), .int .i64 ((qq : Int) + (r5 : Int))] 31)
      have h5 := heap_alloc_new wr (.cells #[.string nmx, .int .i64 (k3 : Int), .int .i64 (qq : Int), .int .i64 ((qq : Int) + (r5 : Int))] 31)
      rw [← hC] at h5 ⊢
      generalize wr.alloc (.cells #[.string nmx, .int .i64 (k3 : Int), .int .i64 (qq : Int), .int .i64 ((qq : Int) + (r5 : Int))] 31) = w5 at k5 h5 ⊢
      have H5 := Lib.hid h5
      have K5 := Lib.hid k5
      have HC := Lib.hid hC
      obtain ⟨d0, d1, d2, d3⟩ := ref_cells h5
      have f3 : w5.frozen? ⟨C, 3, none⟩ = false := frozen_of_row _ _ _ _ _ h5
      clear t1 t2 t3 t4 hcell k5 h5 hC LN b1
      by_cases h30 : k3 = 0
      · subst h30
        rw [if_pos rfl] at HREF
        have ks : Kept (fun i => i = C) w5 (w5.setCell ⟨C, 3, none⟩ (.int .i64 (qq : Int))) := Kept.setCell w5 (by rfl) _
        have hz := heap_setCell_same w5 C 3 _ 31 (.int .i64 (qq : Int)) H5.out
        go_upto_region 8 with (fail)
        have k6 : Kept noBlock wr (w5.setCell ⟨C, 3, none⟩ (.int .i64 (qq : Int))) := K5.out.trans ks (fun i hi e => by have := HC.out; omega)
        have h6 : (w5.setCell ⟨C, 3, none⟩ (.int .i64 (qq : Int))).heap[C]? = some (.cells #[.string nmx, .int .i64 ((0 : Nat) : Int), .int .i64 (qq : Int), .int .i64 (qq : Int)] 31 (0, 0)) := by simpa using hz
        generalize w5.setCell ⟨C, 3, none⟩ (.int .i64 (qq : Int)) = w6 at k6 h6 ⊢
        have K6 := Lib.hid k6
        have HB6 := Lib.hid h6
        clear d0 d1 d2 d3 f3 ks hz k6 h6 H5 K5
        have c80 := cell_of_row _ _ 0 _ _ _ (K6.out.blk HE.out (fun h => h))
        obtain ⟨es, hes⟩ : ∃ es, es = (xadd.take k).map refOf := ⟨_, rfl⟩
        have HES := Lib.hid hes
        have ol := Lib.hid (own_keep HO.out K6.out (fun _ _ h => h))
        rw [← hes] at ol
        clear hes
        obtain ⟨d0, d1, d2, d3⟩ := ref_cells HB6.out
        go_wp2_with (at_builtin; refine wpList_append_src rfl (.tmp 50) (.tmp 52) 24 24 rfl 31 noRef.val 4 40 Try.underlying24 Try.infoRef rfl (.slice A1 k p1) k (refCells es) rfl (own_keep ol.out (Kept.alloc noBlock _ _) (fun _ _ h => h)) _ 1 (refCells [⟨nmx, ((0 : Nat) : Int), (qq : Int), (qq : Int)⟩]) rfl (src_ref _ (heap_alloc_new _ _)) ?c3 ?c4 ?_)
        case c3 => unfold maxLen; omega
        case c4 => omega
        intro A9 p9 u9 o9 k9 a9
        have ka := Kept.alloc noBlock w6 (.cells #[.string nmx, .int .i64 ((0 : Nat) : Int), .int .i64 (qq : Int), .int .i64 (qq : Int)] 31)
        have K9 : Hid (Kept (fun i => (Value.slice A1 k p1).ownBlock = some i) wr u9) := (K6.out.step ka).to.step k9
        have hb9 := K9.out.blk HE.out (fun h => by have := HOB.out _ h; omega)
        have c90 : u9.cell? ⟨w.heap.size + 2, 0, none⟩ = some (.slice A1 k p1) := cell_of_row _ _ _ _ _ _ hb9
        have f90 : u9.frozen? ⟨w.heap.size + 2, 0, none⟩ = false := frozen_of_row _ _ _ _ _ hb9
        have HB9 : Hid (∀ i, (Value.slice A9 (k + 1) p9).ownBlock = some i → w.heap.size + 2 < i) := fun i hi => by
          rcases a9 i hi with h | h
          · exact HOB.out i h
          · have h1 := h.1
            simp only [World.size_alloc] at h1
            have h2 := K6.out.size
            have h3 := lt_of_blk HE.out
            omega
        have HO9 : Hid (u9.ownsRow 0 31 4 (.slice A9 (k + 1) p9) (k + 1) (refCells ((xadd.take (k + 1)).map refOf))) := by
          unfold Hid
          rw [take_snoc xadd k y HY.out, List.map_append, refCells_append, List.map_singleton, HREF.out, ← HES.out]
          exact o9
        have ks : Kept (fun i => i = w.heap.size + 2) u9 (u9.setCell ⟨w.heap.size + 2, 0, none⟩ (.slice A9 (k + 1) p9)) := Kept.setCell u9 (by rfl) _
        have hz := heap_setCell_same u9 (w.heap.size + 2) 0 _ 36 (.slice A9 (k + 1) p9) hb9
        have HEZ : Hid ((u9.setCell ⟨w.heap.size + 2, 0, none⟩ (.slice A9 (k + 1) p9)).heap[w.heap.size + 2]? = some (.cells #[.slice A9 (k + 1) p9, .slice none 0 0, .int .i64 (fl : Int)] 36 (0, 0))) := by unfold Hid; simpa using hz
        have HOZ := Lib.hid (own_keep HO9.out ks (fun i hi e => by have := HB9.out i hi; omega))
        have KZ : Hid (Kept (fun i => i = w.heap.size + 2) w1 (u9.setCell ⟨w.heap.size + 2, 0, none⟩ (.slice A9 (k + 1) p9))) := (HK.out.trans K9.out (fun i hi h => by have := HOB.out i h; have := lt_of_blk B2.out; have := HSZ.out; omega)).step ks
        clear c80 d0 d1 d2 d3 o9 k9 a9 ka hb9 ks hz
        go_wp2
        go_roundw
        case rel => exact ⟨k + 1, A9, p9, by omega, by go_num, HEZ, HOZ, HB9, KZ⟩
        case measure => simp [intOf]; omega
      · rw [if_neg h30] at HREF
        have h31 : ((k3 : Int) == 0) = false := by simpa using h30
        obtain ⟨tt, htt⟩ : ∃ tt, tt = qq + r5 := ⟨_, rfl⟩
        have e5 : (qq : Int) + (r5 : Int) = (tt : Int) := by omega
        rw [← htt] at HREF
        rw [e5] at H5 d3
        rw [e5]
        have b6 : tt < 20 := by omega
        clear htt e5
        go_upto_region 8 with (fail)
        obtain ⟨w6, hw6⟩ : ∃ w6, w6 = w5 := ⟨_, rfl⟩
        rw [← hw6] at H5 K5 ⊢
        have K6 := K5
        have HB6 := H5
        clear d0 d1 d2 d3 f3 h30 h31 H5 K5 hw6
        have c80 := cell_of_row _ _ 0 _ _ _ (K6.out.blk HE.out (fun h => h))
        obtain ⟨es, hes⟩ : ∃ es, es = (xadd.take k).map refOf := ⟨_, rfl⟩
        have HES := Lib.hid hes
        have ol := Lib.hid (own_keep HO.out K6.out (fun _ _ h => h))
        rw [← hes] at ol
        clear hes
        obtain ⟨d0, d1, d2, d3⟩ := ref_cells HB6.out
        go_wp2_with (at_builtin; refine wpList_append_src rfl (.tmp 50) (.tmp 52) 24 24 rfl 31 noRef.val 4 40 Try.underlying24 Try.infoRef rfl (.slice A1 k p1) k (refCells es) rfl (own_keep ol.out (Kept.alloc noBlock _ _) (fun _ _ h => h)) _ 1 (refCells [⟨nmx, (k3 : Int), (qq : Int), (tt : Int)⟩]) rfl (src_ref _ (heap_alloc_new _ _)) ?c3 ?c4 ?_)
        case c3 => unfold maxLen; omega
        case c4 => omega
        intro A9 p9 u9 o9 k9 a9
        have ka := Kept.alloc noBlock w6 (.cells #[.string nmx, .int .i64 (k3 : Int), .int .i64 (qq : Int), .int .i64 (tt : Int)] 31)
        have K9 : Hid (Kept (fun i => (Value.slice A1 k p1).ownBlock = some i) wr u9) := (K6.out.step ka).to.step k9
        have hb9 := K9.out.blk HE.out (fun h => by have := HOB.out _ h; omega)
        have c90 : u9.cell? ⟨w.heap.size + 2, 0, none⟩ = some (.slice A1 k p1) := cell_of_row _ _ _ _ _ _ hb9
        have f90 : u9.frozen? ⟨w.heap.size + 2, 0, none⟩ = false := frozen_of_row _ _ _ _ _ hb9
        have HB9 : Hid (∀ i, (Value.slice A9 (k + 1) p9).ownBlock = some i → w.heap.size + 2 < i) := fun i hi => by
          rcases a9 i hi with h | h
          · exact HOB.out i h
          · have h1 := h.1
            simp only [World.size_alloc] at h1
            have h2 := K6.out.size
            have h3 := lt_of_blk HE.out
            omega
        have HO9 : Hid (u9.ownsRow 0 31 4 (.slice A9 (k + 1) p9) (k + 1) (refCells ((xadd.take (k + 1)).map refOf))) := by
          unfold Hid
          rw [take_snoc xadd k y HY.out, List.map_append, refCells_append, List.map_singleton, HREF.out, ← HES.out]
          exact o9
        have ks : Kept (fun i => i = w.heap.size + 2) u9 (u9.setCell ⟨w.heap.size + 2, 0, none⟩ (.slice A9 (k + 1) p9)) := Kept.setCell u9 (by rfl) _
        have hz := heap_setCell_same u9 (w.heap.size + 2) 0 _ 36 (.slice A9 (k + 1) p9) hb9
        have HEZ : Hid ((u9.setCell ⟨w.heap.size + 2, 0, none⟩ (.slice A9 (k + 1) p9)).heap[w.heap.size + 2]? = some (.cells #[.slice A9 (k + 1) p9, .slice none 0 0, .int .i64 (fl : Int)] 36 (0, 0))) := by unfold Hid; simpa using hz
        have HOZ := Lib.hid (own_keep HO9.out ks (fun i hi e => by have := HB9.out i hi; omega))
        have KZ : Hid (Kept (fun i => i = w.heap.size + 2) w1 (u9.setCell ⟨w.heap.size + 2, 0, none⟩ (.slice A9 (k + 1) p9))) := (HK.out.trans K9.out (fun i hi h => by have := HOB.out i h; have := lt_of_blk B2.out; have := HSZ.out; omega)).step ks
        clear c80 d0 d1 d2 d3 o9 k9 a9 ka hb9 ks hz
        go_wp2
        go_roundw
        case rel => exact ⟨k + 1, A9, p9, by omega, by go_num, HEZ, HOZ, HB9, KZ⟩
        case measure => simp [intOf]; omega
    · obtain rfl : k = M := by omega
      have HR1 := Lib.hid (own_cells10 HO.out)
      obtain ⟨c0, c1, c2, c3, c4, c5, c6, c7⟩ := step_cells (HK.out.blk B0.out (show ¬ (w.heap.size = w.heap.size + 2) by omega))
      clear hlt
      go_wp2_with fail
      go_loopw [64] (fun i wr => ∃ (j : Nat) (A2 : Option Addr) (p2 : Nat), j ≤ ML ∧ i = .int .i64 (j : Int) ∧ Hid (wr.heap[w.heap.size + 2]? = some (.cells #[.slice A1 k p1, .slice A2 j p2, .int .i64 (fl : Int)] 36 (0, 0))) ∧ Hid (wr.ownsRow 0 31 4 (.slice A1 k p1) k (refCells ((xadd.take k).map refOf))) ∧
        Hid (wr.ownsRow 0 9 1 (.slice A2 j p2) j (((xdrop.take j).map (fun n => nmE (n.toNat % 8))).map Value.string)) ∧ Hid (∀ i, (Value.slice A2 j p2).ownBlock = some i → w.heap.size + 2 < i) ∧ Hid (Kept (fun i => i = w.heap.size + 2) w1 wr)) (fun i _ => ML - (intOf i).toNat)
      case atStart => exact ⟨0, none, 0, by omega, rfl, HE, HO, World.ownsRow_nil _ _ _ _, fun i hi => by simp [Value.ownBlock] at hi, HK⟩
      case round =>
        obtain ⟨j, A2, p2, hjM, rfl, HE2, HO1, HO2, HOB2, HK2⟩ := hrel
        by_cases hlt : j < ML
        · obtain ⟨y, hy⟩ : ∃ y, xdrop[j]? = some y := ⟨_, List.getElem?_eq_getElem (by have := HND.out; have := HML.out; omega)⟩
          obtain ⟨ad, rfl, _, hcell⟩ := (H1.out.ld.keep HK2.out (fun i hi e => by omega)).at_ (k := j) (u := bv y) (by simp [hy])
          unfold bv at hcell
          have LN := Lib.hid (fun u => lname_any y u)
          obtain ⟨nmx, hnmx⟩ : ∃ s, s = nmE (y.toNat % 8) := ⟨_, rfl⟩
          rw [← hnmx] at LN
          have HNM := Lib.hid hnmx
          have HY := Lib.hid hy
          obtain ⟨es, hes⟩ : ∃ es, es = ((xdrop.take j).map (fun n => nmE (n.toNat % 8))).map Value.string := ⟨_, rfl⟩
          rw [← hes] at HO2
          have HES := Lib.hid hes
          clear hnmx hy hes
          have KC : Hid (Kept noBlock wr wr.drew) := Kept.drew _ _
          have CEE : Hid (∀ u, Kept noBlock wr u → u.cell? ⟨w.heap.size + 2, 1, none⟩ = some (.slice A2 j p2)) := fun u k => cell_of_row _ _ _ _ _ _ (k.blk HE2.out (fun h => h))
          go_upto_region 13 with (fail)
          refine wp_region_noPanic ?_
          refine wp_region_held_drew (S := fun _ => True) (by kernel_rfl) trivial (fun hHeld => ?_)
          refine wpAnyH_take (i := 0) (oi := ⟨some 68, Op.fieldAddr 36 (Operand.tmp 3) 1, 0, _, _, none⟩) (v := ?v0n1k1) rfl (by kernel_rfl) (by kernel_rfl) (by kernel_rfl) (fun _ _ _ h => h) (Or.inl ⟨by rfl, ?y0n1k1⟩) hHeld ?z0n1k1
          case y0n1k1 => intro w hSw; (try dsimp only at hSw); go_simp <;> rfl
          try simp only [Act.put, List.setIfInBounds_toArray, List.set_cons_zero, List.set_cons_succ]
          refine wpAnyH_take (i := 2) (oi := ⟨some 70, Op.move (Operand.tmp 8), 5, _, _, none⟩) (v := ?v2n1k2) rfl (by kernel_rfl) (by kernel_rfl) (by kernel_rfl) (fun _ _ _ h => h) (Or.inl ⟨by rfl, ?y2n1k2⟩) hHeld ?z2n1k2
          case y2n1k2 => intro w hSw; (try dsimp only at hSw); go_simp <;> rfl
          try simp only [Act.put, List.setIfInBounds_toArray, List.set_cons_zero, List.set_cons_succ]
          refine wpAnyH_ready (rs := [1, 3]) (by kernel_rfl) (by simp) ?_
          refine (AllReadyH.cons (o := ⟨some 69, Op.load 34 (Operand.tmp 68), 34, _, _, none⟩) rfl (fun K hK => ?b1n1k4) (AllReadyH.cons (o := ⟨some 71, Op.call { callee := Callee.value (Operand.func 19), args := #[Operand.tmp 70], argTypes := #[5] }, 9, _, _, none⟩) rfl (fun K hK => ?b3n1k3) AllReadyH.nil))
          case b1n1k4 =>
            have hcb := CEE.out _ KC.out
            go_simp
            refine hK.out _ _ trivial (fun hHeld => ?_)
            clear hK K
            try simp only [Act.put, List.setIfInBounds_toArray, List.set_cons_zero, List.set_cons_succ]
            refine wpAnyH_ready (rs := [3]) (by kernel_rfl) (by simp) ?_
            refine AllReadyH.cons (o := ⟨some 71, Op.call { callee := Callee.value (Operand.func 19), args := #[Operand.tmp 70], argTypes := #[5] }, 9, _, _, none⟩) rfl (fun K hK => ?_) AllReadyH.nil
            go_simp
            refine (LN.out _).mono ?_
            rintro en u3 ⟨rfl, rfl⟩
            dsimp only
            refine hK.out _ _ trivial (fun hHeld => ?_)
            clear hK K
            try simp only [Act.put, List.setIfInBounds_toArray, List.set_cons_zero, List.set_cons_succ]
            refine wpAnyH_ready (rs := [4]) (by kernel_rfl) (by simp) ?_
            refine AllReadyH.cons (o := ⟨some 72, Op.buildSlice 34 1 #[(0, Operand.tmp 71)], 34, _, _, none⟩) rfl (fun K hK => ?_) AllReadyH.nil
            refine step_oneT nmx rfl ?_
            intro B4 u4 k4 h4 hB4
            have HB4 := Lib.hid h4
            replace KC := Lib.hid (KC.out.step k4)
            clear k4 h4 hB4
            refine hK.out _ _ trivial (fun hHeld => ?_)
            clear hK K
            try simp only [Act.put, List.setIfInBounds_toArray, List.set_cons_zero, List.set_cons_succ]
            refine wpAnyH_ready (rs := [5]) (by kernel_rfl) (by simp) ?_
            refine AllReadyH.cons (o := ⟨some 73, Op.call { callee := Callee.builtin Builtin.append, args := #[Operand.tmp 69, Operand.tmp 72], argTypes := #[34, 34] }, 34, _, _, none⟩) rfl (fun K hK => ?_) AllReadyH.nil
            refine step_append_src rfl (.tmp 69) (.tmp 72) 34 34 rfl 9 (.string ⟨#[]⟩) 1 16 Try.underlying34 Try.infoStr10 rfl (.slice A2 j p2) j es rfl (own_keep HO2.out KC.out (fun _ _ h => h)) _ 1 [.string nmx] rfl (src_new Try.underlying34 (.string nmx) rfl HB4.out) (by unfold maxLen; omega) (by omega) ?_
            intro A5 p5 u5 o5 k5 a5
            have K5 : Hid (Kept (fun i => (Value.slice A2 j p2).ownBlock = some i) wr u5) := KC.out.to.step k5
            have hb5 := K5.out.blk HE2.out (fun h => by have := HOB2.out _ h; omega)
            have c51 : u5.cell? ⟨w.heap.size + 2, 1, none⟩ = some (.slice A2 j p2) := cell_of_row _ _ _ _ _ _ hb5
            have f51 : u5.frozen? ⟨w.heap.size + 2, 1, none⟩ = false := frozen_of_row _ _ _ _ _ hb5
            have OB5 : Hid (∀ i, (Value.slice A5 (j + 1) p5).ownBlock = some i → w.heap.size + 2 < i) := fun i hi => by
              rcases a5 i hi with h | h
              · exact HOB2.out i h
              · have h1 := h.1
                have h2 := KC.out.size
                have h3 := lt_of_blk HE2.out
                omega
            have ks : Kept (fun i => i = w.heap.size + 2) u5 (u5.setCell ⟨w.heap.size + 2, 1, none⟩ (.slice A5 (j + 1) p5)) := Kept.setCell u5 (by rfl) _
            have hz := heap_setCell_same u5 (w.heap.size + 2) 1 _ 36 (.slice A5 (j + 1) p5) hb5
            have HEZ : Hid ((u5.setCell ⟨w.heap.size + 2, 1, none⟩ (.slice A5 (j + 1) p5)).heap[w.heap.size + 2]? = some (.cells #[.slice A1 k p1, .slice A5 (j + 1) p5, .int .i64 (fl : Int)] 36 (0, 0))) := by unfold Hid; simpa using hz
            have O1Z := Lib.hid (own_keep (own_keep HO1.out K5.out (fun i hi h => by
              obtain ⟨cs, fr, hc⟩ := own_cells10 HO2.out i h
              exact own_ne HO1.out hc (by decide) hi)) ks (fun i hi e => by have := HOB.out i hi; omega))
            have O2Z : Hid ((u5.setCell ⟨w.heap.size + 2, 1, none⟩ (.slice A5 (j + 1) p5)).ownsRow 0 9 1 (.slice A5 (j + 1) p5) (j + 1) (((xdrop.take (j + 1)).map (fun n => nmE (n.toNat % 8))).map Value.string)) := by
              unfold Hid
              rw [take_snoc xdrop j y HY.out, List.map_append, List.map_append, ← HES.out, List.map_singleton, List.map_singleton, ← HNM.out]
              exact own_keep o5 ks (fun i hi e => by have := OB5.out i hi; omega)
            have KZ : Hid (Kept (fun i => i = w.heap.size + 2) w1 (u5.setCell ⟨w.heap.size + 2, 1, none⟩ (.slice A5 (j + 1) p5))) := (HK2.out.trans K5.out (fun i hi h => by have := HOB2.out i h; have := HSZ.out; omega)).step ks
            clear o5 k5 a5 hb5 ks hz
            refine hK.out _ _ trivial (fun hHeld => ?_)
            clear hK K
            try simp only [Act.put, List.setIfInBounds_toArray, List.set_cons_zero, List.set_cons_succ]
            refine wpAnyH_take (i := 6) (oi := ⟨some 74, Op.fieldAddr 36 (Operand.tmp 3) 1, 0, _, _, none⟩) (v := ?v6n1k5) rfl (by kernel_rfl) (by kernel_rfl) (by kernel_rfl) (fun _ _ _ h => h) (Or.inl ⟨by rfl, ?y6n1k5⟩) hHeld ?z6n1k5
            case y6n1k5 => intro w hSw; (try dsimp only at hSw); go_simp <;> rfl
            try simp only [Act.put, List.setIfInBounds_toArray, List.set_cons_zero, List.set_cons_succ]
            refine wpAnyH_ready (rs := [7]) (by kernel_rfl) (by simp) ?_
            refine AllReadyH.cons (o := ⟨none, Op.store 34 (Operand.tmp 74) (Operand.tmp 73), 0, _, _, none⟩) rfl (fun K hK => ?_) AllReadyH.nil
            go_simp
            refine hK.out _ _ trivial (fun hHeld => ?_)
            clear hK K
            try simp only [Act.put, List.setIfInBounds_toArray, List.set_cons_zero, List.set_cons_succ]
            refine wpAnyH_done (by kernel_rfl) ?_ _
            refine NoPanic.normal ?_
            clear hHeld
            try clear c51 f51
            go_wp2
            go_roundw
            case rel => exact ⟨j + 1, A5, p5, by omega, by go_num, HEZ, O1Z, O2Z, OB5, KZ⟩
            case measure => simp [intOf]; omega
          case b3n1k3 =>
            go_simp
            refine (LN.out _).mono ?_
            rintro en u3 ⟨rfl, rfl⟩
            dsimp only
            refine hK.out _ _ trivial (fun hHeld => ?_)
            clear hK K
            try simp only [Act.put, List.setIfInBounds_toArray, List.set_cons_zero, List.set_cons_succ]
            refine wpAnyH_ready (rs := [1, 4]) (by kernel_rfl) (by simp) ?_
            refine (AllReadyH.cons (o := ⟨some 69, Op.load 34 (Operand.tmp 68), 34, _, _, none⟩) rfl (fun K hK => ?b1n1k7) (AllReadyH.cons (o := ⟨some 72, Op.buildSlice 34 1 #[(0, Operand.tmp 71)], 34, _, _, none⟩) rfl (fun K hK => ?b4n1k6) AllReadyH.nil))
            case b1n1k7 =>
              have hcb := CEE.out _ KC.out
              go_simp
              refine hK.out _ _ trivial (fun hHeld => ?_)
              clear hK K
              try simp only [Act.put, List.setIfInBounds_toArray, List.set_cons_zero, List.set_cons_succ]
              refine wpAnyH_ready (rs := [4]) (by kernel_rfl) (by simp) ?_
              refine AllReadyH.cons (o := ⟨some 72, Op.buildSlice 34 1 #[(0, Operand.tmp 71)], 34, _, _, none⟩) rfl (fun K hK => ?_) AllReadyH.nil
              refine step_oneT nmx rfl ?_
              intro B4 u4 k4 h4 hB4
              have HB4 := Lib.hid h4
              replace KC := Lib.hid (KC.out.step k4)
              clear k4 h4 hB4
              refine hK.out _ _ trivial (fun hHeld => ?_)
              clear hK K
              try simp only [Act.put, List.setIfInBounds_toArray, List.set_cons_zero, List.set_cons_succ]
              refine wpAnyH_ready (rs := [5]) (by kernel_rfl) (by simp) ?_
              refine AllReadyH.cons (o := ⟨some 73, Op.call { callee := Callee.builtin Builtin.append, args := #[Operand.tmp 69, Operand.tmp 72], argTypes := #[34, 34] }, 34, _, _, none⟩) rfl (fun K hK => ?_) AllReadyH.nil
              refine step_append_src rfl (.tmp 69) (.tmp 72) 34 34 rfl 9 (.string ⟨#[]⟩) 1 16 Try.underlying34 Try.infoStr10 rfl (.slice A2 j p2) j es rfl (own_keep HO2.out KC.out (fun _ _ h => h)) _ 1 [.string nmx] rfl (src_new Try.underlying34 (.string nmx) rfl HB4.out) (by unfold maxLen; omega) (by omega) ?_
              intro A5 p5 u5 o5 k5 a5
              have K5 : Hid (Kept (fun i => (Value.slice A2 j p2).ownBlock = some i) wr u5) := KC.out.to.step k5
              have hb5 := K5.out.blk HE2.out (fun h => by have := HOB2.out _ h; omega)
              have c51 : u5.cell? ⟨w.heap.size + 2, 1, none⟩ = some (.slice A2 j p2) := cell_of_row _ _ _ _ _ _ hb5
              have f51 : u5.frozen? ⟨w.heap.size + 2, 1, none⟩ = false := frozen_of_row _ _ _ _ _ hb5
              have OB5 : Hid (∀ i, (Value.slice A5 (j + 1) p5).ownBlock = some i → w.heap.size + 2 < i) := fun i hi => by
                rcases a5 i hi with h | h
                · exact HOB2.out i h
                · have h1 := h.1
                  have h2 := KC.out.size
                  have h3 := lt_of_blk HE2.out
                  omega
              have ks : Kept (fun i => i = w.heap.size + 2) u5 (u5.setCell ⟨w.heap.size + 2, 1, none⟩ (.slice A5 (j + 1) p5)) := Kept.setCell u5 (by rfl) _
              have hz := heap_setCell_same u5 (w.heap.size + 2) 1 _ 36 (.slice A5 (j + 1) p5) hb5
              have HEZ : Hid ((u5.setCell ⟨w.heap.size + 2, 1, none⟩ (.slice A5 (j + 1) p5)).heap[w.heap.size + 2]? = some (.cells #[.slice A1 k p1, .slice A5 (j + 1) p5, .int .i64 (fl : Int)] 36 (0, 0))) := by unfold Hid; simpa using hz
              have O1Z := Lib.hid (own_keep (own_keep HO1.out K5.out (fun i hi h => by
                obtain ⟨cs, fr, hc⟩ := own_cells10 HO2.out i h
                exact own_ne HO1.out hc (by decide) hi)) ks (fun i hi e => by have := HOB.out i hi; omega))
              have O2Z : Hid ((u5.setCell ⟨w.heap.size + 2, 1, none⟩ (.slice A5 (j + 1) p5)).ownsRow 0 9 1 (.slice A5 (j + 1) p5) (j + 1) (((xdrop.take (j + 1)).map (fun n => nmE (n.toNat % 8))).map Value.string)) := by
                unfold Hid
                rw [take_snoc xdrop j y HY.out, List.map_append, List.map_append, ← HES.out, List.map_singleton, List.map_singleton, ← HNM.out]
                exact own_keep o5 ks (fun i hi e => by have := OB5.out i hi; omega)
              have KZ : Hid (Kept (fun i => i = w.heap.size + 2) w1 (u5.setCell ⟨w.heap.size + 2, 1, none⟩ (.slice A5 (j + 1) p5))) := (HK2.out.trans K5.out (fun i hi h => by have := HOB2.out i h; have := HSZ.out; omega)).step ks
              clear o5 k5 a5 hb5 ks hz
              refine hK.out _ _ trivial (fun hHeld => ?_)
              clear hK K
              try simp only [Act.put, List.setIfInBounds_toArray, List.set_cons_zero, List.set_cons_succ]
              refine wpAnyH_take (i := 6) (oi := ⟨some 74, Op.fieldAddr 36 (Operand.tmp 3) 1, 0, _, _, none⟩) (v := ?v6n1k8) rfl (by kernel_rfl) (by kernel_rfl) (by kernel_rfl) (fun _ _ _ h => h) (Or.inl ⟨by rfl, ?y6n1k8⟩) hHeld ?z6n1k8
              case y6n1k8 => intro w hSw; (try dsimp only at hSw); go_simp <;> rfl
              try simp only [Act.put, List.setIfInBounds_toArray, List.set_cons_zero, List.set_cons_succ]
              refine wpAnyH_ready (rs := [7]) (by kernel_rfl) (by simp) ?_
              refine AllReadyH.cons (o := ⟨none, Op.store 34 (Operand.tmp 74) (Operand.tmp 73), 0, _, _, none⟩) rfl (fun K hK => ?_) AllReadyH.nil
              go_simp
              refine hK.out _ _ trivial (fun hHeld => ?_)
              clear hK K
              try simp only [Act.put, List.setIfInBounds_toArray, List.set_cons_zero, List.set_cons_succ]
              refine wpAnyH_done (by kernel_rfl) ?_ _
              refine NoPanic.normal ?_
              clear hHeld
              try clear c51 f51
              go_wp2
              go_roundw
              case rel => exact ⟨j + 1, A5, p5, by omega, by go_num, HEZ, O1Z, O2Z, OB5, KZ⟩
              case measure => simp [intOf]; omega
            case b4n1k6 =>
              refine step_oneT nmx rfl ?_
              intro B4 u4 k4 h4 hB4
              have HB4 := Lib.hid h4
              replace KC := Lib.hid (KC.out.step k4)
              clear k4 h4 hB4
              refine hK.out _ _ trivial (fun hHeld => ?_)
              clear hK K
              try simp only [Act.put, List.setIfInBounds_toArray, List.set_cons_zero, List.set_cons_succ]
              refine wpAnyH_ready (rs := [1]) (by kernel_rfl) (by simp) ?_
              refine AllReadyH.cons (o := ⟨some 69, Op.load 34 (Operand.tmp 68), 34, _, _, none⟩) rfl (fun K hK => ?_) AllReadyH.nil
              have hcb := CEE.out _ KC.out
              go_simp
              refine hK.out _ _ trivial (fun hHeld => ?_)
              clear hK K
              try simp only [Act.put, List.setIfInBounds_toArray, List.set_cons_zero, List.set_cons_succ]
              refine wpAnyH_ready (rs := [5]) (by kernel_rfl) (by simp) ?_
              refine AllReadyH.cons (o := ⟨some 73, Op.call { callee := Callee.builtin Builtin.append, args := #[Operand.tmp 69, Operand.tmp 72], argTypes := #[34, 34] }, 34, _, _, none⟩) rfl (fun K hK => ?_) AllReadyH.nil
              refine step_append_src rfl (.tmp 69) (.tmp 72) 34 34 rfl 9 (.string ⟨#[]⟩) 1 16 Try.underlying34 Try.infoStr10 rfl (.slice A2 j p2) j es rfl (own_keep HO2.out KC.out (fun _ _ h => h)) _ 1 [.string nmx] rfl (src_new Try.underlying34 (.string nmx) rfl HB4.out) (by unfold maxLen; omega) (by omega) ?_
              intro A5 p5 u5 o5 k5 a5
              have K5 : Hid (Kept (fun i => (Value.slice A2 j p2).ownBlock = some i) wr u5) := KC.out.to.step k5
              have hb5 := K5.out.blk HE2.out (fun h => by have := HOB2.out _ h; omega)
              have c51 : u5.cell? ⟨w.heap.size + 2, 1, none⟩ = some (.slice A2 j p2) := cell_of_row _ _ _ _ _ _ hb5
              have f51 : u5.frozen? ⟨w.heap.size + 2, 1, none⟩ = false := frozen_of_row _ _ _ _ _ hb5
              have OB5 : Hid (∀ i, (Value.slice A5 (j + 1) p5).ownBlock = some i → w.heap.size + 2 < i) := fun i hi => by
                rcases a5 i hi with h | h
                · exact HOB2.out i h
                · have h1 := h.1
                  have h2 := KC.out.size
                  have h3 := lt_of_blk HE2.out
                  omega
              have ks : Kept (fun i => i = w.heap.size + 2) u5 (u5.setCell ⟨w.heap.size + 2, 1, none⟩ (.slice A5 (j + 1) p5)) := Kept.setCell u5 (by rfl) _
              have hz := heap_setCell_same u5 (w.heap.size + 2) 1 _ 36 (.slice A5 (j + 1) p5) hb5
              have HEZ : Hid ((u5.setCell ⟨w.heap.size + 2, 1, none⟩ (.slice A5 (j + 1) p5)).heap[w.heap.size + 2]? = some (.cells #[.slice A1 k p1, .slice A5 (j + 1) p5, .int .i64 (fl : Int)] 36 (0, 0))) := by unfold Hid; simpa using hz
              have O1Z := Lib.hid (own_keep (own_keep HO1.out K5.out (fun i hi h => by
                obtain ⟨cs, fr, hc⟩ := own_cells10 HO2.out i h
                exact own_ne HO1.out hc (by decide) hi)) ks (fun i hi e => by have := HOB.out i hi; omega))
              have O2Z : Hid ((u5.setCell ⟨w.heap.size + 2, 1, none⟩ (.slice A5 (j + 1) p5)).ownsRow 0 9 1 (.slice A5 (j + 1) p5) (j + 1) (((xdrop.take (j + 1)).map (fun n => nmE (n.toNat % 8))).map Value.string)) := by
                unfold Hid
                rw [take_snoc xdrop j y HY.out, List.map_append, List.map_append, ← HES.out, List.map_singleton, List.map_singleton, ← HNM.out]
                exact own_keep o5 ks (fun i hi e => by have := OB5.out i hi; omega)
              have KZ : Hid (Kept (fun i => i = w.heap.size + 2) w1 (u5.setCell ⟨w.heap.size + 2, 1, none⟩ (.slice A5 (j + 1) p5))) := (HK2.out.trans K5.out (fun i hi h => by have := HOB2.out i h; have := HSZ.out; omega)).step ks
              clear o5 k5 a5 hb5 ks hz
              refine hK.out _ _ trivial (fun hHeld => ?_)
              clear hK K
              try simp only [Act.put, List.setIfInBounds_toArray, List.set_cons_zero, List.set_cons_succ]
              refine wpAnyH_take (i := 6) (oi := ⟨some 74, Op.fieldAddr 36 (Operand.tmp 3) 1, 0, _, _, none⟩) (v := ?v6n1k9) rfl (by kernel_rfl) (by kernel_rfl) (by kernel_rfl) (fun _ _ _ h => h) (Or.inl ⟨by rfl, ?y6n1k9⟩) hHeld ?z6n1k9
              case y6n1k9 => intro w hSw; (try dsimp only at hSw); go_simp <;> rfl
              try simp only [Act.put, List.setIfInBounds_toArray, List.set_cons_zero, List.set_cons_succ]
              refine wpAnyH_ready (rs := [7]) (by kernel_rfl) (by simp) ?_
              refine AllReadyH.cons (o := ⟨none, Op.store 34 (Operand.tmp 74) (Operand.tmp 73), 0, _, _, none⟩) rfl (fun K hK => ?_) AllReadyH.nil
              go_simp
              refine hK.out _ _ trivial (fun hHeld => ?_)
              clear hK K
              try simp only [Act.put, List.setIfInBounds_toArray, List.set_cons_zero, List.set_cons_succ]
              refine wpAnyH_done (by kernel_rfl) ?_ _
              refine NoPanic.normal ?_
              clear hHeld
              try clear c51 f51
              go_wp2
              go_roundw
              case rel => exact ⟨j + 1, A5, p5, by omega, by go_num, HEZ, O1Z, O2Z, OB5, KZ⟩
              case measure => simp [intOf]; omega
        · obtain rfl : j = ML := by omega
          clear hlt
          obtain ⟨c0, c1, c2, c3, c4, c5, c6, c7⟩ := step_cells (HK2.out.blk B0.out (show ¬ (w.heap.size = w.heap.size + 2) by omega))
          have HT1 : Hid (xadd.take 4 = xadd.take k) := by
            unfold Hid
            have h1 := HME.out
            have h2 := HNA.out
            rcases Nat.le_total xadd.length 4 with hh | hh
            · rw [List.take_of_length_le hh, List.take_of_length_le (by omega)]
            · congr 1; omega
          have HT2 : Hid (xdrop.take 4 = xdrop.take j) := by
            unfold Hid
            have h1 := HML.out
            have h2 := HND.out
            rcases Nat.le_total xdrop.length 4 with hh | hh
            · rw [List.take_of_length_le hh, List.take_of_length_le (by omega)]
            · congr 1; omega
          have HLA : Hid ((xadd.take k).length = k ∧ (xdrop.take j).length = j) := ⟨by rw [List.length_take]; have := HME.out; have := HNA.out; omega, by rw [List.length_take]; have := HML.out; have := HND.out; omega⟩
          have HO2U := HO2
          cases xodd with
          | false =>
            obtain ⟨uu, huu⟩ : ∃ uu, uu = wr := ⟨_, rfl⟩
            rw [← huu] at HE2 HO1 HO2U HK2 c0 c1 c2 c3 c4 c5 c6 c7 ⊢
            have HEU := HE2
            have HOU := HO1
            have HOBU := HOB
            have KU := HK2
            have EDIT : Hid ((editOf ⟨xA, xca, xadd, xD, xcd, xdrop, xfl, false, xany⟩).add = (xadd.take k).map refOf ∧ (editOf ⟨xA, xca, xadd, xD, xcd, xdrop, xfl, false, xany⟩).drop = (xdrop.take j).map (fun n => nmE (n.toNat % 8)) ∧ (editOf ⟨xA, xca, xadd, xD, xcd, xdrop, xfl, false, xany⟩).floor = (fl : Int) ∧ ((xadd.take k).map refOf).length = k ∧ ((xdrop.take j).map (fun n => nmE (n.toNat % 8))).length = j) := by
              unfold Hid editOf
              simp only [Bool.false_eq_true, if_false, List.append_nil]
              rw [HT1.out, HT2.out, ← HFL.out, List.length_map, List.length_map]
              exact ⟨rfl, rfl, rfl, HLA.out.1, HLA.out.2⟩
            clear huu c0 c1 c2 c4 c5 c6 c7
            have hb1 := KU.out.blk B1.out (show ¬ (w.heap.size + 1 = w.heap.size + 2) by omega)
            obtain ⟨y0, y1, y2⟩ := ed_cells HEU.out
            obtain ⟨r0, r1, r2⟩ := ed_cells hb1
            have f0 : uu.frozen? ⟨w.heap.size + 1, 0, none⟩ = false := frozen_of_row _ _ _ _ _ hb1
            have f1 : uu.frozen? ⟨w.heap.size + 1, 1, none⟩ = false := frozen_of_row _ _ _ _ _ hb1
            have f2 : uu.frozen? ⟨w.heap.size + 1, 2, none⟩ = false := frozen_of_row _ _ _ _ _ hb1
            have hz9 := three_set (x0 := .slice A1 k p1) (x1 := .slice A2 j p2) (x2 := .int .i64 (fl : Int)) hb1
            have HZ := Lib.hid hz9.1
            have KZ : Hid (Kept noBlock w (((uu.setCell ⟨w.heap.size + 1, 0, none⟩ (.slice A1 k p1)).setCell ⟨w.heap.size + 1, 1, none⟩ (.slice A2 j p2)).setCell ⟨w.heap.size + 1, 2, none⟩ (.int .i64 (fl : Int)))) := (K1.out.trans KU.out (fun i hi h => by omega)).trans hz9.2 (fun i hi h => by omega)
            have EA := Lib.hid (Lies.of_rows (own_keep HOU.out hz9.2 (fun i hi e => by have := HOBU.out i hi; omega)) (F := fun i => w.heap.size ≤ i) (fun i hi => by have := HOBU.out i hi; omega))
            have ED := Lib.hid (Lies.of_rows (own_keep HO2U.out hz9.2 (fun i hi e => by have := HOB2.out i hi; omega)) (F := fun i => w.heap.size ≤ i) (fun i hi => by have := HOB2.out i hi; omega))
            have CA : Hid (k ≤ p1 ∧ j ≤ p2) := by
              obtain ⟨_, _, e, h1⟩ := own_form HOU.out
              injection e with _ _ e
              obtain ⟨_, _, e2, h2⟩ := own_form HO2U.out
              injection e2 with _ _ e2
              exact ⟨by omega, by omega⟩
            clear hz9 hb1
            go_wp2
            change bodyPost _ _ _ _ _ (((uu.setCell ⟨w.heap.size + 1, 0, none⟩ (.slice A1 k p1)).setCell ⟨w.heap.size + 1, 1, none⟩ (.slice A2 j p2)).setCell ⟨w.heap.size + 1, 2, none⟩ (.int .i64 (fl : Int)))
            generalize ((uu.setCell ⟨w.heap.size + 1, 0, none⟩ (.slice A1 k p1)).setCell ⟨w.heap.size + 1, 1, none⟩ (.slice A2 j p2)).setCell ⟨w.heap.size + 1, 2, none⟩ (.int .i64 (fl : Int)) = vz at HZ KZ EA ED ⊢
            obtain ⟨z0, z1, z2⟩ := ed_cells HZ.out
            refine bodyPost_ret (v := .agg #[.slice A1 k p1, .slice A2 j p2, .int .i64 (fl : Int)]) (by simp [results, Try.results12, go_sem, Try.isAgg36, Try.sizeOf36, z0, z1, z2]) rfl ?_
            refine ⟨A1, p1, A2, p2, ?_, ⟨?_, ?_, ?_, ?_⟩, KZ.out⟩
            · unfold evl
              rw [EDIT.out.1, EDIT.out.2.1, EDIT.out.2.2.1, EDIT.out.2.2.2.1, EDIT.out.2.2.2.2]
            · rw [EDIT.out.1]
              exact (EA.out.and EA.out.lt).mono (fun i hi => hi)
            · rw [EDIT.out.2.1]
              exact (ED.out.and ED.out.lt).mono (fun i hi => hi)
            · rw [EDIT.out.1, EDIT.out.2.2.2.1]; exact CA.out.1
            · rw [EDIT.out.2.1, EDIT.out.2.2.2.2]; exact CA.out.2
          | true =>
            have ol := Lib.hid HO1.out
            obtain ⟨es, hes⟩ : ∃ es, es = (xadd.take k).map refOf := ⟨_, rfl⟩
            have HES := Lib.hid hes
            rw [← hes] at ol
            obtain ⟨y0, y1, y2⟩ := ed_cells HE2.out
            clear hes
            go_wp2_with (at_builtin; refine wpList_append_src rfl (.tmp 79) (.tmp 82) 24 24 rfl 31 noRef.val 4 40 Try.underlying24 Try.infoRef rfl (.slice A1 k p1) k (refCells es) rfl (own_keep ol.out (Kept.alloc noBlock _ _) (fun _ _ h => h)) _ 1 (refCells [xany]) rfl (src_ref xany (heap_alloc_new _ _)) ?c3 ?c4 ?_)
            case c3 => unfold maxLen; omega
            case c4 => omega
            intro A9 p9 u9 o9 k9 a9
            have ka := Kept.alloc noBlock wr (.cells #[.string xany.name, .int .i64 xany.kind, .int .i64 xany.from_, .int .i64 xany.to_] 31)
            have K9 : Hid (Kept (fun i => (Value.slice A1 k p1).ownBlock = some i) wr u9) := ka.to.step k9
            have hb9 := K9.out.blk HE2.out (fun h => by have := HOB.out _ h; omega)
            have c90 : u9.cell? ⟨w.heap.size + 2, 0, none⟩ = some (.slice A1 k p1) := cell_of_row _ _ _ _ _ _ hb9
            have f90 : u9.frozen? ⟨w.heap.size + 2, 0, none⟩ = false := frozen_of_row _ _ _ _ _ hb9
            have HB9 : Hid (∀ i, (Value.slice A9 (k + 1) p9).ownBlock = some i → w.heap.size + 2 < i) := fun i hi => by
              rcases a9 i hi with h | h
              · exact HOB.out i h
              · have h1 := h.1
                simp only [World.size_alloc] at h1
                have h3 := lt_of_blk HE2.out
                omega
            have HO9 : Hid (u9.ownsRow 0 31 4 (.slice A9 (k + 1) p9) (k + 1) (refCells ((xadd.take k).map refOf ++ [xany]))) := by
              unfold Hid
              rw [refCells_append, ← HES.out]
              exact o9
            have ks : Kept (fun i => i = w.heap.size + 2) u9 (u9.setCell ⟨w.heap.size + 2, 0, none⟩ (.slice A9 (k + 1) p9)) := Kept.setCell u9 (by rfl) _
            have hz := heap_setCell_same u9 (w.heap.size + 2) 0 _ 36 (.slice A9 (k + 1) p9) hb9
            have HEU : Hid ((u9.setCell ⟨w.heap.size + 2, 0, none⟩ (.slice A9 (k + 1) p9)).heap[w.heap.size + 2]? = some (.cells #[.slice A9 (k + 1) p9, .slice A2 j p2, .int .i64 (fl : Int)] 36 (0, 0))) := by unfold Hid; simpa using hz
            have HOU := Lib.hid (own_keep HO9.out ks (fun i hi e => by have := HB9.out i hi; omega))
            replace HO2U := Lib.hid (own_keep (own_keep HO2.out K9.out (fun i hi h => by
              obtain ⟨cs, fr, hc⟩ := own_cells10 HO1.out i h
              exact own_ne HO2.out hc (by decide) hi)) ks (fun i hi e => by have := HOB2.out i hi; omega))
            have KU : Hid (Kept (fun i => i = w.heap.size + 2) w1 (u9.setCell ⟨w.heap.size + 2, 0, none⟩ (.slice A9 (k + 1) p9))) := (HK2.out.trans K9.out (fun i hi h => by have := HOB.out i h; have := HSZ.out; omega)).step ks
            have HOBU := HB9
            have EDIT : Hid ((editOf ⟨xA, xca, xadd, xD, xcd, xdrop, xfl, true, xany⟩).add = (xadd.take k).map refOf ++ [xany] ∧ (editOf ⟨xA, xca, xadd, xD, xcd, xdrop, xfl, true, xany⟩).drop = (xdrop.take j).map (fun n => nmE (n.toNat % 8)) ∧ (editOf ⟨xA, xca, xadd, xD, xcd, xdrop, xfl, true, xany⟩).floor = (fl : Int) ∧ ((xadd.take k).map refOf ++ [xany]).length = k + 1 ∧ ((xdrop.take j).map (fun n => nmE (n.toNat % 8))).length = j) := by
              unfold Hid editOf
              simp only [if_true]
              rw [HT1.out, HT2.out, ← HFL.out, List.length_map, List.length_append, List.length_map]
              exact ⟨rfl, rfl, rfl, by rw [HLA.out.1]; rfl, HLA.out.2⟩
            clear o9 k9 a9 ka hb9 ks hz c0 c1 c2 c3 c4 c5 c6 c7 y0 y1 y2 ol
            go_upto_region 17 with (fail)
            generalize u9.setCell ⟨w.heap.size + 2, 0, none⟩ (.slice A9 (k + 1) p9) = uu at HEU HOU HO2U KU ⊢
            clear c90 f90
            have hb1 := KU.out.blk B1.out (show ¬ (w.heap.size + 1 = w.heap.size + 2) by omega)
            obtain ⟨y0, y1, y2⟩ := ed_cells HEU.out
            obtain ⟨r0, r1, r2⟩ := ed_cells hb1
            have f0 : uu.frozen? ⟨w.heap.size + 1, 0, none⟩ = false := frozen_of_row _ _ _ _ _ hb1
            have f1 : uu.frozen? ⟨w.heap.size + 1, 1, none⟩ = false := frozen_of_row _ _ _ _ _ hb1
            have f2 : uu.frozen? ⟨w.heap.size + 1, 2, none⟩ = false := frozen_of_row _ _ _ _ _ hb1
            have hz9 := three_set (x0 := .slice A9 (k + 1) p9) (x1 := .slice A2 j p2) (x2 := .int .i64 (fl : Int)) hb1
            have HZ := Lib.hid hz9.1
            have KZ : Hid (Kept noBlock w (((uu.setCell ⟨w.heap.size + 1, 0, none⟩ (.slice A9 (k + 1) p9)).setCell ⟨w.heap.size + 1, 1, none⟩ (.slice A2 j p2)).setCell ⟨w.heap.size + 1, 2, none⟩ (.int .i64 (fl : Int)))) := (K1.out.trans KU.out (fun i hi h => by omega)).trans hz9.2 (fun i hi h => by omega)
            have EA := Lib.hid (Lies.of_rows (own_keep HOU.out hz9.2 (fun i hi e => by have := HOBU.out i hi; omega)) (F := fun i => w.heap.size ≤ i) (fun i hi => by have := HOBU.out i hi; omega))
            have ED := Lib.hid (Lies.of_rows (own_keep HO2U.out hz9.2 (fun i hi e => by have := HOB2.out i hi; omega)) (F := fun i => w.heap.size ≤ i) (fun i hi => by have := HOB2.out i hi; omega))
            have CA : Hid (k + 1 ≤ p9 ∧ j ≤ p2) := by
              obtain ⟨_, _, e, h1⟩ := own_form HOU.out
              injection e with _ _ e
              obtain ⟨_, _, e2, h2⟩ := own_form HO2U.out
              injection e2 with _ _ e2
              exact ⟨by omega, by omega⟩
            clear hz9 hb1
            go_wp2
            change bodyPost _ _ _ _ _ (((uu.setCell ⟨w.heap.size + 1, 0, none⟩ (.slice A9 (k + 1) p9)).setCell ⟨w.heap.size + 1, 1, none⟩ (.slice A2 j p2)).setCell ⟨w.heap.size + 1, 2, none⟩ (.int .i64 (fl : Int)))
            generalize ((uu.setCell ⟨w.heap.size + 1, 0, none⟩ (.slice A9 (k + 1) p9)).setCell ⟨w.heap.size + 1, 1, none⟩ (.slice A2 j p2)).setCell ⟨w.heap.size + 1, 2, none⟩ (.int .i64 (fl : Int)) = vz at HZ KZ EA ED ⊢
            obtain ⟨z0, z1, z2⟩ := ed_cells HZ.out
            refine bodyPost_ret (v := .agg #[.slice A9 (k + 1) p9, .slice A2 j p2, .int .i64 (fl : Int)]) (by simp [results, Try.results12, go_sem, Try.isAgg36, Try.sizeOf36, z0, z1, z2]) rfl ?_
            refine ⟨A9, p9, A2, p2, ?_, ⟨?_, ?_, ?_, ?_⟩, KZ.out⟩
            · unfold evl
              rw [EDIT.out.1, EDIT.out.2.1, EDIT.out.2.2.1, EDIT.out.2.2.2.1, EDIT.out.2.2.2.2]
            · rw [EDIT.out.1]
              exact (EA.out.and EA.out.lt).mono (fun i hi => hi)
            · rw [EDIT.out.2.1]
              exact (ED.out.and ED.out.lt).mono (fun i hi => hi)
            · rw [EDIT.out.1, EDIT.out.2.2.2.1]; exact CA.out.1
            · rw [EDIT.out.2.1, EDIT.out.2.2.2.2]; exact CA.out.2
end Go.Proofs.Ytjijdkdpmbfdmaa
