/-
  The contract of edits.Do. No statement is proved here.
-/
import Derived.Test.YtollmkkbeeeccaaE10Set
namespace Go.Proofs.Ytollmkkbeeeccaa
open Go.RowKit Tot

/-- A list as a value. -/
def setv (N : Fls) (f : Int) (A : Option Addr) (c : Nat) : Value := .agg #[.slice A N.length c, .int .i64 f]
/-- Its files lie in blocks of F. -/
structure Sw (w : World) (F : Nat → Prop) (N : Fls) (A : Option Addr) (c : Nat) : Prop where
  la : Lies w F A (refCells (N.map (·.2)))
  ca : N.length ≤ c
section
variable {S F G : Nat → Prop} {w w' : World} {N : Fls} {A : Option Addr} {c : Nat}
theorem Sw.keep (h : Sw w F N A c) (k : Kept S w w') (hd : ∀ i, F i → ¬ S i) : Sw w' F N A c := ⟨h.la.keep k hd, h.ca⟩
theorem Sw.kept (h : Sw w F N A c) (k : Kept noBlock w w') : Sw w' F N A c := h.keep k (fun _ _ h => h)
theorem Sw.mono (h : Sw w F N A c) (hG : ∀ i, F i → G i) : Sw w G N A c := ⟨h.la.mono hG, h.ca⟩
theorem Sw.nil (w : World) (F : Nat → Prop) : Sw w F [] none 0 := ⟨Lies.nil _ _ _, Nat.le_refl _⟩
theorem Sw.of_own {base : Nat} {t : TypeId} {n : Nat} (h : w.ownsRow base t 4 (.slice A n c) n (refCells (N.map (·.2)))) (hn : N.length = n) (hF : ∀ k, (Value.slice A n c).ownBlock = some k → F k) : Sw w F N A c := by
  obtain ⟨_, _, e, hle⟩ := own_form h
  injection e with _ _ e
  exact ⟨Lies.of_rows h hF, by omega⟩
end
/-- The floor behind an edit. -/
def doF (N : Fls) (f : Int) (e : EditV) : Int := if (doE N f e).2 = 0 then e.floor else 0
theorem two_cells {w : World} {R : Nat} {x0 x1 : Value} {t : TypeId} {fr : Nat × Nat} (h : w.heap[R]? = some (.cells #[x0, x1] t fr)) : w.cell? ⟨R, 0, none⟩ = some x0 ∧ w.cell? ⟨R, 1, none⟩ = some x1 := ⟨cell_of_row _ _ _ _ _ _ h, cell_of_row _ _ _ _ _ _ h⟩

set_option maxRecDepth 100000 in
set_option maxHeartbeats 1000000 in
theorem edo_any (F G : Nat → Prop) (N : Fls) (f : Int) (A : Option Addr) (c : Nat) (e : EditV) (EA : Option Addr) (ec : Nat) (ED : Option Addr) (eb : Nat) (w : World) (hS : Sw w F N A c) (hg : Good N) (hN : N.length ≤ 274877906944) (hv : Ev w G e EA ec ED eb)
    (hB : e.add.length ≤ 274877906944) (hD : e.drop.length ≤ 9000000000000000000) (hk : ∀ k ∈ e.drop, k.size ≤ maxLen) :
    Calls Try.prog 17 #[setv N f A c, evl e EA ec ED eb] w fun en w' => ∃ A' c', en = .returned (.tuple #[setv (doE N f e).1 (doF N f e) A' c', .int .i64 (doE N f e).2]) ∧
      w'.ownsRow w.heap.size 37 4 (.slice A' (doE N f e).1.length c') (doE N f e).1.length (refCells ((doE N f e).1.map (·.2))) ∧ Kept noBlock w w' := by
  obtain ⟨n, hn⟩ : ∃ n, n = N.length := ⟨_, rfl⟩
  have hcc := hS.ca
  obtain ⟨w1, hw1⟩ : ∃ w1, w1 = ((w.alloc (.cells #[.slice A n c, .int .i64 f] 27)).alloc (.cells #[.slice EA e.add.length ec, .slice ED e.drop.length eb, .int .i64 e.floor] 50)).alloc (.cells #[.slice none 0 0, .int .i64 0] 27) := ⟨_, rfl⟩
  have k1 : Kept noBlock w w1 := by rw [hw1]; exact ((Kept.alloc _ _ _).step (Kept.alloc _ _ _)).step (Kept.alloc _ _ _)
  have b0 : w1.heap[w.heap.size]? = some (.cells #[.slice A n c, .int .i64 f] 27 (0, 0)) := by rw [hw1]; exact ((Kept.alloc noBlock _ _).step (Kept.alloc _ _ _)).blk (heap_alloc_new w _) (fun h => h)
  have b1 : w1.heap[w.heap.size + 1]? = some (.cells #[.slice EA e.add.length ec, .slice ED e.drop.length eb, .int .i64 e.floor] 50 (0, 0)) := by
    rw [hw1]
    exact (Kept.alloc noBlock _ _).blk (by have := heap_alloc_new (w.alloc (.cells #[.slice A n c, .int .i64 f] 27)) (.cells #[.slice EA e.add.length ec, .slice ED e.drop.length eb, .int .i64 e.floor] 50); simpa using this) (fun h => h)
  have b2 : w1.heap[w.heap.size + 2]? = some (.cells #[.slice none 0 0, .int .i64 0] 27 (0, 0)) := by
    rw [hw1]
    have := heap_alloc_new ((w.alloc (.cells #[.slice A n c, .int .i64 f] 27)).alloc (.cells #[.slice EA e.add.length ec, .slice ED e.drop.length eb, .int .i64 e.floor] 50)) (.cells #[.slice none 0 0, .int .i64 0] 27)
    simpa using this
  have LO := Lib.hid (listof_any F N A n c f w1 (hS.la.keep k1 (fun _ _ h => h)) hn.symm (by omega) hg (by omega))
  have V1 := Lib.hid (hv.lt.kept k1)
  have K1 := Lib.hid k1
  have B0 := Lib.hid b0
  have B1 := Lib.hid b1
  have B2 := Lib.hid b2
  have HG := Lib.hid hg
  have HN := Lib.hid hn
  have HK := Lib.hid hk
  have HSZ : Hid (w1.heap.size = w.heap.size + 3) := by unfold Hid; rw [hw1]; simp
  rw [← hn] at hN
  clear hS hg hv k1 hk
  unfold setv evl
  rw [← hn]
  clear hn
  go_enter Try.func17, Try.ntmps17
  go_upto_region 1 with (fail)
  rw [← hw1]
  obtain ⟨c0, c1⟩ := two_cells b0
  clear hw1 b0 b1 b2
  go_wp2_with fail
  refine LO.out.mono ?_
  rintro en w2 ⟨d, m, rfl, hls, hd, hm, k2⟩
  obtain ⟨e0, e1, e2⟩ := ed_cells (k2.blk B1.out (fun h => h))
  have DO := Lib.hid (ldo_any (fun i => i < w.heap.size) e EA ec ED eb d m N f n w2 hls HG.out.up (V1.out.kept k2) (fun i hi => by have := HSZ.out; omega) (by omega) hD HK.out)
  have K2 := Lib.hid (K1.out.step k2)
  have B22 := Lib.hid (k2.blk B2.out (fun h => h))
  have HDM : Hid (w1.heap.size ≤ d ∧ w1.heap.size ≤ m) := ⟨hd, hm⟩
  obtain ⟨r, hr⟩ : ∃ r, r = (doE N f e).2 := ⟨_, rfl⟩
  unfold evl at DO
  rw [← hr] at DO
  have HR := Lib.hid hr
  clear c0 c1 LO hls hd hm k2 hr V1 B0 B1 B2
  go_wp2_with fail
  refine DO.out.mono ?_
  rintro en w3 ⟨rfl, k3, hres⟩
  have K3 : Hid (Kept noBlock w w3) := K2.out.trans k3 (fun i hi h => by have := HDM.out; have := HSZ.out; omega)
  have hb3 := k3.blk B22.out (fun h => by have := HDM.out; have := HSZ.out; omega)
  have B3 := Lib.hid hb3
  have HRES := Lib.hid hres
  clear e0 e1 e2 DO k3 hres hb3
  by_cases hr0 : r = 0
  · subst hr0
    have hls3 := HRES.out rfl
    have SE := Lib.hid (lset_any d m (doE N f e).1 e.floor _ w3 hls3 (doE_good HG.out).up (by omega))
    have HFL : Hid (doF N f e = e.floor) := by unfold Hid doF; rw [← HR.out, if_pos rfl]
    clear hls3 HRES
    go_wp2_with fail
    refine SE.out.mono ?_
    rintro en w4 ⟨A', c', rfl, o4, k4⟩
    have hb4 := k4.blk B3.out (fun h => h)
    obtain ⟨r0, r1⟩ := two_cells hb4
    have f0 : w4.frozen? ⟨w.heap.size + 2, 0, none⟩ = false := frozen_of_row _ _ _ _ _ hb4
    have f1 : w4.frozen? ⟨w.heap.size + 2, 1, none⟩ = false := frozen_of_row _ _ _ _ _ hb4
    obtain ⟨hz, kz⟩ := two_set (x0 := .slice A' (doE N f e).1.length c') (x1 := .int .i64 e.floor) hb4
    have HZ := Lib.hid hz
    have OZ := Lib.hid (own_keep o4 kz (fun i hi e => by have := (o4.lt i hi).1; have := lt_of_blk B3.out; omega))
    have KZ : Hid (Kept noBlock w _) := (K3.out.step k4).trans kz (fun i hi h => by omega)
    clear SE o4 k4 hb4 hz kz
    obtain ⟨l, hl⟩ : ∃ l, l = (doE N f e).1.length := ⟨_, rfl⟩
    rw [← hl] at HZ OZ KZ
    have HL := Lib.hid hl
    rw [← hl]
    obtain ⟨fl, hfl⟩ : ∃ fl, fl = e.floor := ⟨_, rfl⟩
    rw [← hfl] at HZ OZ KZ HFL
    rw [← hfl]
    clear hl hfl
    go_wp2
    change bodyPost _ _ _ _ _ ((w4.setCell ⟨w.heap.size + 2, 0, none⟩ (.slice A' l c')).setCell ⟨w.heap.size + 2, 1, none⟩ (.int .i64 fl))
    generalize (w4.setCell ⟨w.heap.size + 2, 0, none⟩ (.slice A' l c')).setCell ⟨w.heap.size + 2, 1, none⟩ (.int .i64 fl) = v9 at HZ OZ KZ ⊢
    obtain ⟨z0, z1⟩ := two_cells HZ.out
    refine bodyPost_ret (v := .tuple #[.agg #[.slice A' l c', .int .i64 fl], .int .i64 0]) (by simp [results, Try.results17, go_sem, Try.isAgg27, Try.sizeOf27, z0, z1]) rfl ?_
    rw [← HL.out, HFL.out, ← HR.out]
    exact ⟨A', c', rfl, own_base OZ.out (fun i hi => by have := (OZ.out.lt i hi).1; have := K3.out.size; omega), KZ.out⟩
  · have hnil := doE_fail (N := N) (f := f) (e := e) (by rw [← HR.out]; exact hr0)
    have HNIL := Lib.hid hnil
    have HFL : Hid (doF N f e = 0) := by unfold Hid doF; rw [← HR.out, if_neg hr0]
    have hb4 := B3.out
    obtain ⟨r0, r1⟩ := two_cells hb4
    have f0 : w3.frozen? ⟨w.heap.size + 2, 0, none⟩ = false := frozen_of_row _ _ _ _ _ hb4
    have f1 : w3.frozen? ⟨w.heap.size + 2, 1, none⟩ = false := frozen_of_row _ _ _ _ _ hb4
    obtain ⟨hz, kz⟩ := two_set (x0 := .slice none 0 0) (x1 := .int .i64 0) hb4
    have HZ := Lib.hid hz
    have KZ : Hid (Kept noBlock w _) := K3.out.trans kz (fun i hi h => by omega)
    have hr1 : (r == 0) = false := by simpa using hr0
    clear hnil hb4 hz kz HRES
    go_wp2
    change bodyPost _ _ _ _ _ ((w3.setCell ⟨w.heap.size + 2, 0, none⟩ (.slice none 0 0)).setCell ⟨w.heap.size + 2, 1, none⟩ (.int .i64 0))
    generalize (w3.setCell ⟨w.heap.size + 2, 0, none⟩ (.slice none 0 0)).setCell ⟨w.heap.size + 2, 1, none⟩ (.int .i64 0) = v9 at HZ KZ ⊢
    obtain ⟨z0, z1⟩ := two_cells HZ.out
    refine bodyPost_ret (v := .tuple #[.agg #[.slice none 0 0, .int .i64 0], .int .i64 r]) (by simp [results, Try.results17, go_sem, Try.isAgg27, Try.sizeOf27, z0, z1]) rfl ?_
    rw [HNIL.out, HFL.out, ← HR.out]
    exact ⟨none, 0, rfl, World.ownsRow_nil _ _ _ _, KZ.out⟩
end Go.Proofs.Ytollmkkbeeeccaa
