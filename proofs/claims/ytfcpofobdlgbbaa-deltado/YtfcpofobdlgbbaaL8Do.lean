/-
  The walk of DeltaDo. No statement is proved here.
-/
import Derived.Test.YtfcpofobdlgbbaaL8Use
import Derived.Test.YtfcpofobdlgbbaaL8Three
namespace Go.Proofs.Ytfcpofobdlgbbaa
open Go.RowKit Tot

theorem do_twice {s0 s1 s2 : StV} (h1 : Chain s0 s1) (h3 : Chain s0 s2) : (s2.index = s0.index ∧ applyD s2 (dOf s0 s1) = (s1, 0)) ∨ (s2.index ≠ s0.index ∧ applyD s2 (dOf s0 s1) = (noState, 8)) := by
  by_cases h : s2.index = s0.index
  · have e := h3.same h.symm
    subst e
    exact .inl ⟨rfl, h1.delta.2.1⟩
  · refine .inr ⟨h, ?_⟩
    unfold applyD dOf
    simp only
    rw [if_pos (.inl h)]

set_option maxRecDepth 100000 in
set_option maxHeartbeats 1000000 in
theorem do8_walk (hB : BetweenC) (hD : DoC) (F : Nat → Prop) (a : Option Addr) (n cp : Nat) (ss : List SayV) (one two : UInt8) (w : World) (h : Lies w F a (sayCells ss)) (hl : ss.length = n) (hnc : n ≤ cp) :
    Calls Try.prog 4 #[.slice a n cp, .int .u8 (one.toNat : Int), .int .u8 (two.toNat : Int)] w fun e w' => e = .returned (.bool true) ∧ Kept noBlock w w' := by
  have TH := Lib.hid (fun u (k : Kept noBlock w u) => three_any F a n cp ss one two u (h.keep k (fun _ _ h => h)) hl hnc)
  have AW := Lib.hid (awake8_any hB hD w)
  have BE := Lib.hid (fun (s t : StV) (hc : Chain s t) => between_at hB hc)
  have DO := Lib.hid (fun (s : StV) (d : DltV) (t : StV) (x : Int) (hs : s.Right) (hd : d.Right) (he : applyD s d = (t, x)) => do_at hD hs hd he)
  clear h hl hnc hB hD
  go_enter Try.func4, Try.ntmps4
  go_wp2_with fail
  refine AW.out.mono ?_
  rintro en w1 ⟨rfl, k1⟩
  have K1 := Lib.hid k1
  clear k1 AW
  go_wp2_with fail
  refine (TH.out w1 K1.out).mono ?_
  rintro en w2 ⟨s0, s1, s2, A0, c0, B0, d0, A1, c1, B1, d1, A2, c2, B2, d2, rfl, CH, SV, k2⟩
  have hx : (w2.alloc (.cells (threeV s0 s1 s2 A0 c0 B0 d0 A1 c1 B1 d1 A2 c2 B2 d2).toArray 28)).heap[w2.heap.size]? = _ := heap_alloc_new w2 (.cells (threeV s0 s1 s2 A0 c0 B0 d0 A1 c1 B1 d1 A2 c2 B2 d2).toArray 28)
  have ka := Kept.alloc noBlock w2 (.cells (threeV s0 s1 s2 A0 c0 B0 d0 A1 c1 B1 d1 A2 c2 B2 d2).toArray 28)
  obtain ⟨X, hX⟩ : ∃ X, X = w2.heap.size := ⟨_, rfl⟩
  unfold threeV
  go_upto_region 4 with (fail)
  change Code.wp _ _ _ _ (w2.alloc (.cells (threeV s0 s1 s2 A0 c0 B0 d0 A1 c1 B1 d1 A2 c2 B2 d2).toArray 28))
  rw [← hX] at hx ⊢
  generalize w2.alloc (.cells (threeV s0 s1 s2 A0 c0 B0 d0 A1 c1 B1 d1 A2 c2 B2 d2).toArray 28) = u2 at hx ka ⊢
  obtain ⟨ch1, ch2, ch3, ch4⟩ := CH.out
  clear ch4
  have V0 := Lib.hid ((SV.out.1.kept ka).mono (G := Aw) (fun _ _ => trivial))
  have V1 := Lib.hid ((SV.out.2.1.kept ka).mono (G := Aw) (fun _ _ => trivial))
  have V2 := Lib.hid ((SV.out.2.2.kept ka).mono (G := Aw) (fun _ _ => trivial))
  have HX := Lib.hid hx
  have K2 := Lib.hid (K1.out.step (k2.step ka))
  have be := BE.out s0 s1 ch1
  have do1 := DO.out s0 (dOf s0 s1) s1 0 ch1.rs ch1.delta.2.2 ch1.delta.2.1
  have sm := same_at ch1.rt
  have hr1 := ch1.delta.2.2
  have tw := do_twice ch1 ch3
  have hr2 := ch3.rt
  obtain ⟨dl, hdl⟩ : ∃ dl, dl = dOf s0 s1 := ⟨_, rfl⟩
  rw [← hdl] at be do1 hr1 tw
  unfold stv dtv at be do1
  unfold stv at sm
  have BE1 := Lib.hid be
  have DO1 := Lib.hid do1
  have SM := Lib.hid sm
  have TW := Lib.hid tw
  have HR1 := Lib.hid hr1
  have HR2 := Lib.hid hr2
  clear be do1 sm tw hr1 hr2 hdl hx ka hX k2 SV CH ch1 ch2 ch3 BE TH K1
  obtain ⟨x0, x1, x2, x3, x4, x5, x6, x7, x8, x9, x10, x11⟩ := th_cells HX.out
  go_wp2_with fail
  refine (BE1.out u2 _ _ _ _ _ _ _ _ V0.out V1.out).mono ?_
  rintro en w3 ⟨A3, c3, B3, d3, rfl, dv3, k3⟩
  have ka := Kept.alloc noBlock w3 (.cells #[.int .i64 dl.from_, .int .i64 dl.to_, .int .i64 dl.term, .slice A3 dl.pairs.length c3, .slice B3 dl.sess.length d3] 31)
  have ha := heap_alloc_new w3 (.cells #[.int .i64 dl.from_, .int .i64 dl.to_, .int .i64 dl.term, .slice A3 dl.pairs.length c3, .slice B3 dl.sess.length d3] 31)
  go_upto_region 5 with (fail)
  obtain ⟨PD, hPD⟩ : ∃ PD, PD = w3.heap.size := ⟨_, rfl⟩
  rw [← hPD] at ha ⊢
  generalize w3.alloc (.cells #[.int .i64 dl.from_, .int .i64 dl.to_, .int .i64 dl.term, .slice A3 dl.pairs.length c3, .slice B3 dl.sess.length d3] 31) = u3 at ka ha ⊢
  have k23 := k3.step ka
  have HX3 := Lib.hid (k23.blk HX.out (fun h => h))
  have V03 := Lib.hid (V0.out.kept k23)
  have V13 := Lib.hid (V1.out.kept k23)
  have V23 := Lib.hid (V2.out.kept k23)
  have HD3 := Lib.hid ha
  have DV3 := Lib.hid (dv3.kept ka)
  have K3 := Lib.hid (K2.out.step k23)
  clear ka ha hPD dv3 k3 k23 V0 V1 V2 HX K2 BE1 x0 x1 x2 x3 x4 x5 x6 x7 x8 x9 x10 x11
  obtain ⟨x0, x1, x2, x3, x4, x5, x6, x7, x8, x9, x10, x11⟩ := th_cells HX3.out
  obtain ⟨g0, g1, g2, g3, g4⟩ := dl_cells HD3.out
  go_wp2_with fail
  refine (DO1.out u3 _ _ _ _ _ _ _ _ V03.out DV3.out).mono ?_
  rintro en w4 ⟨A4, c4, B4, d4, rfl, sv4, k4⟩
  have ka := Kept.alloc noBlock w4 (.cells #[.int .i64 s1.index, .int .i64 s1.term, .slice A4 s1.pairs.length c4, .slice B4 s1.sess.length d4] 27)
  have ha := heap_alloc_new w4 (.cells #[.int .i64 s1.index, .int .i64 s1.term, .slice A4 s1.pairs.length c4, .slice B4 s1.sess.length d4] 27)
  go_upto_region 6 with (fail)
  obtain ⟨PS, hPS⟩ : ∃ PS, PS = w4.heap.size := ⟨_, rfl⟩
  rw [← hPS] at ha ⊢
  generalize w4.alloc (.cells #[.int .i64 s1.index, .int .i64 s1.term, .slice A4 s1.pairs.length c4, .slice B4 s1.sess.length d4] 27) = u4 at ka ha ⊢
  have k34 := k4.step ka
  have HX4 := Lib.hid (k34.blk HX3.out (fun h => h))
  have V14 := Lib.hid (V13.out.kept k34)
  have V24 := Lib.hid (V23.out.kept k34)
  have HD4 := Lib.hid (k34.blk HD3.out (fun h => h))
  have DV4 := Lib.hid (DV3.out.kept k34)
  have HS4 := Lib.hid ha
  have VS4 := Lib.hid (sv4.kept ka)
  have K4 := Lib.hid (K3.out.step k34)
  clear ka ha hPS sv4 k4 k34 HX3 V03 V13 V23 HD3 DV3 K3 DO1 x0 x1 x2 x3 x4 x5 x6 x7 x8 x9 x10 x11 g0 g1 g2 g3 g4
  obtain ⟨x0, x1, x2, x3, x4, x5, x6, x7, x8, x9, x10, x11⟩ := th_cells HX4.out
  obtain ⟨t0, t1, t2, t3⟩ := st_cells HS4.out
  go_wp2_with fail
  refine (SM.out u4 _ _ _ _ _ _ _ _ VS4.out V14.out).mono ?_
  rintro en w5 ⟨rfl, k5⟩
  have HX5 := Lib.hid (k5.blk HX4.out (fun h => h))
  have V25 := Lib.hid (V24.out.kept k5)
  have HD5 := Lib.hid (k5.blk HD4.out (fun h => h))
  have DV5 := Lib.hid (DV4.out.kept k5)
  have K5 := Lib.hid (K4.out.step k5)
  clear k5 HX4 V14 V24 HD4 DV4 HS4 VS4 K4 SM x0 x1 x2 x3 x4 x5 x6 x7 x8 x9 x10 x11 t0 t1 t2 t3
  obtain ⟨x0, x1, x2, x3, x4, x5, x6, x7, x8, x9, x10, x11⟩ := th_cells HX5.out
  obtain ⟨g0, g1, g2, g3, g4⟩ := dl_cells HD5.out
  rcases TW.out with ⟨hix, htw⟩ | ⟨hix, htw⟩
  · have do2 := DO.out s2 dl s1 0 HR2.out HR1.out htw
    unfold stv dtv at do2
    have DO2 := Lib.hid do2
    have i1 : (s2.index == s0.index) = true := by simp [hix]
    clear do2 htw hix TW DO
    go_wp2_with fail
    refine (DO2.out w5 _ _ _ _ _ _ _ _ V25.out DV5.out).mono ?_
    rintro en w6 ⟨A6, c6, B6, d6, rfl, sv6, k6⟩
    have k56 := k6.step (Kept.alloc noBlock w6 (.cells #[.int .i64 s1.index, .int .i64 s1.term, .slice A6 s1.pairs.length c6, .slice B6 s1.sess.length d6] 27))
    have HX6 := Lib.hid (k56.blk HX5.out (fun h => h))
    have K6 := Lib.hid (K5.out.step k56)
    clear k6 k56 sv6 DO2 x0 x1 x2 x3 x4 x5 x6 x7 x8 x9 x10 x11 g0 g1 g2 g3 g4
    go_upto_region 9 with (fail)
    generalize w6.alloc (.cells #[.int .i64 s1.index, .int .i64 s1.term, .slice A6 s1.pairs.length c6, .slice B6 s1.sess.length d6] 27) = u6 at HX6 K6 ⊢
    obtain ⟨x0, x1, x2, x3, x4, x5, x6, x7, x8, x9, x10, x11⟩ := th_cells HX6.out
    go_wp2
    go_ret
    exact ⟨rfl, K6.out⟩
  · have do2 := DO.out s2 dl noState 8 HR2.out HR1.out htw
    have do2 : ∀ u A c B e A' c' B' e', Sv u Aw s2 A c B e → Dv u Aw dl A' c' B' e' → Calls _ _ _ u fun en w' => ∃ A2 c2 B2 d2, en = .returned (.tuple #[.agg #[.int .i64 0, .int .i64 0, .slice A2 0 c2, .slice B2 0 d2], .int .i64 8]) ∧ Sv w' Aw noState A2 c2 B2 d2 ∧ Kept noBlock u w' := do2
    unfold stv dtv at do2
    have DO2 := Lib.hid do2
    have i1 : (s2.index == s0.index) = false := by simpa using hix
    clear do2 htw hix TW DO
    go_wp2_with fail
    refine (DO2.out w5 _ _ _ _ _ _ _ _ V25.out DV5.out).mono ?_
    rintro en w6 ⟨A6, c6, B6, d6, rfl, sv6, k6⟩
    have ha := heap_alloc_new w6 (.cells #[.int .i64 0, .int .i64 0, .slice A6 0 c6, .slice B6 0 d6] 27)
    have k56 := k6.step (Kept.alloc noBlock w6 (.cells #[.int .i64 0, .int .i64 0, .slice A6 0 c6, .slice B6 0 d6] 27))
    have HX6 := Lib.hid (k56.blk HX5.out (fun h => h))
    have K6 := Lib.hid (K5.out.step k56)
    clear k6 k56 sv6 DO2 x0 x1 x2 x3 x4 x5 x6 x7 x8 x9 x10 x11 g0 g1 g2 g3 g4
    go_upto_region 9 with (fail)
    obtain ⟨PT, hPT⟩ : ∃ PT, PT = w6.heap.size := ⟨_, rfl⟩
    rw [← hPT] at ha ⊢
    generalize w6.alloc (.cells #[.int .i64 0, .int .i64 0, .slice A6 0 c6, .slice B6 0 d6] 27) = u6 at HX6 K6 ha ⊢
    clear hPT
    obtain ⟨x0, x1, x2, x3, x4, x5, x6, x7, x8, x9, x10, x11⟩ := th_cells HX6.out
    obtain ⟨t0, t1, t2, t3⟩ := st_cells ha
    go_wp2
    go_ret
    exact ⟨rfl, K6.out⟩
end Go.Proofs.Ytfcpofobdlgbbaa
