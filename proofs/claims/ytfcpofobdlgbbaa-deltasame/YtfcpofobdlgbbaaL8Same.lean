/-
  The walk of DeltaSame. No statement is proved here.
-/
import Derived.Test.YtfcpofobdlgbbaaL8Use
namespace Go.Proofs.Ytfcpofobdlgbbaa
open Go.RowKit Tot


set_option maxRecDepth 100000 in
set_option maxHeartbeats 1000000 in
theorem same8_walk (hB : BetweenC) (hD : DoC) (F : Nat → Prop) (a : Option Addr) (n cp : Nat) (ss : List SayV) (w : World) (h : Lies w F a (sayCells ss)) (hl : ss.length = n) (hnc : n ≤ cp) :
    Calls Try.prog 8 #[.slice a n cp] w fun e w' => e = .returned (.bool true) ∧ Kept noBlock w w' := by
  have SO := Lib.hid (fun u (k : Kept noBlock w u) => some_any F a n cp ss u (h.keep k (fun _ _ h => h)) hl hnc)
  have hr := someV_right ss
  obtain ⟨s, hs⟩ : ∃ s, s = someV ss := ⟨_, rfl⟩
  rw [← hs] at SO hr
  obtain ⟨hb1, hb2⟩ := applyD_between hr hr (Int.le_refl _) (Int.le_refl _)
  have hdr := between_right hr hr (Int.le_refl _)
  rw [between_same s.pairs hr.up] at hb1 hb2 hdr
  have BE : Hid (∀ u A c B d A' c' B' d', Sv u (fun _ => True) s A c B d → Sv u (fun _ => True) s A' c' B' d' → Calls Try.prog 12 #[.agg #[.int .i64 s.index, .int .i64 s.term, .slice A s.pairs.length c, .slice B s.sess.length d], .agg #[.int .i64 s.index, .int .i64 s.term, .slice A' s.pairs.length c', .slice B' s.sess.length d']] u fun en w' => ∃ A2 c2 B2 d2, en = .returned (.tuple #[.agg #[.int .i64 s.index, .int .i64 s.index, .int .i64 s.term, .slice A2 0 c2, .slice B2 s.sess.length d2], .int .i64 0]) ∧ Dv w' (fun _ => True) ⟨s.index, s.index, s.term, [], s.sess⟩ A2 c2 B2 d2 ∧ Kept noBlock u w') := fun u A c B d A' c' B' d' h1 h2 => by
    have h := hB _ _ s A c B d s A' c' B' d' u h1 h2 hr hr
    rw [hb1] at h
    refine h.mono ?_
    rintro en w' ⟨A2, c2, B2, d2, rfl, dv, k⟩
    exact ⟨A2, c2, B2, d2, rfl, dv.mono (fun _ _ => trivial), k⟩
  have DO : Hid (∀ u A c B d A' c' B' d', Sv u (fun _ => True) s A c B d → Dv u (fun _ => True) ⟨s.index, s.index, s.term, [], s.sess⟩ A' c' B' d' → Calls Try.prog 15 #[.agg #[.int .i64 s.index, .int .i64 s.term, .slice A s.pairs.length c, .slice B s.sess.length d], .agg #[.int .i64 s.index, .int .i64 s.index, .int .i64 s.term, .slice A' 0 c', .slice B' s.sess.length d']] u fun en w' => ∃ A2 c2 B2 d2, en = .returned (.tuple #[.agg #[.int .i64 s.index, .int .i64 s.term, .slice A2 s.pairs.length c2, .slice B2 s.sess.length d2], .int .i64 0]) ∧ Sv w' (fun _ => True) s A2 c2 B2 d2 ∧ Kept noBlock u w') := fun u A c B d A' c' B' d' h1 h2 => by
    have h := hD _ _ s A c B d ⟨s.index, s.index, s.term, [], s.sess⟩ A' c' B' d' u h1 h2 hr hdr
    rw [hb2] at h
    refine h.mono ?_
    rintro en w' ⟨A2, c2, B2, d2, rfl, dv, k⟩
    exact ⟨A2, c2, B2, d2, rfl, dv.mono (fun _ _ => trivial), k⟩
  have SAME : Hid (∀ u A c B d A' c' B' d', Sv u (fun _ => True) s A c B d → Sv u (fun _ => True) s A' c' B' d' → Calls Try.prog 16 #[.agg #[.int .i64 s.index, .int .i64 s.term, .slice A s.pairs.length c, .slice B s.sess.length d], .agg #[.int .i64 s.index, .int .i64 s.term, .slice A' s.pairs.length c', .slice B' s.sess.length d']] u (Says u true)) := fun u A c B d A' c' B' d' h1 h2 => by
    have h := same_any _ _ s s A c B d A' c' B' d' u h1 h2 (state_bytes hr) (state_bytes hr)
    rw [decide_eq_true rfl] at h
    exact h
  have AW := Lib.hid (awake8_any hB hD w)
  clear hs hb1 hb2 hdr hr h hl hnc hB hD
  unfold stv at SO
  obtain ⟨ix, hix⟩ : ∃ ix, ix = s.index := ⟨_, rfl⟩
  obtain ⟨tm, htm⟩ : ∃ tm, tm = s.term := ⟨_, rfl⟩
  obtain ⟨np, hnp⟩ : ∃ np, np = s.pairs.length := ⟨_, rfl⟩
  obtain ⟨ns, hns⟩ : ∃ ns, ns = s.sess.length := ⟨_, rfl⟩
  rw [← hix, ← htm, ← hnp, ← hns] at SO BE DO SAME
  clear hix htm hnp hns
  go_enter Try.func8, Try.ntmps8
  go_wp2_with fail
  refine AW.out.mono ?_
  rintro en w1 ⟨rfl, k1⟩
  have K1 := Lib.hid k1
  clear k1 AW
  go_wp2_with fail
  refine (SO.out w1 K1.out).mono ?_
  rintro en w2 ⟨A2, c2, B2, d2, rfl, sv2, k2⟩
  have ka := Kept.alloc noBlock w2 (.cells #[.int .i64 ix, .int .i64 tm, .slice A2 np c2, .slice B2 ns d2] 27)
  have ha := heap_alloc_new w2 (.cells #[.int .i64 ix, .int .i64 tm, .slice A2 np c2, .slice B2 ns d2] 27)
  go_upto_region 4 with (fail)
  obtain ⟨PS, hPS⟩ : ∃ PS, PS = w2.heap.size := ⟨_, rfl⟩
  rw [← hPS] at ha ⊢
  generalize w2.alloc (.cells #[.int .i64 ix, .int .i64 tm, .slice A2 np c2, .slice B2 ns d2] 27) = u2 at ka ha ⊢
  have HS2 := Lib.hid ha
  have SV2 := Lib.hid ((sv2.kept ka).mono (G := fun _ => True) (fun _ _ => trivial))
  have K2 := Lib.hid (K1.out.step (k2.step ka))
  clear ka ha hPS sv2 k2 K1 SO
  obtain ⟨s0, s1, s2, s3⟩ := st_cells HS2.out
  go_wp2_with fail
  refine (BE.out u2 _ _ _ _ _ _ _ _ SV2.out SV2.out).mono ?_
  rintro en w3 ⟨A3, c3, B3, d3, rfl, dv3, k3⟩
  have ka := Kept.alloc noBlock w3 (.cells #[.int .i64 ix, .int .i64 ix, .int .i64 tm, .slice A3 0 c3, .slice B3 ns d3] 31)
  have ha := heap_alloc_new w3 (.cells #[.int .i64 ix, .int .i64 ix, .int .i64 tm, .slice A3 0 c3, .slice B3 ns d3] 31)
  go_upto_region 5 with (fail)
  obtain ⟨PD, hPD⟩ : ∃ PD, PD = w3.heap.size := ⟨_, rfl⟩
  rw [← hPD] at ha ⊢
  generalize w3.alloc (.cells #[.int .i64 ix, .int .i64 ix, .int .i64 tm, .slice A3 0 c3, .slice B3 ns d3] 31) = u3 at ka ha ⊢
  have HS3 := Lib.hid ((k3.step ka).blk HS2.out (fun h => h))
  have SV3 := Lib.hid (SV2.out.kept (k3.step ka))
  have HD3 := Lib.hid ha
  have DV3 := Lib.hid (dv3.kept ka)
  have K3 := Lib.hid (K2.out.step (k3.step ka))
  clear ka ha hPD dv3 k3 K2 HS2 SV2 BE s0 s1 s2 s3
  obtain ⟨s0, s1, s2, s3⟩ := st_cells HS3.out
  obtain ⟨g0, g1, g2, g3, g4⟩ := dl_cells HD3.out
  go_wp2_with fail
  refine (DO.out u3 _ _ _ _ _ _ _ _ SV3.out DV3.out).mono ?_
  rintro en w4 ⟨A4, c4, B4, d4, rfl, sv4, k4⟩
  have ka := Kept.alloc noBlock w4 (.cells #[.int .i64 ix, .int .i64 tm, .slice A4 np c4, .slice B4 ns d4] 27)
  have ha := heap_alloc_new w4 (.cells #[.int .i64 ix, .int .i64 tm, .slice A4 np c4, .slice B4 ns d4] 27)
  go_upto_region 6 with (fail)
  obtain ⟨PT, hPT⟩ : ∃ PT, PT = w4.heap.size := ⟨_, rfl⟩
  rw [← hPT] at ha ⊢
  generalize w4.alloc (.cells #[.int .i64 ix, .int .i64 tm, .slice A4 np c4, .slice B4 ns d4] 27) = u4 at ka ha ⊢
  have HS4 := Lib.hid ((k4.step ka).blk HS3.out (fun h => h))
  have SV4 := Lib.hid (SV3.out.kept (k4.step ka))
  have HD4 := Lib.hid ((k4.step ka).blk HD3.out (fun h => h))
  have HT4 := Lib.hid ha
  have ST4 := Lib.hid (sv4.kept ka)
  have K4 := Lib.hid (K3.out.step (k4.step ka))
  clear ka ha hPT sv4 k4 K3 HS3 SV3 HD3 DV3 DO s0 s1 s2 s3 g0 g1 g2 g3 g4
  obtain ⟨s0, s1, s2, s3⟩ := st_cells HS4.out
  obtain ⟨t0, t1, t2, t3⟩ := st_cells HT4.out
  obtain ⟨g0, g1, g2, g3, g4⟩ := dl_cells HD4.out
  have i1 : (ix == ix) = true := by simp
  go_wp2_with fail
  refine (SAME.out u4 _ _ _ _ _ _ _ _ SV4.out ST4.out).mono ?_
  rintro en w5 ⟨rfl, k5⟩
  have K5 := Lib.hid (K4.out.step k5)
  clear k5 SAME s0 s1 s2 s3 t0 t1 t2 t3 g0 g1 g2 g3 g4
  go_wp2
  go_ret
  exact ⟨rfl, K5.out⟩
end Go.Proofs.Ytfcpofobdlgbbaa
