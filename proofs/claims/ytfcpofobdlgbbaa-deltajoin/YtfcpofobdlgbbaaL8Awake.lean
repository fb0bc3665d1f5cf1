/-
  The document's examples, as the statements of layer 8 ask them first. No statement is proved here.
-/
import Derived.Test.YtfcpofobdlgbbaaL8Con
import Derived.Test.YtfcpofobdlgbbaaLawK
import Derived.Test.YtfcpofobdlgbbaaPutK
namespace Go.Proofs.Ytfcpofobdlgbbaa
open Go.RowKit Tot

def b8 : StV := ⟨2, 0, [(tK, (tV, false))], []⟩
def n8 : StV := ⟨3, 0, [], []⟩
theorem b8_right : b8.Right := by
  refine ⟨by unfold b8; simp, by unfold b8; simp, ⟨by unfold b8; simp, ⟨List.pairwise_singleton _ _, fun p hp => ?_⟩, ⟨List.Pairwise.nil, by unfold b8; simp⟩⟩, fun p hp => ?_⟩
  · obtain rfl : p = (tK, (tV, false)) := by unfold b8 at hp; simpa using hp
    exact ⟨by show 1 ≤ tK.size; decide, by show tK.size ≤ 8; decide, by show tV.size ≤ 16; decide, by simp⟩
  · obtain rfl : p = (tK, (tV, false)) := by unfold b8 at hp; simpa using hp
    rfl
theorem n8_right : n8.Right := ⟨by unfold n8; simp, by unfold n8; simp, ⟨by unfold n8; simp, ⟨List.Pairwise.nil, by unfold n8; simp⟩, ⟨List.Pairwise.nil, by unfold n8; simp⟩⟩, by unfold n8; simp⟩
theorem f8 : betweenV b8 n8 = (⟨2, 3, 0, [(tK, goneV)], []⟩, 0) := by rfl
def d8 : DltV := ⟨0, 2, 0, betweenP [] b8.pairs, []⟩
theorem d8_is : betweenV noState b8 = (d8, 0) ∧ applyD noState d8 = (b8, 0) := applyD_between noState_right b8_right (by decide) (by decide)
theorem d8_right : d8.Right := between_right noState_right b8_right (by decide)

set_option maxRecDepth 100000 in
set_option maxHeartbeats 1000000 in
theorem awake8_any (hB : BetweenC) (hD : DoC) (w : World) : Calls Try.prog 10 #[] w (Says w true) := by
  have SOME : Hid (∀ u, Calls Try.prog 18 #[.slice none 0 0] u fun en w' => ∃ A c B d, en = .returned (.agg #[.int .i64 0, .int .i64 0, .slice A 0 c, .slice B 0 d]) ∧ Sv w' (fun _ => True) noState A c B d ∧ Kept noBlock u w') := fun u => by
    refine (some_any (fun _ => True) none 0 0 [] u (Lies.nil _ _ _) rfl (Nat.le_refl _)).mono ?_
    rintro en w' ⟨A, c, B, d, rfl, sv, k⟩
    exact ⟨A, c, B, d, rfl, sv.mono (fun _ _ => trivial), k⟩
  have BE1 : Hid (∀ u A c B d A' c' B' d', Sv u (fun _ => True) noState A c B d → Sv u (fun _ => True) b8 A' c' B' d' → Calls Try.prog 12 #[.agg #[.int .i64 0, .int .i64 0, .slice A 0 c, .slice B 0 d], .agg #[.int .i64 2, .int .i64 0, .slice A' 1 c', .slice B' 0 d']] u fun en w' => ∃ A2 c2 B2 d2, en = .returned (.tuple #[dtv d8 A2 c2 B2 d2, .int .i64 0]) ∧ Dv w' (fun _ => True) d8 A2 c2 B2 d2 ∧ Kept noBlock u w') := fun u A c B d A' c' B' d' h1 h2 => by
    have h := hB _ _ noState A c B d b8 A' c' B' d' u h1 h2 noState_right b8_right
    rw [d8_is.1] at h
    refine h.mono ?_
    rintro en w' ⟨A2, c2, B2, d2, rfl, dv, k⟩
    exact ⟨A2, c2, B2, d2, rfl, dv.mono (fun _ _ => trivial), k⟩
  have BE2 : Hid (∀ u A' c' B' d', Sv u (fun _ => True) b8 A' c' B' d' → Calls Try.prog 12 #[.agg #[.int .i64 2, .int .i64 0, .slice A' 1 c', .slice B' 0 d'], .agg #[.int .i64 3, .int .i64 0, .slice none 0 0, .slice none 0 0]] u fun en w' => ∃ A2 c2 B2 d2, en = .returned (.tuple #[.agg #[.int .i64 2, .int .i64 3, .int .i64 0, .slice A2 1 c2, .slice B2 0 d2], .int .i64 0]) ∧ Dv w' (fun _ => True) ⟨2, 3, 0, [(tK, goneV)], []⟩ A2 c2 B2 d2 ∧ Kept noBlock u w') := fun u A' c' B' d' h1 => by
    have h := hB _ (fun _ => True) b8 A' c' B' d' n8 none 0 none 0 u h1 ⟨Lies.nil _ _ _, Lies.nil _ _ _, Nat.le_refl _, Nat.le_refl _⟩ b8_right n8_right
    rw [f8] at h
    refine h.mono ?_
    rintro en w' ⟨A2, c2, B2, d2, rfl, dv, k⟩
    exact ⟨A2, c2, B2, d2, rfl, dv.mono (fun _ _ => trivial), k⟩
  have DO : Hid (∀ u A c B d A' c' B' d', Sv u (fun _ => True) noState A c B d → Dv u (fun _ => True) d8 A' c' B' d' → Calls Try.prog 15 #[.agg #[.int .i64 0, .int .i64 0, .slice A 0 c, .slice B 0 d], dtv d8 A' c' B' d'] u fun en w' => ∃ A2 c2 B2 d2, en = .returned (.tuple #[.agg #[.int .i64 2, .int .i64 0, .slice A2 1 c2, .slice B2 0 d2], .int .i64 0]) ∧ Sv w' (fun _ => True) b8 A2 c2 B2 d2 ∧ Kept noBlock u w') := fun u A c B d A' c' B' d' h1 h2 => by
    have h := hD _ _ noState A c B d d8 A' c' B' d' u h1 h2 noState_right d8_right
    rw [d8_is.2] at h
    refine h.mono ?_
    rintro en w' ⟨A2, c2, B2, d2, rfl, dv, k⟩
    exact ⟨A2, c2, B2, d2, rfl, dv.mono (fun _ _ => trivial), k⟩
  have SAME : Hid (∀ u A c B d A' c' B' d', Sv u (fun _ => True) b8 A c B d → Sv u (fun _ => True) b8 A' c' B' d' → Calls Try.prog 16 #[.agg #[.int .i64 2, .int .i64 0, .slice A 1 c, .slice B 0 d], .agg #[.int .i64 2, .int .i64 0, .slice A' 1 c', .slice B' 0 d']] u (Says u true)) := fun u A c B d A' c' B' d' h1 h2 => by
    have hb : b8.bytes.length ≤ 140737488355328 := by decide
    have h := same_any _ _ b8 b8 A c B d A' c' B' d' u h1 h2 hb hb
    rw [decide_eq_true rfl] at h
    exact h
  go_enter Try.func10, Try.ntmps10
  go_wp2_with fail
  refine (SOME.out w).mono ?_
  rintro en w1 ⟨A1, c1, B1, d1, rfl, sv1, k1⟩
  go_upto_region 3 with (fail)
  have ka : Kept noBlock w1 (((w1.alloc (.cells #[.int .i64 0, .int .i64 0, .slice A1 0 c1, .slice B1 0 d1] 27)).alloc (.cells #[.string ⟨#[107]⟩, .string ⟨#[118]⟩, .bool false] 39)).alloc (.cells #[.int .i64 2, .int .i64 0, .slice (some ⟨w1.heap.size + 1, 0, none⟩) 1 1, .slice none 0 0] 27)) := ((Kept.alloc _ _ _).step (Kept.alloc _ _ _)).step (Kept.alloc _ _ _)
  have ha : (((w1.alloc (.cells #[.int .i64 0, .int .i64 0, .slice A1 0 c1, .slice B1 0 d1] 27)).alloc (.cells #[.string ⟨#[107]⟩, .string ⟨#[118]⟩, .bool false] 39)).alloc (.cells #[.int .i64 2, .int .i64 0, .slice (some ⟨w1.heap.size + 1, 0, none⟩) 1 1, .slice none 0 0] 27)).heap[w1.heap.size]? = some (.cells #[.int .i64 0, .int .i64 0, .slice A1 0 c1, .slice B1 0 d1] 27 (0, 0)) := ((Kept.alloc noBlock _ _).step (Kept.alloc _ _ _)).blk (heap_alloc_new w1 _) (fun h => h)
  have hb : (((w1.alloc (.cells #[.int .i64 0, .int .i64 0, .slice A1 0 c1, .slice B1 0 d1] 27)).alloc (.cells #[.string ⟨#[107]⟩, .string ⟨#[118]⟩, .bool false] 39)).alloc (.cells #[.int .i64 2, .int .i64 0, .slice (some ⟨w1.heap.size + 1, 0, none⟩) 1 1, .slice none 0 0] 27)).heap[w1.heap.size + 1 + 1]? = some (.cells #[.int .i64 2, .int .i64 0, .slice (some ⟨w1.heap.size + 1, 0, none⟩) 1 1, .slice none 0 0] 27 (0, 0)) := heap_alloc_at (by simp)
  have hl : Lies (((w1.alloc (.cells #[.int .i64 0, .int .i64 0, .slice A1 0 c1, .slice B1 0 d1] 27)).alloc (.cells #[.string ⟨#[107]⟩, .string ⟨#[118]⟩, .bool false] 39)).alloc (.cells #[.int .i64 2, .int .i64 0, .slice (some ⟨w1.heap.size + 1, 0, none⟩) 1 1, .slice none 0 0] 27)) (fun _ => True) (some ⟨w1.heap.size + 1, 0, none⟩) (PR.cells b8.pairs) := by
    have h1 := (Lies.new (w1.alloc (.cells #[.int .i64 0, .int .i64 0, .slice A1 0 c1, .slice B1 0 d1] 27)) (fun _ => True) (PR.cells b8.pairs) 39 (0, 0) trivial).keep (Kept.alloc noBlock _ (.cells #[.int .i64 2, .int .i64 0, .slice (some ⟨w1.heap.size + 1, 0, none⟩) 1 1, .slice none 0 0] 27)) (fun _ _ h => h)
    rw [World.size_alloc] at h1
    exact h1
  generalize ((w1.alloc (.cells #[.int .i64 0, .int .i64 0, .slice A1 0 c1, .slice B1 0 d1] 27)).alloc (.cells #[.string ⟨#[107]⟩, .string ⟨#[118]⟩, .bool false] 39)).alloc (.cells #[.int .i64 2, .int .i64 0, .slice (some ⟨w1.heap.size + 1, 0, none⟩) 1 1, .slice none 0 0] 27) = w2 at ka ha hb hl ⊢
  obtain ⟨PA, hPA⟩ : ∃ PA, PA = w1.heap.size := ⟨_, rfl⟩
  rw [← hPA] at ha hb hl ⊢
  have HA := Lib.hid ha
  have HB := Lib.hid hb
  have SA := Lib.hid (sv1.kept ka)
  have SB : Hid (Sv w2 (fun _ => True) b8 (some ⟨PA + 1, 0, none⟩) 1 none 0) := ⟨hl, Lies.nil _ _ _, Nat.le_refl _, Nat.le_refl _⟩
  have K2 := Lib.hid (k1.step ka)
  clear ka ha hb hl hPA sv1 k1 SOME
  obtain ⟨a0, a1, a2, a3⟩ := st_cells HA.out
  obtain ⟨p0, p1, p2, p3⟩ := st_cells HB.out
  go_wp2_with fail
  refine (BE1.out w2 _ _ _ _ _ _ _ _ SA.out SB.out).mono ?_
  rintro en w3 ⟨A3, c3, B3, d3, rfl, dv3, k3⟩
  unfold dtv
  have ka := Kept.alloc noBlock w3 (.cells #[.int .i64 d8.from_, .int .i64 d8.to_, .int .i64 d8.term, .slice A3 d8.pairs.length c3, .slice B3 d8.sess.length d3] 31)
  have ha := heap_alloc_new w3 (.cells #[.int .i64 d8.from_, .int .i64 d8.to_, .int .i64 d8.term, .slice A3 d8.pairs.length c3, .slice B3 d8.sess.length d3] 31)
  go_upto_region 4 with (fail)
  obtain ⟨PD, hPD⟩ : ∃ PD, PD = w3.heap.size := ⟨_, rfl⟩
  rw [← hPD] at ha ⊢
  generalize w3.alloc (.cells #[.int .i64 d8.from_, .int .i64 d8.to_, .int .i64 d8.term, .slice A3 d8.pairs.length c3, .slice B3 d8.sess.length d3] 31) = u3 at ka ha ⊢
  have k23 := k3.step ka
  have HA3 := Lib.hid (k23.blk HA.out (fun h => h))
  have HB3 := Lib.hid (k23.blk HB.out (fun h => h))
  have SA3 := Lib.hid (SA.out.kept k23)
  have SB3 := Lib.hid (SB.out.kept k23)
  have HD3 := Lib.hid ha
  have DV3 := Lib.hid (dv3.kept ka)
  have K3 := Lib.hid (K2.out.step k23)
  clear ka ha hPD dv3 k3 k23 HA HB SA SB K2 BE1 a0 a1 a2 a3 p0 p1 p2 p3
  obtain ⟨p0, p1, p2, p3⟩ := st_cells HB3.out
  go_wp2_with fail
  refine (BE2.out u3 _ _ _ _ SB3.out).mono ?_
  rintro en w4 ⟨A4, c4, B4, d4, rfl, dv4, k4⟩
  have ka := Kept.alloc noBlock w4 (.cells #[.int .i64 2, .int .i64 3, .int .i64 0, .slice A4 1 c4, .slice B4 0 d4] 31)
  have ha := heap_alloc_new w4 (.cells #[.int .i64 2, .int .i64 3, .int .i64 0, .slice A4 1 c4, .slice B4 0 d4] 31)
  go_upto_region 5 with (fail)
  obtain ⟨PF, hPF⟩ : ∃ PF, PF = w4.heap.size := ⟨_, rfl⟩
  rw [← hPF] at ha ⊢
  generalize w4.alloc (.cells #[.int .i64 2, .int .i64 3, .int .i64 0, .slice A4 1 c4, .slice B4 0 d4] 31) = u4 at ka ha ⊢
  have k34 := k4.step ka
  have HA4 := Lib.hid (k34.blk HA3.out (fun h => h))
  have HB4 := Lib.hid (k34.blk HB3.out (fun h => h))
  have SA4 := Lib.hid (SA3.out.kept k34)
  have SB4 := Lib.hid (SB3.out.kept k34)
  have HD4 := Lib.hid (k34.blk HD3.out (fun h => h))
  have DV4 := Lib.hid (DV3.out.kept k34)
  have HF4 := Lib.hid ha
  have DF4 := Lib.hid (dv4.kept ka)
  have K4 := Lib.hid (K3.out.step k34)
  clear ka ha hPF dv4 k4 k34 HA3 HB3 SA3 SB3 HD3 DV3 K3 BE2 p0 p1 p2 p3
  obtain ⟨a0, a1, a2, a3⟩ := st_cells HA4.out
  obtain ⟨g0, g1, g2, g3, g4⟩ := dl_cells HD4.out
  have DO2 := Lib.hid (DO.out u4 _ _ _ _ _ _ _ _ SA4.out DV4.out)
  unfold dtv at DO2
  go_wp2_with fail
  refine DO2.out.mono ?_
  rintro en w5 ⟨A5, c5, B5, d5, rfl, sv5, k5⟩
  have ka := Kept.alloc noBlock w5 (.cells #[.int .i64 2, .int .i64 0, .slice A5 1 c5, .slice B5 0 d5] 27)
  have ha := heap_alloc_new w5 (.cells #[.int .i64 2, .int .i64 0, .slice A5 1 c5, .slice B5 0 d5] 27)
  go_upto_region 6 with (fail)
  obtain ⟨PS, hPS⟩ : ∃ PS, PS = w5.heap.size := ⟨_, rfl⟩
  rw [← hPS] at ha ⊢
  generalize w5.alloc (.cells #[.int .i64 2, .int .i64 0, .slice A5 1 c5, .slice B5 0 d5] 27) = u5 at ka ha ⊢
  have k45 := k5.step ka
  have HB5 := Lib.hid (k45.blk HB4.out (fun h => h))
  have SB5 := Lib.hid (SB4.out.kept k45)
  have HF5 := Lib.hid (k45.blk HF4.out (fun h => h))
  have DF5 := Lib.hid (DF4.out.kept k45)
  have HS5 := Lib.hid ha
  have SS5 := Lib.hid (sv5.kept ka)
  have K5 := Lib.hid (K4.out.step k45)
  clear ka ha hPS sv5 k5 k45 HA4 HB4 SA4 SB4 HD4 DV4 HF4 DF4 K4 DO2 DO a0 a1 a2 a3 g0 g1 g2 g3 g4
  obtain ⟨p0, p1, p2, p3⟩ := st_cells HB5.out
  obtain ⟨s0, s1, s2, s3⟩ := st_cells HS5.out
  obtain ⟨q, o, rfl, _, cc⟩ := (show Lies u5 (fun _ => True) A4 (PR.cells [(tK, goneV)]) from DF5.out.lp).elem PR.enc_len (by omega) (k := 0) (p := (tK, goneV)) rfl
  have e2 := cc 2 _ rfl
  have hq : o + 0 * 3 + 2 = o + 2 := by omega
  rw [hq] at e2
  have EG := Lib.hid e2
  clear cc e2 hq
  go_wp2_with fail
  refine (SAME.out u5 _ _ _ _ _ _ _ _ SS5.out SB5.out).mono ?_
  rintro en w6 ⟨rfl, k6⟩
  obtain ⟨h0, h1, h2, h3, h4⟩ := dl_cells (k6.blk HF5.out (fun h => h))
  have e2 : w6.cell? ⟨q, o + 2, none⟩ = some (.bool true) := k6.cell EG.out (fun h => h)
  have K6 := Lib.hid (K5.out.step k6)
  clear k6 SAME p0 p1 p2 p3 s0 s1 s2 s3
  go_wp2
  go_ret
  exact ⟨rfl, K6.out⟩
end Go.Proofs.Ytfcpofobdlgbbaa
