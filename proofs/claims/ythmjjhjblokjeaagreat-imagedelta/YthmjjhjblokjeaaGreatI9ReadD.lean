/-
  The contract of image.ReadDelta. No statement is proved here.
-/
import Derived.Test.YthmjjhjblokjeaaGreatI9Snd
import Derived.Test.YthmjjhjblokjeaaGreatI9Delta
import Derived.Test.YthmjjhjblokjeaaGreatD8Read
namespace Go.Proofs.YthmjjhjblokjeaaGreat
open Go.RowKit Tot

set_option maxRecDepth 100000 in
set_option maxHeartbeats 1000000 in
theorem rdelta_any (F : Nat → Prop) (a : Option Addr) (n c0 : Nat) (l : List UInt8) (w : World) (h : Lies w F a (l.map bv)) (hl : l.length = n) (hn : n ≤ 200000000000000) (hc : n ≤ c0) :
    Calls Tryz.prog 8 #[.slice a n c0] w fun e w' => ∃ A c B d, e = .returned (.tuple #[dtv (gotDl l) A c B d, .int .i64 (errD l)]) ∧ Dv w' (fresh w w') (gotDl l) A c B d ∧ Kept noBlock w w' := by
  obtain ⟨w1, hw1⟩ : ∃ w1, w1 = w.alloc (.cells #[.int .i64 0, .int .i64 0, .int .i64 0, .slice none 0 0, .slice none 0 0] 31) := ⟨_, rfl⟩
  have k1 : Kept noBlock w w1 := by rw [hw1]; exact Kept.alloc _ _ _
  have z1 : w1.heap.size = w.heap.size + 1 := by rw [hw1]; simp
  have hR : w1.heap[w.heap.size]? = some (.cells #[.int .i64 0, .int .i64 0, .int .i64 0, .slice none 0 0, .slice none 0 0] 31 (0, 0)) := by rw [hw1]; exact heap_alloc_new w _
  have SE := Lib.hid (second_any F a n c0 l w1 (h.keep k1 (fun _ _ h => h)) hl hn hc)
  have RD : Hid (∀ u P cp, Lies u (fun _ => True) P ((sndB l).map bv) → Calls Tryz.prog 27 #[.slice P (sndB l).length cp] u fun e w' => ∃ A c B d, e = .returned (.tuple #[dtv (gotD (sndB l)) A c B d, .bool (gotDT (sndB l))]) ∧ Dv w' (fresh u w') (gotD (sndB l)) A c B d ∧ Kept noBlock u w') := fun u P cp hP => dread_any _ P _ cp (sndB l) u hP rfl (by have := sndB_fits l; omega)
  have hm : (gotD (sndB l)).bytes.length ≤ 16384 := (gotD_fits l)
  have HOK : Hid (okD l ↔ (gotDT (sndB l) = true ∧ deltaB (gotD (sndB l)) = l)) := Lib.hid Iff.rfl
  have HYES : Hid (okD l → gotDl l = gotD (sndB l) ∧ errD l = 0) := fun h => by unfold gotDl errD; rw [if_pos h, if_pos h]; exact ⟨rfl, rfl⟩
  have HNO : Hid (¬ okD l → gotDl l = noDelta ∧ errD l = 10) := fun h => by unfold gotDl errD; rw [if_neg h, if_neg h]; exact ⟨rfl, rfl⟩
  obtain ⟨S, hS⟩ : ∃ S, S = gotD (sndB l) := ⟨_, rfl⟩
  obtain ⟨g, hg⟩ : ∃ g, g = gotDT (sndB l) := ⟨_, rfl⟩
  rw [← hS] at RD hm HOK HYES
  rw [← hg] at RD HOK
  obtain ⟨L2, hL2⟩ : ∃ L2, L2 = sndB l := ⟨_, rfl⟩
  rw [← hL2] at SE RD
  obtain ⟨q, hq⟩ : ∃ q, q = L2.length := ⟨_, rfl⟩
  rw [← hq] at SE RD
  obtain ⟨m, hmm⟩ : ∃ m, S.bytes.length = m := ⟨_, rfl⟩
  rw [hmm] at hm
  have HM := Lib.hid hmm
  have HL := Lib.hid hl
  have HW := Lib.hid h
  have K1 := Lib.hid k1
  have Z1 := Lib.hid z1
  have HR := Lib.hid hR
  clear hS hg hL2 hq hmm hl h k1 z1 hR hn
  have FIN : Hid (∀ u v S2 A c B d t, Kept noBlock w u → v = setDl u w.heap.size S2 A c B d → u.heap[w.heap.size]? = some (.cells #[.int .i64 0, .int .i64 0, .int .i64 0, .slice none 0 0, .slice none 0 0] t (0, 0)) → Dv u (fun i => w.heap.size < i) S2 A c B d → Kept noBlock w v ∧ Dv v (fresh w v) S2 A c B d ∧ v.heap[w.heap.size]? = some (.cells #[.int .i64 S2.from_, .int .i64 S2.to_, .int .i64 S2.term, .slice A S2.pairs.length c, .slice B S2.sess.length d] t (0, 0))) := fun u v S2 A c B d t ku hv hb hs => by
    subst hv
    have kz := setDl_kept u w.heap.size S2 A c B d
    have h1 : Dv (setDl u w.heap.size S2 A c B d) (fun i => w.heap.size < i) S2 A c B d := hs.keep kz (fun i hi e => by omega)
    have h2 := h1.lt
    refine ⟨((ku.mono (T := fun i => w.heap.size ≤ i) (fun _ _ h => h.elim)).trans kz (fun i _ h => by omega)).mono (fun i hi h => by omega), ⟨fun hx => ?_, fun hx => ?_, h1.cp, h1.cs⟩, ?_⟩
    · obtain ⟨ad, q1, q2, q3⟩ := h1.lp hx
      obtain ⟨ad', p1, p2, _⟩ := h2.lp hx
      rw [q1] at p1
      injection p1 with p1
      subst p1
      exact ⟨ad, q1, ⟨Nat.le_of_lt q2, p2⟩, q3⟩
    · obtain ⟨ad, q1, q2, q3⟩ := h1.ls hx
      obtain ⟨ad', p1, p2, _⟩ := h2.ls hx
      rw [q1] at p1
      injection p1 with p1
      subst p1
      exact ⟨ad, q1, ⟨Nat.le_of_lt q2, p2⟩, q3⟩
    · exact setDl_block hb
  go_enter Tryz.func8, Tryz.ntmps8
  go_upto_region 1 with (fail)
  rw [← hw1]
  clear hw1
  go_wp2_with fail
  refine SE.out.mono ?_
  rintro e w2 ⟨P2, c2, rfl, o2, k2⟩
  have LP := Lib.hid (Lies.of_own (F := fun _ => True) o2 (fun _ _ => trivial))
  have K2 := Lib.hid (K1.out.step k2)
  have HR2 := Lib.hid (k2.blk HR.out (fun h => h))
  clear o2 k2 SE HR
  go_wp2_with fail
  refine (RD.out w2 P2 c2 LP.out).mono ?_
  rintro e w3 ⟨A, c, B, d, rfl, sv, k3⟩
  have K3 := Lib.hid (K2.out.step k3)
  have HR3 := Lib.hid (k3.blk HR2.out (fun h => h))
  have Z2 : w.heap.size < w2.heap.size := lt_of_blk HR2.out
  have SV := Lib.hid (sv.mono (G := fun i => w.heap.size < i) (fun i hi => by have := hi.1; omega))
  clear sv k3 RD LP K2 HR2 Z2
  unfold dtv
  go_upto_region 2 with (fail)
  have kb := Kept.alloc noBlock w3 (.cells #[.int .i64 S.from_, .int .i64 S.to_, .int .i64 S.term, .slice A S.pairs.length c, .slice B S.sess.length d] 31)
  have hb := heap_alloc_new w3 (.cells #[.int .i64 S.from_, .int .i64 S.to_, .int .i64 S.term, .slice A S.pairs.length c, .slice B S.sess.length d] 31)
  generalize w3.alloc (.cells #[.int .i64 S.from_, .int .i64 S.to_, .int .i64 S.term, .slice A S.pairs.length c, .slice B S.sess.length d] 31) = w4 at kb hb ⊢
  obtain ⟨T, hT⟩ : ∃ T, T = w3.heap.size := ⟨_, rfl⟩
  rw [← hT] at hb ⊢
  have K4 := Lib.hid (K3.out.step kb)
  have HR4 := Lib.hid (kb.blk HR3.out (fun h => h))
  have SV4 := Lib.hid (SV.out.kept kb)
  have HB4 := Lib.hid hb
  have WR := Lib.hid (dfile_any _ S A c B d m w4 SV4.out HM.out hm)
  unfold dtv at WR
  obtain ⟨x0, x1, x2, x3, x4⟩ := dl_cells hb
  clear kb hb hT K3 HR3 SV
  go_wp2_with fail
  refine WR.out.mono ?_
  rintro e w5 ⟨P5, c5, rfl, o5, k5⟩
  have EQ := Lib.hid (equal_any (fun _ => True) F P5 (m + 35) c5 a n c0 (deltaB S) l w5 (Lies.of_own o5 (fun _ _ => trivial)) (by rw [deltaB_length, HM.out]; omega) (HW.out.keep (K4.out.step k5) (fun _ _ h => h)) HL.out)
  have K5 := Lib.hid (K4.out.step k5)
  have HR5 := Lib.hid (k5.blk HR4.out (fun h => h))
  have SV5 := Lib.hid (SV4.out.kept k5)
  have HB5 := Lib.hid (k5.blk HB4.out (fun h => h))
  clear x0 x1 x2 x3 x4 k5 o5 WR K4 HR4 SV4 HB4 HW HL HM
  obtain ⟨x0, x1, x2, x3, x4⟩ := dl_cells HB5.out
  obtain ⟨r, hr⟩ : ∃ r, r = decide (deltaB S = l) := ⟨_, rfl⟩
  rw [← hr] at EQ
  have hE : Hid (okD l ↔ (g = true ∧ r = true)) := by
    unfold Hid
    rw [HOK.out, hr, decide_eq_true_eq]
  have hfz : ∀ j, w5.frozen? ⟨w.heap.size, j, none⟩ = false := fun j => frozen_of_row _ _ _ _ _ HR5.out
  have f0 := hfz 0
  have f1 := hfz 1
  have f2 := hfz 2
  have f3 := hfz 3
  have f4 := hfz 4
  obtain ⟨r0, r1, r2, r3, r4⟩ := dl_cells HR5.out
  clear hfz hr HOK
  by_cases hg : g = true
  · subst hg
    go_upto_region 3 with (fail)
    go_wp2_with fail
    refine EQ.out.mono ?_
    rintro e w6 ⟨rfl, h6⟩
    subst h6
    clear EQ
    by_cases hr : r = true
    · subst hr
      have hok := hE.out.2 ⟨by simp, by simp⟩
      obtain ⟨E1, E2⟩ := HYES.out hok
      have HE1 := Lib.hid E1
      have HE2 := Lib.hid E2
      clear hok E1 E2 hE
      go_wp2
      change bodyPost _ _ _ _ _ (setDl w5 w.heap.size S A c B d)
      obtain ⟨v, hv⟩ : ∃ v, v = setDl w5 w.heap.size S A c B d := ⟨_, rfl⟩
      rw [← hv]
      obtain ⟨kv, sv, hbv⟩ := FIN.out w5 v S A c B d _ K5.out hv HR5.out SV5.out
      obtain ⟨z0, z1, z2, z3, z4⟩ := dl_cells hbv
      refine bodyPost_ret (v := .tuple #[dtv S A c B d, .int .i64 0]) (by simp [results, Tryz.results8, go_sem, dtv, Tryz.isAgg31, Tryz.sizeOf31, z0, z1, z2, z3, z4]) rfl ?_
      rw [HE1.out, HE2.out]
      exact ⟨A, c, B, d, rfl, sv, kv⟩
    · obtain rfl : r = false := by simpa using hr
      have hok : ¬ okD l := fun h => by have := (hE.out.1 h).2; simp at this
      obtain ⟨E1, E2⟩ := HNO.out hok
      have HE1 := Lib.hid E1
      have HE2 := Lib.hid E2
      clear hok E1 E2 hE hr
      go_wp2
      change bodyPost _ _ _ _ _ (setDl w5 w.heap.size noDelta none 0 none 0)
      obtain ⟨v, hv⟩ : ∃ v, v = setDl w5 w.heap.size noDelta none 0 none 0 := ⟨_, rfl⟩
      rw [← hv]
      obtain ⟨kv, sv, hbv⟩ := FIN.out w5 v noDelta none 0 none 0 _ K5.out hv HR5.out (Dv.none _ _)
      obtain ⟨z0, z1, z2, z3, z4⟩ := dl_cells hbv
      refine bodyPost_ret (v := .tuple #[dtv noDelta none 0 none 0, .int .i64 10]) (by simp [results, Tryz.results8, go_sem, dtv, Tryz.isAgg31, Tryz.sizeOf31, z0, z1, z2, z3, z4]) rfl ?_
      rw [HE1.out, HE2.out]
      exact ⟨none, 0, none, 0, rfl, sv, kv⟩
  · obtain rfl : g = false := by simpa using hg
    have hok : ¬ okD l := fun h => by have := (hE.out.1 h).1; simp at this
    obtain ⟨E1, E2⟩ := HNO.out hok
    have HE1 := Lib.hid E1
    have HE2 := Lib.hid E2
    clear hok E1 E2 hE hg EQ
    go_wp2
    change bodyPost _ _ _ _ _ (setDl w5 w.heap.size noDelta none 0 none 0)
    obtain ⟨v, hv⟩ : ∃ v, v = setDl w5 w.heap.size noDelta none 0 none 0 := ⟨_, rfl⟩
    rw [← hv]
    obtain ⟨kv, sv, hbv⟩ := FIN.out w5 v noDelta none 0 none 0 _ K5.out hv HR5.out (Dv.none _ _)
    obtain ⟨z0, z1, z2, z3, z4⟩ := dl_cells hbv
    refine bodyPost_ret (v := .tuple #[dtv noDelta none 0 none 0, .int .i64 10]) (by simp [results, Tryz.results8, go_sem, dtv, Tryz.isAgg31, Tryz.sizeOf31, z0, z1, z2, z3, z4]) rfl ?_
    rw [HE1.out, HE2.out]
    exact ⟨none, 0, none, 0, rfl, sv, kv⟩
end Go.Proofs.YthmjjhjblokjeaaGreat
