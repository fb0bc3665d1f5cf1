/-
  The walk of DeltaJoin. No statement is proved here.
-/
import Derived.Test.YtfcpofobdlgbbaaL8Join
namespace Go.Proofs.Ytfcpofobdlgbbaa
open Go.RowKit Tot

set_option maxRecDepth 100000 in
set_option maxHeartbeats 2000000 in
theorem join8_walk (hB : BetweenC) (hD : DoC) (hJ : JoinC) (hR : DRightC) (F : Nat → Prop) (a : Option Addr) (n cp : Nat) (ss : List SayV) (one two : UInt8) (w : World) (h : Lies w F a (sayCells ss)) (hl : ss.length = n) (hnc : n ≤ cp) :
    Calls Try.prog 5 #[.slice a n cp, .int .u8 (one.toNat : Int), .int .u8 (two.toNat : Int)] w fun e w' => e = .returned (.bool true) ∧ Kept noBlock w w' := by
  have TH := Lib.hid (fun u (k : Kept noBlock w u) => three_any F a n cp ss one two u (h.keep k (fun _ _ h => h)) hl hnc)
  have AW := Lib.hid (awake8_any hB hD w)
  clear h hl hnc
  go_enter Try.func5, Try.ntmps5
  go_wp2_with fail
  refine AW.out.mono ?_
  rintro en w1 ⟨rfl, k1⟩
  have K1 := Lib.hid k1
  clear k1 AW
  go_wp2_with fail
  refine (TH.out w1 K1.out).mono ?_
  rintro en w2 ⟨s0, s1, s2, A0, c0, B0, d0, A1, c1, B1, d1, A2, c2, B2, d2, rfl, CH, SV, k2⟩
  have hx : (w2.alloc (.cells (threeV s0 s1 s2 A0 c0 B0 d0 A1 c1 B1 d1 A2 c2 B2 d2).toArray 28)).heap[w2.heap.size]? = _ := heap_alloc_new w2 (.cells (threeV s0 s1 s2 A0 c0 B0 d0 A1 c1 B1 d1 A2 c2 B2 d2).toArray 28)
  have ka := Kept.alloc noBlock w2 (.cells (threeV s0 s1 s2 A0 c0 B0 d0 A1 c1 B1 d1 A2 c2 B2 d2).toArray 28)
  obtain ⟨PX, hX⟩ : ∃ X, X = w2.heap.size := ⟨_, rfl⟩
  unfold threeV
  go_upto_region 4 with (fail)
  change Code.wp _ _ _ _ (w2.alloc (.cells (threeV s0 s1 s2 A0 c0 B0 d0 A1 c1 B1 d1 A2 c2 B2 d2).toArray 28))
  rw [← hX] at hx ⊢
  generalize w2.alloc (.cells (threeV s0 s1 s2 A0 c0 B0 d0 A1 c1 B1 d1 A2 c2 B2 d2).toArray 28) = u2 at hx ka ⊢
  obtain ⟨ch1, ch2, ch3, ch4⟩ := CH.out
  clear ch4
  have Vs00 := Lib.hid ((SV.out.1.kept ka).mono (G := Aw) (fun _ _ => trivial))
  have Vs10 := Lib.hid ((SV.out.2.1.kept ka).mono (G := Aw) (fun _ _ => trivial))
  have Vs20 := Lib.hid ((SV.out.2.2.kept ka).mono (G := Aw) (fun _ _ => trivial))
  have HX0 := Lib.hid hx
  have K0 := Lib.hid (K1.out.step (k2.step ka))
  have hd1 := ch1.delta.2.2
  have hd2 := ch2.delta.2.2
  obtain ⟨jn1, jn2, jn3⟩ := join_chain ch1 ch2
  obtain ⟨db, eb, jb1, jb2⟩ := join_back ch1 ch2
  have be1 := between_at hB ch1
  have be2 := between_at hB ch2
  have jo1 := join_at hJ hd1 hd2 jn1
  have do1 := do_at hD ch1.rs jn3 jn2
  have sm := same_at ch2.rt
  have ri := fun u A c B d (h : Dv u Aw (cOf s0 s1 s2) A c B d) => hR Aw (cOf s0 s1 s2) A c B d u h (by have := jn3.2.2.1; omega) (by have := sess_len jn3.2.2.2.2; omega)
  rw [decide_eq_true jn3] at ri
  have jo2 := join_at hJ hd2 hd1 jb1
  have u1 := up_between ch1.rs.up ch1.rt.up
  have u2' := up_between ch2.rs.up ch2.rt.up
  have um := Srt.up_mrg u1 u2'
  have lk := fun k => Srt.look_mrg u1 u2' k
  have ks1 := keys_small (between_ok ch1.rs.pok ch1.rt.pok)
  have ks2 := keys_small (between_ok ch2.rs.pok ch2.rt.pok)
  have ks3 := keys_small (mrg_ok (between_ok ch1.rs.pok ch1.rt.pok) (between_ok ch2.rs.pok ch2.rt.pok))
  have hl1 := dOf_len ch1
  have hl2 := dOf_len ch2
  have hl3 := Srt.mrg_len (dOf s0 s1).pairs (dOf s1 s2).pairs
  obtain ⟨da, hda⟩ : ∃ d, d = dOf s0 s1 := ⟨_, rfl⟩
  obtain ⟨db', hdb⟩ : ∃ d, d = dOf s1 s2 := ⟨_, rfl⟩
  obtain ⟨dc, hdc⟩ : ∃ d, d = cOf s0 s1 s2 := ⟨_, rfl⟩
  have fa : da.from_ = s0.index ∧ da.to_ = s1.index ∧ da.term = s1.term := by rw [hda]; exact ⟨rfl, rfl, rfl⟩
  have fb : db'.from_ = s1.index ∧ db'.to_ = s2.index ∧ db'.term = s2.term := by rw [hdb]; exact ⟨rfl, rfl, rfl⟩
  have fc : dc.from_ = s0.index ∧ dc.to_ = s2.index ∧ dc.term = s2.term := by rw [hdc]; exact ⟨rfl, rfl, rfl⟩
  have pa : (dOf s0 s1).pairs = betweenP s0.pairs s1.pairs := rfl
  have pb : (dOf s1 s2).pairs = betweenP s1.pairs s2.pairs := rfl
  have pc : (cOf s0 s1 s2).pairs = Srt.mrg (betweenP s0.pairs s1.pairs) (betweenP s1.pairs s2.pairs) := rfl
  rw [← pc] at um ks3 lk
  rw [← pa] at u1 lk ks1
  rw [← pb] at u2' lk ks2
  rw [pa, pb, ← pc, ← pa, ← pb] at hl3
  rw [← hda] at be1 jo1 jo2 u1 lk ks1 hl1 hl3
  rw [← hdb] at be2 jo1 jo2 u2' lk ks2 hl2 hl3
  rw [← hdc] at jo1 do1 ri um lk ks3 hl3
  have FB : Hid (∀ x y : Bool, x = (s2.index == s0.index) → y = decide (s2.term ≤ s1.term) → (eb == 0) = (x && y)) := fun x y h1 h2 => by rw [h1, h2]; exact jb2
  clear jn1 jn2 jn3 jb1 jb2 hd1 hd2 pa pb pc hda hdb hdc
  unfold stv dtv at be1 be2 do1
  unfold stv at sm
  unfold dtv at ri jo1 jo2
  have BE1 := Lib.hid be1
  have BE2 := Lib.hid be2
  have JO1 := Lib.hid jo1
  have DO1 := Lib.hid do1
  have SM := Lib.hid sm
  have RI := Lib.hid (fun u A c B d h => ri u A c B d h)
  have JO2 := Lib.hid jo2
  have FA := Lib.hid fa
  have FBB := Lib.hid fb
  have FC := Lib.hid fc
  have UA := Lib.hid u1
  have UB := Lib.hid u2'
  have UC := Lib.hid um
  have LK := Lib.hid lk
  have KA1 := Lib.hid ks1
  have KB1 := Lib.hid ks2
  have KC1 := Lib.hid ks3
  have HL := Lib.hid (And.intro hl1 (And.intro hl2 hl3))
  clear be1 be2 jo1 do1 sm ri jo2 hx ka hX k2 SV CH ch1 ch2 ch3 TH K1 fa fb fc u1 u2' um lk ks1 ks2 ks3 hl1 hl2 hl3 hB hD hJ hR
  obtain ⟨qX0, qX1, qX2, qX3, qX4, qX5, qX6, qX7, qX8, qX9, qX10, qX11⟩ := th_cells HX0.out
  go_wp2_with fail
  refine (BE1.out u2 _ _ _ _ _ _ _ _ Vs00.out Vs10.out).mono ?_
  rintro en y1 ⟨xAa, xca, xBa, xda, rfl, sv, kc⟩
  have ka := Kept.alloc noBlock y1 (.cells #[.int .i64 da.from_, .int .i64 da.to_, .int .i64 da.term, .slice xAa da.pairs.length xca, .slice xBa da.sess.length xda] 31)
  have ha := heap_alloc_new y1 (.cells #[.int .i64 da.from_, .int .i64 da.to_, .int .i64 da.term, .slice xAa da.pairs.length xca, .slice xBa da.sess.length xda] 31)
  clear qX0 qX1 qX2 qX3 qX4 qX5 qX6 qX7 qX8 qX9 qX10 qX11
  go_upto_region 5 with (fail)
  obtain ⟨Pa, hP⟩ : ∃ P, P = y1.heap.size := ⟨_, rfl⟩
  rw [← hP] at ha ⊢
  generalize y1.alloc (.cells #[.int .i64 da.from_, .int .i64 da.to_, .int .i64 da.term, .slice xAa da.pairs.length xca, .slice xBa da.sess.length xda] 31) = z1 at ka ha ⊢
  have kk := kc.step ka
  have HX1 := Lib.hid (kk.blk HX0.out (fun h => h))
  have Vs01 := Lib.hid (Vs00.out.kept kk)
  have Vs11 := Lib.hid (Vs10.out.kept kk)
  have Vs21 := Lib.hid (Vs20.out.kept kk)
  have Ha0 := Lib.hid ha
  have Va0 := Lib.hid (sv.kept ka)
  have K1 := Lib.hid (K0.out.step kk)
  clear ka ha hP sv kc kk HX0 Vs00 Vs10 Vs20 K0
  obtain ⟨qX0, qX1, qX2, qX3, qX4, qX5, qX6, qX7, qX8, qX9, qX10, qX11⟩ := th_cells HX1.out
  go_wp2_with fail
  refine (BE2.out z1 _ _ _ _ _ _ _ _ Vs11.out Vs21.out).mono ?_
  rintro en y2 ⟨xAb, xcb, xBb, xdb, rfl, sv, kc⟩
  have ka := Kept.alloc noBlock y2 (.cells #[.int .i64 db'.from_, .int .i64 db'.to_, .int .i64 db'.term, .slice xAb db'.pairs.length xcb, .slice xBb db'.sess.length xdb] 31)
  have ha := heap_alloc_new y2 (.cells #[.int .i64 db'.from_, .int .i64 db'.to_, .int .i64 db'.term, .slice xAb db'.pairs.length xcb, .slice xBb db'.sess.length xdb] 31)
  clear qX0 qX1 qX2 qX3 qX4 qX5 qX6 qX7 qX8 qX9 qX10 qX11
  go_upto_region 6 with (fail)
  obtain ⟨Pb, hP⟩ : ∃ P, P = y2.heap.size := ⟨_, rfl⟩
  rw [← hP] at ha ⊢
  generalize y2.alloc (.cells #[.int .i64 db'.from_, .int .i64 db'.to_, .int .i64 db'.term, .slice xAb db'.pairs.length xcb, .slice xBb db'.sess.length xdb] 31) = z2 at ka ha ⊢
  have kk := kc.step ka
  have HX2 := Lib.hid (kk.blk HX1.out (fun h => h))
  have Ha1 := Lib.hid (kk.blk Ha0.out (fun h => h))
  have Vs02 := Lib.hid (Vs01.out.kept kk)
  have Vs12 := Lib.hid (Vs11.out.kept kk)
  have Vs22 := Lib.hid (Vs21.out.kept kk)
  have Va1 := Lib.hid (Va0.out.kept kk)
  have Hb0 := Lib.hid ha
  have Vb0 := Lib.hid (sv.kept ka)
  have K2 := Lib.hid (K1.out.step kk)
  clear ka ha hP sv kc kk HX1 Ha0 Vs01 Vs11 Vs21 Va0 K1
  obtain ⟨qa0, qa1, qa2, qa3, qa4⟩ := dl_cells Ha1.out
  obtain ⟨qb0, qb1, qb2, qb3, qb4⟩ := dl_cells Hb0.out
  go_wp2_with fail
  refine (JO1.out z2 _ _ _ _ _ _ _ _ Va1.out Vb0.out).mono ?_
  rintro en y3 ⟨xAc, xcc, xBc, xdc, rfl, sv, kc⟩
  have ka := Kept.alloc noBlock y3 (.cells #[.int .i64 dc.from_, .int .i64 dc.to_, .int .i64 dc.term, .slice xAc dc.pairs.length xcc, .slice xBc dc.sess.length xdc] 31)
  have ha := heap_alloc_new y3 (.cells #[.int .i64 dc.from_, .int .i64 dc.to_, .int .i64 dc.term, .slice xAc dc.pairs.length xcc, .slice xBc dc.sess.length xdc] 31)
  clear qa0 qa1 qa2 qa3 qa4 qb0 qb1 qb2 qb3 qb4
  go_upto_region 7 with (fail)
  obtain ⟨Pc, hP⟩ : ∃ P, P = y3.heap.size := ⟨_, rfl⟩
  rw [← hP] at ha ⊢
  generalize y3.alloc (.cells #[.int .i64 dc.from_, .int .i64 dc.to_, .int .i64 dc.term, .slice xAc dc.pairs.length xcc, .slice xBc dc.sess.length xdc] 31) = z3 at ka ha ⊢
  have kk := kc.step ka
  have HX3 := Lib.hid (kk.blk HX2.out (fun h => h))
  have Ha2 := Lib.hid (kk.blk Ha1.out (fun h => h))
  have Hb1 := Lib.hid (kk.blk Hb0.out (fun h => h))
  have Vs03 := Lib.hid (Vs02.out.kept kk)
  have Vs13 := Lib.hid (Vs12.out.kept kk)
  have Vs23 := Lib.hid (Vs22.out.kept kk)
  have Va2 := Lib.hid (Va1.out.kept kk)
  have Vb1 := Lib.hid (Vb0.out.kept kk)
  have Hc0 := Lib.hid ha
  have Vc0 := Lib.hid (sv.kept ka)
  have K3 := Lib.hid (K2.out.step kk)
  clear ka ha hP sv kc kk HX2 Ha1 Hb0 Vs02 Vs12 Vs22 Va1 Vb0 K2
  obtain ⟨qX0, qX1, qX2, qX3, qX4, qX5, qX6, qX7, qX8, qX9, qX10, qX11⟩ := th_cells HX3.out
  obtain ⟨qc0, qc1, qc2, qc3, qc4⟩ := dl_cells Hc0.out
  go_wp2_with fail
  refine (DO1.out z3 _ _ _ _ _ _ _ _ Vs03.out Vc0.out).mono ?_
  rintro en y4 ⟨xAs, xcs, xBs, xds, rfl, sv, kc⟩
  have ka := Kept.alloc noBlock y4 (.cells #[.int .i64 s2.index, .int .i64 s2.term, .slice xAs s2.pairs.length xcs, .slice xBs s2.sess.length xds] 27)
  have ha := heap_alloc_new y4 (.cells #[.int .i64 s2.index, .int .i64 s2.term, .slice xAs s2.pairs.length xcs, .slice xBs s2.sess.length xds] 27)
  clear qX0 qX1 qX2 qX3 qX4 qX5 qX6 qX7 qX8 qX9 qX10 qX11 qc0 qc1 qc2 qc3 qc4
  go_upto_region 8 with (fail)
  obtain ⟨Ps, hP⟩ : ∃ P, P = y4.heap.size := ⟨_, rfl⟩
  rw [← hP] at ha ⊢
  generalize y4.alloc (.cells #[.int .i64 s2.index, .int .i64 s2.term, .slice xAs s2.pairs.length xcs, .slice xBs s2.sess.length xds] 27) = z4 at ka ha ⊢
  have kk := kc.step ka
  have HX4 := Lib.hid (kk.blk HX3.out (fun h => h))
  have Ha3 := Lib.hid (kk.blk Ha2.out (fun h => h))
  have Hb2 := Lib.hid (kk.blk Hb1.out (fun h => h))
  have Hc1 := Lib.hid (kk.blk Hc0.out (fun h => h))
  have Vs04 := Lib.hid (Vs03.out.kept kk)
  have Vs14 := Lib.hid (Vs13.out.kept kk)
  have Vs24 := Lib.hid (Vs23.out.kept kk)
  have Va3 := Lib.hid (Va2.out.kept kk)
  have Vb2 := Lib.hid (Vb1.out.kept kk)
  have Vc1 := Lib.hid (Vc0.out.kept kk)
  have Hs0 := Lib.hid ha
  have Vs0 := Lib.hid (sv.kept ka)
  have K4 := Lib.hid (K3.out.step kk)
  clear ka ha hP sv kc kk HX3 Ha2 Hb1 Hc0 Vs03 Vs13 Vs23 Va2 Vb1 Vc0 K3
  obtain ⟨qX0, qX1, qX2, qX3, qX4, qX5, qX6, qX7, qX8, qX9, qX10, qX11⟩ := th_cells HX4.out
  obtain ⟨qs0, qs1, qs2, qs3⟩ := st_cells Hs0.out
  go_wp2_with fail
  refine (SM.out z4 _ _ _ _ _ _ _ _ Vs0.out Vs24.out).mono ?_
  rintro en y5 ⟨rfl, kc⟩
  clear qX0 qX1 qX2 qX3 qX4 qX5 qX6 qX7 qX8 qX9 qX10 qX11 qs0 qs1 qs2 qs3
  have HX5 := Lib.hid (kc.blk HX4.out (fun h => h))
  have Ha4 := Lib.hid (kc.blk Ha3.out (fun h => h))
  have Hb3 := Lib.hid (kc.blk Hb2.out (fun h => h))
  have Hc2 := Lib.hid (kc.blk Hc1.out (fun h => h))
  have Hs1 := Lib.hid (kc.blk Hs0.out (fun h => h))
  have Vs05 := Lib.hid (Vs04.out.kept kc)
  have Vs15 := Lib.hid (Vs14.out.kept kc)
  have Vs25 := Lib.hid (Vs24.out.kept kc)
  have Va4 := Lib.hid (Va3.out.kept kc)
  have Vb3 := Lib.hid (Vb2.out.kept kc)
  have Vc2 := Lib.hid (Vc1.out.kept kc)
  have Vs1 := Lib.hid (Vs0.out.kept kc)
  have K5 := Lib.hid (K4.out.step kc)
  clear kc HX4 Ha3 Hb2 Hc1 Hs0 Vs04 Vs14 Vs24 Va3 Vb2 Vc1 Vs0 K4
  clear Hs1 Vs1
  clear Vs05
  clear Vs15
  clear Vs25
  clear HX5
  have i1 : (dc.from_ != da.from_) = false := by rw [FC.out.1, FA.out.1]; simp
  have i2 : (dc.to_ != db'.to_) = false := by rw [FC.out.2.1, FBB.out.2.1]; simp
  have i3 : (dc.term != db'.term) = false := by rw [FC.out.2.2, FBB.out.2.2]; simp
  obtain ⟨qa0, qa1, qa2, qa3, qa4⟩ := dl_cells Ha4.out
  obtain ⟨qb0, qb1, qb2, qb3, qb4⟩ := dl_cells Hb3.out
  obtain ⟨qc0, qc1, qc2, qc3, qc4⟩ := dl_cells Hc2.out
  go_wp2_with fail
  refine (RI.out y5 _ _ _ _ Vc2.out).mono ?_
  rintro en y6 ⟨rfl, kc⟩
  clear qa0 qa1 qa2 qa3 qa4 qb0 qb1 qb2 qb3 qb4 qc0 qc1 qc2 qc3 qc4
  have Ha5 := Lib.hid (kc.blk Ha4.out (fun h => h))
  have Hb4 := Lib.hid (kc.blk Hb3.out (fun h => h))
  have Hc3 := Lib.hid (kc.blk Hc2.out (fun h => h))
  have Va5 := Lib.hid (Va4.out.kept kc)
  have Vb4 := Lib.hid (Vb3.out.kept kc)
  have Vc3 := Lib.hid (Vc2.out.kept kc)
  have K6 := Lib.hid (K5.out.step kc)
  clear kc Ha4 Hb3 Hc2 Va4 Vb3 Vc2 K5
  clear i1 i2 i3
  go_upto_region 10 with (fail)
  have CE : Hid (∀ v, Kept noBlock y6 v → (v.cell? ⟨Pa, 3, none⟩ = some (.slice xAa da.pairs.length xca)) ∧ (v.cell? ⟨Pb, 3, none⟩ = some (.slice xAb db'.pairs.length xcb)) ∧ (v.cell? ⟨Pc, 3, none⟩ = some (.slice xAc dc.pairs.length xcc))) := fun v k =>
    ⟨(dl_cells (k.blk Ha5.out (fun h => h))).2.2.2.1, (dl_cells (k.blk Hb4.out (fun h => h))).2.2.2.1, (dl_cells (k.blk Hc3.out (fun h => h))).2.2.2.1⟩
  have VA := Lib.hid (fun v (k : Kept noBlock y6 v) => values_any _ xAa _ xca da.pairs v (Va5.out.kept k).lp rfl Va5.out.cp (by have := HL.out.1; omega) UA.out KA1.out)
  have VB := Lib.hid (fun v (k : Kept noBlock y6 v) => values_any _ xAb _ xcb db'.pairs v (Vb4.out.kept k).lp rfl Vb4.out.cp (by have := HL.out.2.1; omega) UB.out KB1.out)
  have VC := Lib.hid (fun v (k : Kept noBlock y6 v) => values_any _ xAc _ xcc dc.pairs v (Vc3.out.kept k).lp rfl Vc3.out.cp (by have := HL.out; omega) UC.out KC1.out)
  refine wp_region_noPanic ?_
  refine wp_region_held_drew (S := fun v => (v.cell? ⟨Pa, 3, none⟩ = some (.slice xAa da.pairs.length xca)) ∧ (v.cell? ⟨Pb, 3, none⟩ = some (.slice xAb db'.pairs.length xcb)) ∧ (v.cell? ⟨Pc, 3, none⟩ = some (.slice xAc dc.pairs.length xcc))) (by kernel_rfl) (CE.out _ (Kept.drew _ _)) (fun hHeld => ?_)
  refine wpAnyH_take (i := 0) (oi := ⟨some 107, Op.fieldAddr 31 (Operand.tmp 8) 3, 0, _, _, none⟩) (v := ?v0n28k1) rfl (by kernel_rfl) (by kernel_rfl) (by kernel_rfl) (fun _ _ _ h => h) (Or.inl ⟨by rfl, ?y0n28k1⟩) hHeld ?z0n28k1
  case y0n28k1 => intro w hSw; (try dsimp only at hSw); go_simp <;> rfl
  try simp only [Act.put, List.setIfInBounds_toArray, List.set_cons_zero, List.set_cons_succ]
  refine wpAnyH_take (i := 1) (oi := ⟨some 108, Op.load 24 (Operand.tmp 107), 24, _, _, none⟩) (v := ?v1n28k2) rfl (by kernel_rfl) (by kernel_rfl) (by kernel_rfl) (fun _ _ _ h => h) (Or.inl ⟨by rfl, ?y1n28k2⟩) hHeld ?z1n28k2
  case y1n28k2 => intro w hSw; (try dsimp only at hSw); go_simp <;> rfl
  try simp only [Act.put, List.setIfInBounds_toArray, List.set_cons_zero, List.set_cons_succ]
  refine wpAnyH_take (i := 3) (oi := ⟨some 110, Op.fieldAddr 31 (Operand.tmp 10) 3, 0, _, _, none⟩) (v := ?v3n28k3) rfl (by kernel_rfl) (by kernel_rfl) (by kernel_rfl) (fun _ _ _ h => h) (Or.inl ⟨by rfl, ?y3n28k3⟩) hHeld ?z3n28k3
  case y3n28k3 => intro w hSw; (try dsimp only at hSw); go_simp <;> rfl
  try simp only [Act.put, List.setIfInBounds_toArray, List.set_cons_zero, List.set_cons_succ]
  refine wpAnyH_take (i := 4) (oi := ⟨some 111, Op.load 24 (Operand.tmp 110), 24, _, _, none⟩) (v := ?v4n28k4) rfl (by kernel_rfl) (by kernel_rfl) (by kernel_rfl) (fun _ _ _ h => h) (Or.inl ⟨by rfl, ?y4n28k4⟩) hHeld ?z4n28k4
  case y4n28k4 => intro w hSw; (try dsimp only at hSw); go_simp <;> rfl
  try simp only [Act.put, List.setIfInBounds_toArray, List.set_cons_zero, List.set_cons_succ]
  refine wpAnyH_take (i := 6) (oi := ⟨some 113, Op.fieldAddr 31 (Operand.tmp 12) 3, 0, _, _, none⟩) (v := ?v6n28k5) rfl (by kernel_rfl) (by kernel_rfl) (by kernel_rfl) (fun _ _ _ h => h) (Or.inl ⟨by rfl, ?y6n28k5⟩) hHeld ?z6n28k5
  case y6n28k5 => intro w hSw; (try dsimp only at hSw); go_simp <;> rfl
  try simp only [Act.put, List.setIfInBounds_toArray, List.set_cons_zero, List.set_cons_succ]
  refine wpAnyH_take (i := 7) (oi := ⟨some 114, Op.load 24 (Operand.tmp 113), 24, _, _, none⟩) (v := ?v7n28k6) rfl (by kernel_rfl) (by kernel_rfl) (by kernel_rfl) (fun _ _ _ h => h) (Or.inl ⟨by rfl, ?y7n28k6⟩) hHeld ?z7n28k6
  case y7n28k6 => intro w hSw; (try dsimp only at hSw); go_simp <;> rfl
  try simp only [Act.put, List.setIfInBounds_toArray, List.set_cons_zero, List.set_cons_succ]
  refine wpAnyH_ready (rs := [2]) (by kernel_rfl) (by simp) ?_
  refine AllReadyH.cons (o := ⟨some 109, Op.call { callee := Callee.value (Operand.func 14), args := #[Operand.tmp 108], argTypes := #[24] }, 36, _, _, none⟩) rfl (fun K hK => ?_) AllReadyH.nil
  go_simp
  refine (VA.out _ (Kept.drew _ _)).mono ?_
  rintro en v2 ⟨ba, rfl, _, ta, k2⟩
  have J2 := Lib.hid ((Kept.drew noBlock y6).step k2)
  have TA2 := Lib.hid ta
  clear ta k2
  dsimp only
  refine hK.out _ _ (CE.out _ J2.out) (fun hHeld => ?_)
  clear hK K
  try simp only [Act.put, List.setIfInBounds_toArray, List.set_cons_zero, List.set_cons_succ]
  refine wpAnyH_ready (rs := [5]) (by kernel_rfl) (by simp) ?_
  refine AllReadyH.cons (o := ⟨some 112, Op.call { callee := Callee.value (Operand.func 14), args := #[Operand.tmp 111], argTypes := #[24] }, 36, _, _, none⟩) rfl (fun K hK => ?_) AllReadyH.nil
  go_simp
  refine (VB.out _ J2.out).mono ?_
  rintro en v5 ⟨bb, rfl, _, tb, k5⟩
  have J5 := Lib.hid (J2.out.step k5)
  have TB5 := Lib.hid tb
  have TA5 := Lib.hid (TA2.out.keep k5 (fun h => h))
  clear tb k5 TA2
  dsimp only
  refine hK.out _ _ (CE.out _ J5.out) (fun hHeld => ?_)
  clear hK K
  try simp only [Act.put, List.setIfInBounds_toArray, List.set_cons_zero, List.set_cons_succ]
  refine wpAnyH_ready (rs := [8]) (by kernel_rfl) (by simp) ?_
  refine AllReadyH.cons (o := ⟨some 115, Op.call { callee := Callee.value (Operand.func 14), args := #[Operand.tmp 114], argTypes := #[24] }, 36, _, _, none⟩) rfl (fun K hK => ?_) AllReadyH.nil
  go_simp
  refine (VC.out _ J5.out).mono ?_
  rintro en v8 ⟨bc, rfl, _, tc, k8⟩
  have J8 := Lib.hid (J5.out.step k8)
  have TC8 := Lib.hid tc
  have TB8 := Lib.hid (TB5.out.keep k8 (fun h => h))
  have TA8 := Lib.hid (TA5.out.keep k8 (fun h => h))
  clear tc k8 TA5 TB5
  dsimp only
  refine hK.out _ _ (CE.out _ J8.out) (fun hHeld => ?_)
  clear hK K
  try simp only [Act.put, List.setIfInBounds_toArray, List.set_cons_zero, List.set_cons_succ]
  refine wpAnyH_take (i := 9) (oi := ⟨some 16, Op.assign (Operand.tmp 109), 36, _, _, none⟩) (v := ?v9n28k7) rfl (by kernel_rfl) (by kernel_rfl) (by kernel_rfl) (fun _ _ _ h => h) (Or.inl ⟨by rfl, ?y9n28k7⟩) hHeld ?z9n28k7
  case y9n28k7 => intro w hSw; (try dsimp only at hSw); go_simp <;> rfl
  try simp only [Act.put, List.setIfInBounds_toArray, List.set_cons_zero, List.set_cons_succ]
  refine wpAnyH_take (i := 10) (oi := ⟨some 17, Op.assign (Operand.tmp 112), 36, _, _, none⟩) (v := ?v10n28k8) rfl (by kernel_rfl) (by kernel_rfl) (by kernel_rfl) (fun _ _ _ h => h) (Or.inl ⟨by rfl, ?y10n28k8⟩) hHeld ?z10n28k8
  case y10n28k8 => intro w hSw; (try dsimp only at hSw); go_simp <;> rfl
  try simp only [Act.put, List.setIfInBounds_toArray, List.set_cons_zero, List.set_cons_succ]
  refine wpAnyH_take (i := 11) (oi := ⟨some 18, Op.assign (Operand.tmp 115), 36, _, _, none⟩) (v := ?v11n28k9) rfl (by kernel_rfl) (by kernel_rfl) (by kernel_rfl) (fun _ _ _ h => h) (Or.inl ⟨by rfl, ?y11n28k9⟩) hHeld ?z11n28k9
  case y11n28k9 => intro w hSw; (try dsimp only at hSw); go_simp <;> rfl
  try simp only [Act.put, List.setIfInBounds_toArray, List.set_cons_zero, List.set_cons_succ]
  refine wpAnyH_done (by kernel_rfl) ?_ _
  refine NoPanic.normal ?_
  have Ha8 := Lib.hid (J8.out.blk Ha5.out (fun h => h))
  have Hb8 := Lib.hid (J8.out.blk Hb4.out (fun h => h))
  have Hc8 := Lib.hid (J8.out.blk Hc3.out (fun h => h))
  have Va8 := Lib.hid (Va5.out.kept J8.out)
  have Vb8 := Lib.hid (Vb4.out.kept J8.out)
  have K8 := Lib.hid (K6.out.step J8.out)
  clear hHeld CE VA VB VC J2 J5 J8 Ha5 Hb4 Hc3 Va5 Vb4 Vc3 K6
  go_wp2_with (at_range; refine MP.wpList_range rfl _ rfl bc (valuesM dc.pairs) rfl TC8.out ?_)
  intro w0 left0 hrg0 _ k0 hs0
  obtain ⟨r, hr⟩ : ∃ r, r = v8.heap.size := ⟨_, rfl⟩
  rw [← hr] at hrg0 ⊢
  have HR0 := Lib.hid hrg0
  have K0' := Lib.hid k0
  have HRR := Lib.hid hr
  clear hrg0 k0 hs0 hr
  go_wp2_with fail
  go_loopw [] (fun wr => ∃ (left : Lit → Bool) (cnt : Nat), Hid (MP.Rng wr bc r (valuesM dc.pairs) left cnt) ∧ Hid (Kept noBlock v8 wr)) (fun wr => wr.rangeLeft bc r)
  case atStart => exact ⟨left0, _, HR0, K0'⟩
  case round =>
    obtain ⟨left, cnt, HR, KK⟩ := hrel
    go_wp2_with (at_next; refine MP.wpList_next rfl _ rfl bc r (valuesM dc.pairs) left cnt rfl HR.out ?_ ?_)
    · intro _
      have KW := Lib.hid (K8.out.step KK.out)
      have Hbw := Lib.hid (KK.out.blk Hb8.out (fun h => h))
      have Haw := Lib.hid (KK.out.blk Ha8.out (fun h => h))
      have JX := Lib.hid (JO2.out wr _ _ _ _ _ _ _ _ (Vb8.out.kept KK.out) (Va8.out.kept KK.out))
      obtain ⟨a0, a1, a2, a3, a4⟩ := dl_cells Haw.out
      obtain ⟨b0, b1, b2, b3, b4⟩ := dl_cells Hbw.out
      have HRT := Lib.hid HR.out.tb
      have Hcw := Lib.hid (KK.out.blk Hc8.out (fun h => h))
      clear JO2 HR KK
      go_wp2_with fail
      refine JX.out.mono ?_
      rintro en v9 ⟨xA9, xc9, xB9, xd9, rfl, sv9, k9⟩
      have kk := k9.step (Kept.alloc noBlock v9 (.cells #[.int .i64 db.from_, .int .i64 db.to_, .int .i64 db.term, .slice xA9 db.pairs.length xc9, .slice xB9 db.sess.length xd9] 31))
      have Hb9 := Lib.hid (kk.blk Hbw.out (fun h => h))
      have Ha9 := Lib.hid (kk.blk Haw.out (fun h => h))
      have Hc9 := Lib.hid (kk.blk Hcw.out (fun h => h))
      have T9 := Lib.hid (HRT.out.keep kk (fun h => h))
      have K9 := Lib.hid (KW.out.step kk)
      clear sv9 k9 kk a0 a1 a2 a3 a4 b0 b1 b2 b3 b4 JX HRT Hcw
      go_upto_region 20 with (fail)
      generalize v9.alloc (.cells #[.int .i64 db.from_, .int .i64 db.to_, .int .i64 db.term, .slice xA9 db.pairs.length xc9, .slice xB9 db.sess.length xd9] 31) = v10 at Hb9 Ha9 Hc9 T9 K9 ⊢
      obtain ⟨a0, a1, a2, a3, a4⟩ := dl_cells Ha9.out
      obtain ⟨b0, b1, b2, b3, b4⟩ := dl_cells Hb9.out
      obtain ⟨c0', c1', c2', c3', c4'⟩ := dl_cells Hc9.out
      have hsz : ∀ ty, (Builtin.len_ #[36] ty #[.map (some bc)]).run Try.prog v10 = .ok (.int .i64 (dc.pairs.length : Int)) v10 := fun ty => by
        have := MP.run_size T9.out ty
        rw [values_len] at this
        exact this
      have i9 : ((dc.pairs.length : Int) == (dc.pairs.length : Int)) = true := by simp
      have hfb := fun x y h1 h2 => FB.out x y h1 h2
      rw [← FBB.out.2.1, ← FBB.out.2.2, ← FA.out.1, ← FA.out.2.2] at hfb
      cases hx : (db'.to_ == da.from_) with
      | false =>
        have e1 : (eb == 0) = false := by rw [hfb false _ hx.symm rfl]; rfl
        clear hfb
        go_wp2
        go_ret
        exact ⟨rfl, K9.out⟩
      | true =>
        by_cases hy : db'.term ≤ da.term
        · have e1 : (eb == 0) = true := by rw [hfb true true hx.symm (decide_eq_true hy).symm]; rfl
          clear hfb
          go_wp2
          go_ret
          exact ⟨rfl, K9.out⟩
        · have e1 : (eb == 0) = false := by rw [hfb true false hx.symm (decide_eq_false hy).symm]; rfl
          clear hfb
          go_wp2
          go_ret
          exact ⟨rfl, K9.out⟩
    · intro k v u1 cnt1 hmem hl hsl hrg1 hlt k1 hsz hen
      obtain ⟨⟨xk, xv, xg⟩⟩ := v
      simp only at hmem hen
      have hlk : Srt.look dc.pairs k = some (xv, xg) ∧ xk = k := by
        have h1 := Srt.look_of_mem (values_up UC.out) hmem
        rw [values_look] at h1
        cases h2 : Srt.look dc.pairs k with
        | none => rw [h2] at h1; cases h1
        | some q =>
          rw [h2] at h1
          simp only [Option.map_some, Option.some.injEq, Prod.mk.injEq] at h1
          exact ⟨congrArg some h1.2, h1.1.symm⟩
      obtain ⟨hlk, rfl⟩ := hlk
      have hfit : MP.Fits xk := hsl
      unfold MP.ev at hen
      simp only at hen
      have kr : Kept noBlock v8 u1 := (KK.out.mono (T := fun i => v8.heap.size ≤ i) (fun _ _ h => h.elim)).trans k1 (fun i _ h => by have := HRR.out; omega) |>.mono (fun i hi h => by omega)
      have ka := Kept.alloc noBlock u1 (.cells #[.string xk, .string xv, .bool xg] 39)
      have ha := heap_alloc_new u1 (.cells #[.string xk, .string xv, .bool xg] 39)
      have hm2 := hrg1.left_eq
      have hm3 := HR.out.left_eq
      have HM := Lib.hid (And.intro hm2 (And.intro hm3 hlt))
      have HRG := Lib.hid hrg1
      have hkl := LK.out xk
      rw [hlk] at hkl
      have HKL := Lib.hid hkl
      clear hmem hl hlk hm2 hm3 hlt hkl hsl hrg1 k1 hsz
      go_upto_region 14 with (fail)
      obtain ⟨PY, hPY⟩ : ∃ P, P = u1.heap.size := ⟨_, rfl⟩
      rw [← hPY] at ha ⊢
      generalize u1.alloc (.cells #[.string xk, .string xv, .bool xg] 39) = u2' at ka ha ⊢
      have HY := Lib.hid ha
      have KU := Lib.hid (kr.step ka)
      have HRN : Hid (MP.Rng u2' bc r (valuesM dc.pairs) (fun z => left z && !z.sameKey (MP.kl xk)) cnt1) := HRG.out.keep ka (fun h => h) (fun h => h)
      have HM2 : Hid (u2'.rangeLeft bc r = cnt1) := HRN.out.left_eq
      clear ka ha hPY kr hen HRG
      have rq := MP.run_look2 (TB8.out.keep KU.out (fun h => h)) xk hfit
      unfold MP.kv at rq
      rw [values_look] at rq
      unfold Srt.has at rq
      rw [values_look] at rq
      cases hq : Srt.look db'.pairs xk with
      | some q =>
        have hqq : q = (xv, xg) := by
          have := HKL.out
          rw [hq] at this
          simpa using this.symm
        subst hqq
        rw [hq] at rq
        replace rq : (Instr.lookup 36 (.map (some bb)) (.string xk) true).run Try.prog u2' = .ok (.tuple #[.agg #[.string xk, .string xv, .bool xg], .bool true]) u2' := rq
        have PN : ∀ u, (binOp .neq 39 (.agg #[.string xk, .string xv, .bool xg]) (.agg #[.string xk, .string xv, .bool xg])).run Try.prog u = .ok (.bool false) u := fun u => by
          have := pair_neq u (xk, (xv, xg)) (xk, (xv, xg))
          rw [pairSame_self] at this
          exact this
        have kb := Kept.alloc noBlock u2' (.cells #[.string xk, .string xv, .bool xg] 39)
        have hb := heap_alloc_new u2' (.cells #[.string xk, .string xv, .bool xg] 39)
        clear hq hfit
        go_upto_region 15 with (fail)
        obtain ⟨PW, hPW⟩ : ∃ P, P = u2'.heap.size := ⟨_, rfl⟩
        rw [← hPW] at hb ⊢
        generalize u2'.alloc (.cells #[.string xk, .string xv, .bool xg] 39) = u3' at kb hb ⊢
        have y := kb.blk HY.out (fun h => h)
        have y0 : u3'.cell? ⟨PY, 0, none⟩ = some (.string xk) := cell_of_row _ _ _ _ _ _ y
        have y1 : u3'.cell? ⟨PY, 1, none⟩ = some (.string xv) := cell_of_row _ _ _ _ _ _ y
        have y2 : u3'.cell? ⟨PY, 2, none⟩ = some (.bool xg) := cell_of_row _ _ _ _ _ _ y
        have z0 : u3'.cell? ⟨PW, 0, none⟩ = some (.string xk) := cell_of_row _ _ _ _ _ _ hb
        have z1 : u3'.cell? ⟨PW, 1, none⟩ = some (.string xv) := cell_of_row _ _ _ _ _ _ hb
        have z2 : u3'.cell? ⟨PW, 2, none⟩ = some (.bool xg) := cell_of_row _ _ _ _ _ _ hb
        have KF := Lib.hid (KU.out.step kb)
        have HRF : Hid (MP.Rng u3' bc r (valuesM dc.pairs) (fun z => left z && !z.sameKey (MP.kl xk)) cnt1) := HRN.out.keep kb (fun h => h) (fun h => h)
        have HM3 := Lib.hid HRF.out.left_eq
        clear y kb hb hPW rq HRN HM2
        go_wp2
        go_roundw
        case rel => exact ⟨_, cnt1, HRF, KF⟩
        case measure => rw [HM3.out, HM.out.2.1]; exact HM.out.2.2
      | none =>
        have hqa : Srt.look da.pairs xk = some (xv, xg) := by
          have := HKL.out
          rw [hq] at this
          simpa using this.symm
        rw [hq] at rq
        replace rq : (Instr.lookup 36 (.map (some bb)) (.string xk) true).run Try.prog u2' = .ok (.tuple #[.agg #[.string ⟨#[]⟩, .string ⟨#[]⟩, .bool false], .bool false]) u2' := rq
        have PN : ∀ u, (binOp .neq 39 (.agg #[.string xk, .string xv, .bool xg]) (.agg #[.string xk, .string xv, .bool xg])).run Try.prog u = .ok (.bool false) u := fun u => by
          have := pair_neq u (xk, (xv, xg)) (xk, (xv, xg))
          rw [pairSame_self] at this
          exact this
        have kb := Kept.alloc noBlock u2' (.cells #[.string ⟨#[]⟩, .string ⟨#[]⟩, .bool false] 39)
        have hb := heap_alloc_new u2' (.cells #[.string ⟨#[]⟩, .string ⟨#[]⟩, .bool false] 39)
        clear hq
        go_upto_region 15 with (fail)
        obtain ⟨PW, hPW⟩ : ∃ P, P = u2'.heap.size := ⟨_, rfl⟩
        rw [← hPW] at hb ⊢
        generalize u2'.alloc (.cells #[.string ⟨#[]⟩, .string ⟨#[]⟩, .bool false] 39) = u3' at kb hb ⊢
        have rq2 := MP.run_look2 (TA8.out.keep (KU.out.step kb) (fun h => h)) xk hfit
        unfold MP.kv at rq2
        rw [values_look] at rq2
        unfold Srt.has at rq2
        rw [values_look, hqa] at rq2
        replace rq2 : (Instr.lookup 36 (.map (some ba)) (.string xk) true).run Try.prog u3' = .ok (.tuple #[.agg #[.string xk, .string xv, .bool xg], .bool true]) u3' := rq2
        have z0 : u3'.cell? ⟨PW, 0, none⟩ = some (.string ⟨#[]⟩) := cell_of_row _ _ _ _ _ _ hb
        have z1 : u3'.cell? ⟨PW, 1, none⟩ = some (.string ⟨#[]⟩) := cell_of_row _ _ _ _ _ _ hb
        have z2 : u3'.cell? ⟨PW, 2, none⟩ = some (.bool false) := cell_of_row _ _ _ _ _ _ hb
        have f0 : u3'.frozen? ⟨PW, 0, none⟩ = false := frozen_of_row _ _ _ _ _ hb
        have f1 : u3'.frozen? ⟨PW, 1, none⟩ = false := frozen_of_row _ _ _ _ _ hb
        have f2 : u3'.frozen? ⟨PW, 2, none⟩ = false := frozen_of_row _ _ _ _ _ hb
        have kt := setL_kept PW [.string xk, .string xv, .bool xg] u3' 0
        have ht := setL_block (R := PW) [.string xk, .string xv, .bool xg] u3' [] _ (by rfl) hb
        have hyw : PY ≠ PW := by have := lt_of_blk HY.out; omega
        have y := kt.blk (kb.blk HY.out (fun h => h)) hyw
        have kf : Kept noBlock u2' (setL u3' PW 0 [.string xk, .string xv, .bool xg]) := ((kb.mono (T := fun i => i = PW) (fun _ _ h => h.elim)).step kt).mono (fun i hi e => by omega)
        have HY2 := Lib.hid y
        have HT2 := Lib.hid (show (setL u3' PW 0 [.string xk, .string xv, .bool xg]).heap[PW]? = some (.cells #[.string xk, .string xv, .bool xg] 39 (0, 0)) from ht)
        have KF := Lib.hid (KU.out.step kf)
        have HRF : Hid (MP.Rng (setL u3' PW 0 [.string xk, .string xv, .bool xg]) bc r (valuesM dc.pairs) (fun z => left z && !z.sameKey (MP.kl xk)) cnt1) := HRN.out.keep kf (fun h => h) (fun h => h)
        have HM3 := Lib.hid HRF.out.left_eq
        clear y kb hb hPW rq HRN HM2 kt ht hyw kf hqa
        go_upto_region 17 with (fail)
        change Code.wp _ _ _ _ (setL u3' PW 0 [.string xk, .string xv, .bool xg])
        generalize setL u3' PW 0 [.string xk, .string xv, .bool xg] = u4' at HY2 HT2 KF HRF HM3 ⊢
        clear z0 z1 z2 f0 f1 f2 rq2
        have y0 : u4'.cell? ⟨PY, 0, none⟩ = some (.string xk) := cell_of_row _ _ _ _ _ _ HY2.out
        have y1 : u4'.cell? ⟨PY, 1, none⟩ = some (.string xv) := cell_of_row _ _ _ _ _ _ HY2.out
        have y2 : u4'.cell? ⟨PY, 2, none⟩ = some (.bool xg) := cell_of_row _ _ _ _ _ _ HY2.out
        have z0 : u4'.cell? ⟨PW, 0, none⟩ = some (.string xk) := cell_of_row _ _ _ _ _ _ HT2.out
        have z1 : u4'.cell? ⟨PW, 1, none⟩ = some (.string xv) := cell_of_row _ _ _ _ _ _ HT2.out
        have z2 : u4'.cell? ⟨PW, 2, none⟩ = some (.bool xg) := cell_of_row _ _ _ _ _ _ HT2.out
        go_wp2
        go_roundw
        case rel => exact ⟨_, cnt1, HRF, KF⟩
        case measure => rw [HM3.out, HM.out.2.1]; exact HM.out.2.2
end Go.Proofs.Ytfcpofobdlgbbaa
