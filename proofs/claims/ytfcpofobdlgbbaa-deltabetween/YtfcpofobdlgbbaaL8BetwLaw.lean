/-
  The walk of DeltaBetween. No statement is proved here.
-/
import Derived.Test.YtfcpofobdlgbbaaL8Join
namespace Go.Proofs.Ytfcpofobdlgbbaa
open Go.RowKit Tot

/-- Two states the other way round. -/
theorem back_between {s t : StV} (h : Chain s t) : ∃ (d : DltV) (x : Int), betweenV t s = (d, x) ∧ ((x = 0 ∧ s.index = t.index) ∨ (x = 8 ∧ ¬ s.index = t.index)) := by
  have h1 := h.index
  by_cases e : s.index = t.index
  · have e2 := h.same e
    subst e2
    exact ⟨_, _, h.delta.1, .inl ⟨rfl, rfl⟩⟩
  · refine ⟨noDelta, 8, ?_, .inr ⟨rfl, e⟩⟩
    unfold betweenV
    rw [if_pos (by omega)]
theorem back_at (hB : BetweenC) {s t : StV} (hs : s.Right) (ht : t.Right) {z : DltV} {x : Int} (he : betweenV s t = (z, x)) (u : World) (A : Option Addr) (c : Nat) (B : Option Addr) (d : Nat) (A' : Option Addr) (c' : Nat) (B' : Option Addr) (d' : Nat) (h1 : Sv u Aw s A c B d) (h2 : Sv u Aw t A' c' B' d') :
    Calls Try.prog 12 #[stv s A c B d, stv t A' c' B' d'] u fun en w' => ∃ A2 c2 B2 d2, en = .returned (.tuple #[dtv z A2 c2 B2 d2, .int .i64 x]) ∧ Dv w' Aw z A2 c2 B2 d2 ∧ Kept noBlock u w' := by
  have h := hB Aw Aw s A c B d t A' c' B' d' u h1 h2 hs ht
  rw [he] at h
  refine h.mono ?_
  rintro en w' ⟨A2, c2, B2, d2, rfl, dv, k⟩
  exact ⟨A2, c2, B2, d2, rfl, dv.mono (fun _ _ => trivial), k⟩

/-- Whether a pair is not so in A; whether it is not in B. -/
def gB (A : Prs) (z : ByteArray × (ByteArray × (ByteArray × Bool))) : Nat := if (!decide (Srt.look A z.1 = some z.2.2)) = true then 1 else 0
def gA (B : Prs) (z : ByteArray × (ByteArray × (ByteArray × Bool))) : Nat := if decide (Srt.look B z.1 = none) = true then 1 else 0
theorem gB_sum (A ps : Prs) : ((valuesM ps).map (gB A)).sum = (ps.map fun p => if (!decide (Srt.look A p.1 = some p.2)) = true then 1 else 0).sum := by
  unfold valuesM
  rw [List.map_map]
  rfl
theorem gA_sum (B ps : Prs) : ((valuesM ps).map (gA B)).sum = (ps.map fun p => if decide (Srt.look B p.1 = none) = true then 1 else 0).sum := by
  unfold valuesM
  rw [List.map_map]
  rfl
theorem gB_no {A : Prs} {z : ByteArray × (ByteArray × (ByteArray × Bool))} (h : Srt.look A z.1 = some z.2.2) : gB A z = 0 := by unfold gB; rw [decide_eq_true h]; rfl
theorem gB_yes {A : Prs} {z : ByteArray × (ByteArray × (ByteArray × Bool))} (h : ¬ Srt.look A z.1 = some z.2.2) : gB A z = 1 := by unfold gB; rw [decide_eq_false h]; rfl
theorem gA_no {B : Prs} {z : ByteArray × (ByteArray × (ByteArray × Bool))} (h : ¬ Srt.look B z.1 = none) : gA B z = 0 := by unfold gA; rw [decide_eq_false h]; rfl
theorem gA_yes {B : Prs} {z : ByteArray × (ByteArray × (ByteArray × Bool))} (h : Srt.look B z.1 = none) : gA B z = 1 := by unfold gA; rw [decide_eq_true h]; rfl
theorem betw_sums {s t : StV} (h : Chain s t) : ((valuesM t.pairs).map (gB s.pairs)).sum + ((valuesM s.pairs).map (gA t.pairs)).sum = (dOf s t).pairs.length := by
  rw [gB_sum, gA_sum]
  exact (between_count h.rs.up h.rt.up).symm
theorem value_in {ps : Prs} (hu : Srt.Up ps) {k xk xv : ByteArray} {xg : Bool} (hm : (k, (xk, (xv, xg))) ∈ valuesM ps) : Srt.look ps k = some (xv, xg) ∧ xk = k := by
  have h1 := Srt.look_of_mem (values_up hu) hm
  rw [values_look] at h1
  cases h2 : Srt.look ps k with
  | none => rw [h2] at h1; cases h1
  | some q =>
    rw [h2] at h1
    simp only [Option.map_some, Option.some.injEq, Prod.mk.injEq] at h1
    exact ⟨congrArg some h1.2, h1.1.symm⟩
theorem pair_eql8 (w : World) (p q : ByteArray × (ByteArray × Bool)) : (binOp .eql 39 (PR.val p) (PR.val q)).run Try.prog w = .ok (.bool (pairSame p q)) w := by
  have h := pair_equalIn 9998 w p q
  unfold PR.val at h ⊢
  rw [run_eql_struct, show (10000 : Nat) = 9998 + 1 + 1 from rfl, h]
  rfl

set_option maxRecDepth 100000 in
set_option maxHeartbeats 2000000 in
theorem betw8_walk (hB : BetweenC) (hD : DoC) (hR : DRightC) (F : Nat → Prop) (a : Option Addr) (n cp : Nat) (ss : List SayV) (one two : UInt8) (w : World) (h : Lies w F a (sayCells ss)) (hl : ss.length = n) (hnc : n ≤ cp) :
    Calls Try.prog 3 #[.slice a n cp, .int .u8 (one.toNat : Int), .int .u8 (two.toNat : Int)] w fun e w' => e = .returned (.bool true) ∧ Kept noBlock w w' := by
  have TH := Lib.hid (fun u (k : Kept noBlock w u) => three_any F a n cp ss one two u (h.keep k (fun _ _ h => h)) hl hnc)
  have AW := Lib.hid (awake8_any hB hD w)
  clear h hl hnc
  go_enter Try.func3, Try.ntmps3
  go_wp2_with fail
  refine AW.out.mono ?_
  rintro en w1 ⟨rfl, k1⟩
  have K1 := Lib.hid k1
  clear k1 AW
  go_wp2_with fail
  refine (TH.out w1 K1.out).mono ?_
  rintro en w2 ⟨s0, s1, s2, A0, c0, B0, d0, A1, c1, B1, d1, A2, c2, B2, d2, rfl, CH, SV, k2⟩
  have hx : (w2.alloc (.cells (threeV s0 s1 s2 A0 c0 B0 d0 A1 c1 B1 d1 A2 c2 B2 d2).toArray 28)).heap[w2.heap.size]? = _ := heap_alloc_new w2 (.cells (threeV s0 s1 s2 A0 c0 B0 d0 A1 c1 B1 d1 A2 c2 B2 d2).toArray 28)
  have ka := Kept.alloc noBlock w2 (.cells (threeV s0 s1 s2 A0 c0 B0 d0 A1 c1 B1 d1 A2 c2 B2 d2).toArray 28)
  obtain ⟨PX, hX⟩ : ∃ X, X = w2.heap.size := ⟨_, rfl⟩
  unfold threeV
  go_upto_region 4 with (fail)
  change Code.wp _ _ _ _ (w2.alloc (.cells (threeV s0 s1 s2 A0 c0 B0 d0 A1 c1 B1 d1 A2 c2 B2 d2).toArray 28))
  rw [← hX] at hx ⊢
  generalize w2.alloc (.cells (threeV s0 s1 s2 A0 c0 B0 d0 A1 c1 B1 d1 A2 c2 B2 d2).toArray 28) = u2 at hx ka ⊢
  obtain ⟨ch1, ch2, ch3, ch4⟩ := CH.out
  clear ch4 ch2 ch3
  have Vs00 := Lib.hid ((SV.out.1.kept ka).mono (G := Aw) (fun _ _ => trivial))
  have Vs10 := Lib.hid ((SV.out.2.1.kept ka).mono (G := Aw) (fun _ _ => trivial))
  have HX0 := Lib.hid hx
  have K0 := Lib.hid (K1.out.step (k2.step ka))
  have hd1 := ch1.delta.2.2
  obtain ⟨db, eb, jb1, jb2⟩ := back_between ch1
  have be1 := between_at hB ch1
  have be2 := back_at hB ch1.rt ch1.rs jb1
  have ri := fun u A c B d (h : Dv u Aw (dOf s0 s1) A c B d) => hR Aw (dOf s0 s1) A c B d u h (by have := hd1.2.2.1; omega) (by have := sess_len hd1.2.2.2.2; omega)
  rw [decide_eq_true hd1] at ri
  have u1 := ch1.rs.up
  have u2' := ch1.rt.up
  have um := up_between ch1.rs.up ch1.rt.up
  have lk := fun k => look_between ch1.rs.up ch1.rt.up k
  obtain ⟨n1, hn1⟩ : ∃ n, n = ((valuesM s1.pairs).map (gB s0.pairs)).sum := ⟨_, rfl⟩
  obtain ⟨n2, hn2⟩ : ∃ n, n = ((valuesM s0.pairs).map (gA s1.pairs)).sum := ⟨_, rfl⟩
  have cn := betw_sums ch1
  rw [← hn1, ← hn2] at cn
  have ks1 := keys_small ch1.rs.pok
  have ks2 := keys_small ch1.rt.pok
  have ks3 := keys_small (between_ok ch1.rs.pok ch1.rt.pok)
  have gb := ch1.rt.here
  have hl1 := ch1.rs.len
  have hl2 := ch1.rt.len
  have hl3 := dOf_len ch1
  obtain ⟨da, hda⟩ : ∃ d, d = dOf s0 s1 := ⟨_, rfl⟩
  have fa : da.from_ = s0.index ∧ da.to_ = s1.index ∧ da.term = s1.term ∧ da.sess.length = s1.sess.length := by rw [hda]; exact ⟨rfl, rfl, rfl, rfl⟩
  have pa : (dOf s0 s1).pairs = betweenP s0.pairs s1.pairs := rfl
  rw [← pa] at um lk ks3
  rw [← hda] at be1 ri um lk ks3 cn hl3
  clear jb1 hd1 pa hda
  unfold stv dtv at be1 be2
  unfold dtv at ri
  have BE1 := Lib.hid be1
  have BE2 := Lib.hid be2
  have RI := Lib.hid (fun u A c B d h => ri u A c B d h)
  have FA := Lib.hid fa
  have FB := Lib.hid jb2
  have UA := Lib.hid u1
  have UB := Lib.hid u2'
  have UC := Lib.hid um
  have LK := Lib.hid lk
  have CN := Lib.hid cn
  have N1 := Lib.hid hn1
  have N2 := Lib.hid hn2
  have GB := Lib.hid gb
  have KA1 := Lib.hid ks1
  have KB1 := Lib.hid ks2
  have KC1 := Lib.hid ks3
  have HL := Lib.hid (And.intro hl1 (And.intro hl2 hl3))
  clear be1 be2 ri hx ka hX k2 SV CH ch1 TH K1 fa jb2 u1 u2' um lk cn hn1 hn2 gb ks1 ks2 ks3 hl1 hl2 hl3 hB hD hR
  obtain ⟨qX0, qX1, qX2, qX3, qX4, qX5, qX6, qX7, qX8, qX9, qX10, qX11⟩ := th_cells HX0.out
  go_wp2_with fail
  refine (BE1.out u2 _ _ _ _ _ _ _ _ Vs00.out Vs10.out).mono ?_
  rintro en y1 ⟨xAa, xca, xBa, xda, rfl, sv, kc⟩
  have ka := Kept.alloc noBlock y1 (.cells #[.int .i64 da.from_, .int .i64 da.to_, .int .i64 da.term, .slice xAa da.pairs.length xca, .slice xBa da.sess.length xda] 31)
  have ha := heap_alloc_new y1 (.cells #[.int .i64 da.from_, .int .i64 da.to_, .int .i64 da.term, .slice xAa da.pairs.length xca, .slice xBa da.sess.length xda] 31)
  clear qX0 qX1 qX2 qX3 qX4 qX5 qX6 qX7 qX8 qX9 qX10 qX11
  go_upto_region 5 with (fail)
  obtain ⟨Pa, hP⟩ : ∃ P, P = y1.heap.size := ⟨_, rfl⟩
  rw [← hP] at ha ⊢
  generalize y1.alloc (.cells #[.int .i64 da.from_, .int .i64 da.to_, .int .i64 da.term, .slice xAa da.pairs.length xca, .slice xBa da.sess.length xda] 31) = z1 at ka ha ⊢
  have kk := kc.step ka
  have HX1 := Lib.hid (kk.blk HX0.out (fun h => h))
  have Vs01 := Lib.hid (Vs00.out.kept kk)
  have Vs11 := Lib.hid (Vs10.out.kept kk)
  have Ha0 := Lib.hid ha
  have Va0 := Lib.hid (sv.kept ka)
  have K1 := Lib.hid (K0.out.step kk)
  clear ka ha hP sv kc kk HX0 Vs00 Vs10 K0
  obtain ⟨qX0, qX1, qX2, qX3, qX4, qX5, qX6, qX7, qX8, qX9, qX10, qX11⟩ := th_cells HX1.out
  go_wp2_with fail
  refine (BE2.out z1 _ _ _ _ _ _ _ _ Vs11.out Vs01.out).mono ?_
  rintro en y2 ⟨xAb, xcb, xBb, xdb, rfl, sv, kc⟩
  have ka := Kept.alloc noBlock y2 (.cells #[.int .i64 db.from_, .int .i64 db.to_, .int .i64 db.term, .slice xAb db.pairs.length xcb, .slice xBb db.sess.length xdb] 31)
  have ha := heap_alloc_new y2 (.cells #[.int .i64 db.from_, .int .i64 db.to_, .int .i64 db.term, .slice xAb db.pairs.length xcb, .slice xBb db.sess.length xdb] 31)
  clear qX0 qX1 qX2 qX3 qX4 qX5 qX6 qX7 qX8 qX9 qX10 qX11
  go_upto_region 6 with (fail)
  obtain ⟨Pb, hP⟩ : ∃ P, P = y2.heap.size := ⟨_, rfl⟩
  rw [← hP] at ha ⊢
  generalize y2.alloc (.cells #[.int .i64 db.from_, .int .i64 db.to_, .int .i64 db.term, .slice xAb db.pairs.length xcb, .slice xBb db.sess.length xdb] 31) = z2 at ka ha ⊢
  have kk := kc.step ka
  have HX2 := Lib.hid (kk.blk HX1.out (fun h => h))
  have Ha1 := Lib.hid (kk.blk Ha0.out (fun h => h))
  have Vs02 := Lib.hid (Vs01.out.kept kk)
  have Vs12 := Lib.hid (Vs11.out.kept kk)
  have Va1 := Lib.hid (Va0.out.kept kk)
  have Hb0 := Lib.hid ha
  have Vb0 := Lib.hid (sv.kept ka)
  have K2 := Lib.hid (K1.out.step kk)
  clear ka ha hP sv kc kk HX1 Ha0 Vs01 Vs11 Va0 K1
  clear Hb0 Vb0
  go_cut [101] (fun x wc => x = .bool false ∧ Hid (Kept noBlock z2 wc))
  case first =>
    have i1 : (da.from_ != s0.index) = false := by rw [FA.out.1]; simp
    have i2 : (da.to_ != s1.index) = false := by rw [FA.out.2.1]; simp
    have i3 : (da.term != s1.term) = false := by rw [FA.out.2.2.1]; simp
    obtain ⟨qX0, qX1, qX2, qX3, qX4, qX5, qX6, qX7, qX8, qX9, qX10, qX11⟩ := th_cells HX2.out
    obtain ⟨qa0, qa1, qa2, qa3, qa4⟩ := dl_cells Ha1.out
    rcases FB.out with ⟨hx, hi⟩ | ⟨hx, hi⟩
    · have i4 : (eb != 0) = false := by rw [hx]; rfl
      have i5 : (eb == 0) = true := by rw [hx]; rfl
      have i6 : (s0.index == s1.index) = true := by simpa using hi
      clear hx hi
      go_wp2_with fail
      refine (RI.out _ _ _ _ _ Va1.out).mono ?_
      rintro en wz ⟨rfl, kz⟩
      go_wp2_with fail
      go_meet
      exact ⟨rfl, Lib.hid kz⟩
    · have i4 : (eb != 0) = true := by rw [hx]; rfl
      have i5 : (eb == 0) = false := by rw [hx]; rfl
      have i6 : (s0.index == s1.index) = false := by simpa using hi
      have i7 : (eb != 8) = false := by rw [hx]; rfl
      clear hx hi
      go_wp2_with fail
      refine (RI.out _ _ _ _ _ Va1.out).mono ?_
      rintro en wz ⟨rfl, kz⟩
      go_wp2_with fail
      go_meet
      exact ⟨rfl, Lib.hid kz⟩
  case rest =>
  obtain ⟨rfl, kz⟩ := hcut
  obtain ⟨wz, hwz⟩ : ∃ u, u = wc := ⟨_, rfl⟩
  rw [← hwz] at kz ⊢
  clear hwz
  have HXz := Lib.hid (kz.out.blk HX2.out (fun h => h))
  have Haz := Lib.hid (kz.out.blk Ha1.out (fun h => h))
  have Vaz := Lib.hid (Va1.out.kept kz.out)
  have Vxz := Lib.hid (Vs02.out.kept kz.out)
  have Vyz := Lib.hid (Vs12.out.kept kz.out)
  have KZ := Lib.hid (K2.out.step kz.out)
  clear kz HX2 Ha1 Va1 Vs02 Vs12 K2 RI FB BE1 BE2
  go_upto_region 8 with (fail)
  have CE : Hid (∀ v, Kept noBlock wz v → (v.cell? ⟨PX, 2, none⟩ = some (.slice A0 s0.pairs.length c0)) ∧ (v.cell? ⟨PX, 6, none⟩ = some (.slice A1 s1.pairs.length c1)) ∧ (v.cell? ⟨Pa, 3, none⟩ = some (.slice xAa da.pairs.length xca))) := fun v k =>
    ⟨(th_cells (k.blk HXz.out (fun h => h))).2.2.1, (th_cells (k.blk HXz.out (fun h => h))).2.2.2.2.2.2.1, (dl_cells (k.blk Haz.out (fun h => h))).2.2.2.1⟩
  have VA := Lib.hid (fun v (k : Kept noBlock wz v) => values_any _ A0 _ c0 s0.pairs v (Vxz.out.kept k).lp rfl Vxz.out.cp (by have := HL.out.1; omega) UA.out KA1.out)
  have VB := Lib.hid (fun v (k : Kept noBlock wz v) => values_any _ A1 _ c1 s1.pairs v (Vyz.out.kept k).lp rfl Vyz.out.cp (by have := HL.out.2.1; omega) UB.out KB1.out)
  have VC := Lib.hid (fun v (k : Kept noBlock wz v) => values_any _ xAa _ xca da.pairs v (Vaz.out.kept k).lp rfl Vaz.out.cp (by have := HL.out; omega) UC.out KC1.out)
  refine wp_region_noPanic ?_
  refine wp_region_held_drew (S := fun v => (v.cell? ⟨PX, 2, none⟩ = some (.slice A0 s0.pairs.length c0)) ∧ (v.cell? ⟨PX, 6, none⟩ = some (.slice A1 s1.pairs.length c1)) ∧ (v.cell? ⟨Pa, 3, none⟩ = some (.slice xAa da.pairs.length xca))) (by kernel_rfl) (CE.out _ (Kept.drew _ _)) (fun hHeld => ?_)
  refine wpAnyH_take (i := 0) (oi := ⟨some 102, Op.indexAddr 28 (Operand.tmp 7) (Operand.const (Value.int IntKind.i64 0)), 0, _, _, none⟩) (v := ?v0n30k1) rfl (by kernel_rfl) (by kernel_rfl) (by kernel_rfl) (fun _ _ _ h => h) (Or.inl ⟨by rfl, ?y0n30k1⟩) hHeld ?z0n30k1
  case y0n30k1 => intro w hSw; (try dsimp only at hSw); go_simp <;> rfl
  try simp only [Act.put, List.setIfInBounds_toArray, List.set_cons_zero, List.set_cons_succ]
  refine wpAnyH_take (i := 1) (oi := ⟨some 103, Op.fieldAddr 27 (Operand.tmp 102) 2, 0, _, _, none⟩) (v := ?v1n30k2) rfl (by kernel_rfl) (by kernel_rfl) (by kernel_rfl) (fun _ _ _ h => h) (Or.inl ⟨by rfl, ?y1n30k2⟩) hHeld ?z1n30k2
  case y1n30k2 => intro w hSw; (try dsimp only at hSw); go_simp <;> rfl
  try simp only [Act.put, List.setIfInBounds_toArray, List.set_cons_zero, List.set_cons_succ]
  refine wpAnyH_take (i := 2) (oi := ⟨some 104, Op.load 24 (Operand.tmp 103), 24, _, _, none⟩) (v := ?v2n30k3) rfl (by kernel_rfl) (by kernel_rfl) (by kernel_rfl) (fun _ _ _ h => h) (Or.inl ⟨by rfl, ?y2n30k3⟩) hHeld ?z2n30k3
  case y2n30k3 => intro w hSw; (try dsimp only at hSw); go_simp <;> rfl
  try simp only [Act.put, List.setIfInBounds_toArray, List.set_cons_zero, List.set_cons_succ]
  refine wpAnyH_take (i := 4) (oi := ⟨some 106, Op.indexAddr 28 (Operand.tmp 7) (Operand.const (Value.int IntKind.i64 1)), 0, _, _, none⟩) (v := ?v4n30k4) rfl (by kernel_rfl) (by kernel_rfl) (by kernel_rfl) (fun _ _ _ h => h) (Or.inl ⟨by rfl, ?y4n30k4⟩) hHeld ?z4n30k4
  case y4n30k4 => intro w hSw; (try dsimp only at hSw); go_simp <;> rfl
  try simp only [Act.put, List.setIfInBounds_toArray, List.set_cons_zero, List.set_cons_succ]
  refine wpAnyH_take (i := 5) (oi := ⟨some 107, Op.fieldAddr 27 (Operand.tmp 106) 2, 0, _, _, none⟩) (v := ?v5n30k5) rfl (by kernel_rfl) (by kernel_rfl) (by kernel_rfl) (fun _ _ _ h => h) (Or.inl ⟨by rfl, ?y5n30k5⟩) hHeld ?z5n30k5
  case y5n30k5 => intro w hSw; (try dsimp only at hSw); go_simp <;> rfl
  try simp only [Act.put, List.setIfInBounds_toArray, List.set_cons_zero, List.set_cons_succ]
  refine wpAnyH_take (i := 6) (oi := ⟨some 108, Op.load 24 (Operand.tmp 107), 24, _, _, none⟩) (v := ?v6n30k6) rfl (by kernel_rfl) (by kernel_rfl) (by kernel_rfl) (fun _ _ _ h => h) (Or.inl ⟨by rfl, ?y6n30k6⟩) hHeld ?z6n30k6
  case y6n30k6 => intro w hSw; (try dsimp only at hSw); go_simp <;> rfl
  try simp only [Act.put, List.setIfInBounds_toArray, List.set_cons_zero, List.set_cons_succ]
  refine wpAnyH_take (i := 8) (oi := ⟨some 110, Op.fieldAddr 31 (Operand.tmp 8) 3, 0, _, _, none⟩) (v := ?v8n30k7) rfl (by kernel_rfl) (by kernel_rfl) (by kernel_rfl) (fun _ _ _ h => h) (Or.inl ⟨by rfl, ?y8n30k7⟩) hHeld ?z8n30k7
  case y8n30k7 => intro w hSw; (try dsimp only at hSw); go_simp <;> rfl
  try simp only [Act.put, List.setIfInBounds_toArray, List.set_cons_zero, List.set_cons_succ]
  refine wpAnyH_take (i := 9) (oi := ⟨some 111, Op.load 24 (Operand.tmp 110), 24, _, _, none⟩) (v := ?v9n30k8) rfl (by kernel_rfl) (by kernel_rfl) (by kernel_rfl) (fun _ _ _ h => h) (Or.inl ⟨by rfl, ?y9n30k8⟩) hHeld ?z9n30k8
  case y9n30k8 => intro w hSw; (try dsimp only at hSw); go_simp <;> rfl
  try simp only [Act.put, List.setIfInBounds_toArray, List.set_cons_zero, List.set_cons_succ]
  refine wpAnyH_ready (rs := [3]) (by kernel_rfl) (by simp) ?_
  refine AllReadyH.cons (o := ⟨some 105, Op.call { callee := Callee.value (Operand.func 14), args := #[Operand.tmp 104], argTypes := #[24] }, 36, _, _, none⟩) rfl (fun K hK => ?_) AllReadyH.nil
  go_simp
  refine (VA.out _ (Kept.drew _ _)).mono ?_
  rintro en v2 ⟨ba, rfl, _, ta, k2⟩
  have J2 := Lib.hid ((Kept.drew noBlock wz).step k2)
  have TA2 := Lib.hid ta
  clear ta k2
  dsimp only
  refine hK.out _ _ (CE.out _ J2.out) (fun hHeld => ?_)
  clear hK K
  try simp only [Act.put, List.setIfInBounds_toArray, List.set_cons_zero, List.set_cons_succ]
  refine wpAnyH_ready (rs := [7]) (by kernel_rfl) (by simp) ?_
  refine AllReadyH.cons (o := ⟨some 109, Op.call { callee := Callee.value (Operand.func 14), args := #[Operand.tmp 108], argTypes := #[24] }, 36, _, _, none⟩) rfl (fun K hK => ?_) AllReadyH.nil
  go_simp
  refine (VB.out _ J2.out).mono ?_
  rintro en v5 ⟨bb, rfl, _, tb, k5⟩
  have J5 := Lib.hid (J2.out.step k5)
  have TB5 := Lib.hid tb
  have TA5 := Lib.hid (TA2.out.keep k5 (fun h => h))
  clear tb k5 TA2
  dsimp only
  refine hK.out _ _ (CE.out _ J5.out) (fun hHeld => ?_)
  clear hK K
  try simp only [Act.put, List.setIfInBounds_toArray, List.set_cons_zero, List.set_cons_succ]
  refine wpAnyH_ready (rs := [10]) (by kernel_rfl) (by simp) ?_
  refine AllReadyH.cons (o := ⟨some 112, Op.call { callee := Callee.value (Operand.func 14), args := #[Operand.tmp 111], argTypes := #[24] }, 36, _, _, none⟩) rfl (fun K hK => ?_) AllReadyH.nil
  go_simp
  refine (VC.out _ J5.out).mono ?_
  rintro en v8 ⟨bc, rfl, _, tc, k8⟩
  have J8 := Lib.hid (J5.out.step k8)
  have TC8 := Lib.hid tc
  have TB8 := Lib.hid (TB5.out.keep k8 (fun h => h))
  have TA8 := Lib.hid (TA5.out.keep k8 (fun h => h))
  clear tc k8 TA5 TB5
  dsimp only
  refine hK.out _ _ (CE.out _ J8.out) (fun hHeld => ?_)
  clear hK K
  try simp only [Act.put, List.setIfInBounds_toArray, List.set_cons_zero, List.set_cons_succ]
  refine wpAnyH_take (i := 11) (oi := ⟨some 12, Op.assign (Operand.tmp 105), 36, _, _, none⟩) (v := ?v11n30k9) rfl (by kernel_rfl) (by kernel_rfl) (by kernel_rfl) (fun _ _ _ h => h) (Or.inl ⟨by rfl, ?y11n30k9⟩) hHeld ?z11n30k9
  case y11n30k9 => intro w hSw; (try dsimp only at hSw); go_simp <;> rfl
  try simp only [Act.put, List.setIfInBounds_toArray, List.set_cons_zero, List.set_cons_succ]
  refine wpAnyH_take (i := 12) (oi := ⟨some 13, Op.assign (Operand.tmp 109), 36, _, _, none⟩) (v := ?v12n30k10) rfl (by kernel_rfl) (by kernel_rfl) (by kernel_rfl) (fun _ _ _ h => h) (Or.inl ⟨by rfl, ?y12n30k10⟩) hHeld ?z12n30k10
  case y12n30k10 => intro w hSw; (try dsimp only at hSw); go_simp <;> rfl
  try simp only [Act.put, List.setIfInBounds_toArray, List.set_cons_zero, List.set_cons_succ]
  refine wpAnyH_take (i := 13) (oi := ⟨some 14, Op.assign (Operand.tmp 112), 36, _, _, none⟩) (v := ?v13n30k11) rfl (by kernel_rfl) (by kernel_rfl) (by kernel_rfl) (fun _ _ _ h => h) (Or.inl ⟨by rfl, ?y13n30k11⟩) hHeld ?z13n30k11
  case y13n30k11 => intro w hSw; (try dsimp only at hSw); go_simp <;> rfl
  try simp only [Act.put, List.setIfInBounds_toArray, List.set_cons_zero, List.set_cons_succ]
  refine wpAnyH_done (by kernel_rfl) ?_ _
  refine NoPanic.normal ?_
  have HX8 := Lib.hid (J8.out.blk HXz.out (fun h => h))
  have Ha8 := Lib.hid (J8.out.blk Haz.out (fun h => h))
  have K8 := Lib.hid (KZ.out.step J8.out)
  clear hHeld CE VA VB VC J2 J5 J8 HXz Haz Vaz Vxz Vyz KZ
  go_wp2_with (at_range; refine MP.wpList_range rfl _ rfl bc (valuesM da.pairs) rfl TC8.out ?_)
  intro w0 left0 hrg0 _ k0 hs0
  obtain ⟨r, hr⟩ : ∃ r, r = v8.heap.size := ⟨_, rfl⟩
  rw [← hr] at hrg0 ⊢
  have HR0 := Lib.hid hrg0
  have K0' := Lib.hid k0
  have HRR := Lib.hid hr
  clear hrg0 k0 hs0 hr
  go_wp2_with fail
  go_loopw [] (fun wr => ∃ (left : Lit → Bool) (cnt : Nat), Hid (MP.Rng wr bc r (valuesM da.pairs) left cnt) ∧ Hid (Kept noBlock v8 wr)) (fun wr => wr.rangeLeft bc r)
  case atStart => exact ⟨left0, _, HR0, K0'⟩
  case round =>
    obtain ⟨left, cnt, HR, KK⟩ := hrel
    go_wp2_with (at_next; refine MP.wpList_next rfl _ rfl bc r (valuesM da.pairs) left cnt rfl HR.out ?_ ?_)
    · intro _
      rename World => w9
      have TA9 := Lib.hid (TA8.out.keep KK.out (fun h => h))
      have TB9 := Lib.hid (TB8.out.keep KK.out (fun h => h))
      have HX9 := Lib.hid (KK.out.blk HX8.out (fun h => h))
      have Ha9 := Lib.hid (KK.out.blk Ha8.out (fun h => h))
      have K9 := Lib.hid (K8.out.step KK.out)
      clear HR KK TA8 TB8 TC8 HX8 Ha8 K8 LK HRR GB HR0 K0' KC1 UC
      go_wp2_with (at_range; refine MP.wpList_range rfl _ rfl bb (valuesM s1.pairs) rfl TB9.out ?_)
      intro w10 left1 hrg0 hst0 k0 hs0
      obtain ⟨r2, hr⟩ : ∃ r, r = w9.heap.size := ⟨_, rfl⟩
      rw [← hr] at hrg0 ⊢
      have HR0 := Lib.hid hrg0
      have K0' := Lib.hid k0
      have HRR := Lib.hid hr
      have HS0 : Hid (0 + ((MP.still (valuesM s1.pairs) left1).map (gB s0.pairs)).sum = n1) := by unfold Hid; rw [hst0, ← N1.out]; omega
      clear hrg0 k0 hs0 hr hst0
      go_wp2_with fail
      go_loopw [21] (fun i wr => ∃ (left : Lit → Bool) (cnt m : Nat), i = .int .i64 (m : Int) ∧ Hid (m + ((MP.still (valuesM s1.pairs) left).map (gB s0.pairs)).sum = n1) ∧ Hid (MP.Rng wr bb r2 (valuesM s1.pairs) left cnt) ∧ Hid (Kept noBlock w9 wr)) (fun _ wr => wr.rangeLeft bb r2)
      case atStart => exact ⟨left1, _, 0, rfl, HS0, HR0, K0'⟩
      case round =>
        obtain ⟨left, cnt, m, rfl, HS, HR, KK⟩ := hrel
        go_wp2_with (at_next; refine MP.wpList_next rfl _ rfl bb r2 (valuesM s1.pairs) left cnt rfl HR.out ?_ ?_)
        · intro hst
          rename World => w11
          have TA11 := Lib.hid (TA9.out.keep KK.out (fun h => h))
          have TB11 := Lib.hid (TB9.out.keep KK.out (fun h => h))
          have HX11 := Lib.hid (KK.out.blk HX9.out (fun h => h))
          have Ha11 := Lib.hid (KK.out.blk Ha9.out (fun h => h))
          have K11 := Lib.hid (K9.out.step KK.out)
          have HMN : Hid (m = n1) := by
            have := HS.out
            rw [hst] at this
            unfold Hid
            simpa using this
          clear HR KK TA9 TB9 HX9 Ha9 K9 HRR HR0 K0' HS HS0 hst
          go_wp2_with (at_range; refine MP.wpList_range rfl _ rfl ba (valuesM s0.pairs) rfl TA11.out ?_)
          intro w12 left2 hrg0 hst0 k0 hs0
          obtain ⟨r3, hr⟩ : ∃ r, r = w11.heap.size := ⟨_, rfl⟩
          rw [← hr] at hrg0 ⊢
          have HR0 := Lib.hid hrg0
          have K0' := Lib.hid k0
          have HRR := Lib.hid hr
          have HS0 : Hid (m + ((MP.still (valuesM s0.pairs) left2).map (gA s1.pairs)).sum = n1 + n2) := by unfold Hid; rw [hst0, ← N2.out, HMN.out]
          clear hrg0 k0 hs0 hr hst0
          go_wp2_with fail
          go_loopw [21] (fun i wr => ∃ (left : Lit → Bool) (cnt m : Nat), i = .int .i64 (m : Int) ∧ Hid (m + ((MP.still (valuesM s0.pairs) left).map (gA s1.pairs)).sum = n1 + n2) ∧ Hid (MP.Rng wr ba r3 (valuesM s0.pairs) left cnt) ∧ Hid (Kept noBlock w11 wr)) (fun _ wr => wr.rangeLeft ba r3)
          case atStart => exact ⟨left2, _, m, rfl, HS0, HR0, K0'⟩
          case round =>
            clear HS0 HMN
            obtain ⟨left, cnt, m, rfl, HS, HR, KK⟩ := hrel
            go_wp2_with (at_next; refine MP.wpList_next rfl _ rfl ba r3 (valuesM s0.pairs) left cnt rfl HR.out ?_ ?_)
            · intro hst
              have hm : m = da.pairs.length := by
                have h1 := HS.out
                rw [hst] at h1
                have h2 := CN.out
                simp at h1
                omega
              have i1 : ((m : Int) == (da.pairs.length : Int)) = true := by rw [hm]; simp
              have i2 : ((da.sess.length : Int) == (s1.sess.length : Int)) = true := by rw [FA.out.2.2.2]; simp
              have K13 := Lib.hid (K11.out.step KK.out)
              obtain ⟨qX0, qX1, qX2, qX3, qX4, qX5, qX6, qX7, qX8, qX9, qX10, qX11⟩ := th_cells (KK.out.blk HX11.out (fun h => h))
              obtain ⟨qa0, qa1, qa2, qa3, qa4⟩ := dl_cells (KK.out.blk Ha11.out (fun h => h))
              clear hm hst HS HR KK
              go_wp2
              go_ret
              exact ⟨rfl, K13.out⟩
            · intro k v u1 cnt1 hmem hl hsl hrg1 hlt k1 hsz hen
              obtain ⟨⟨xk, xv, xg⟩⟩ := v
              simp only at hmem hen
              obtain ⟨hlk, rfl⟩ := value_in UA.out hmem
              have hfit : MP.Fits xk := hsl
              have hss := MP.still_step (values_up UA.out) hmem hl (gA s1.pairs)
              have hmb : m ≤ 200 := by have := HS.out; have := CN.out; have := HL.out.2.2; omega
              unfold MP.ev at hen
              simp only at hen
              have kr : Kept noBlock w11 u1 := (KK.out.mono (T := fun i => w11.heap.size ≤ i) (fun _ _ h => h.elim)).trans k1 (fun i _ h => by have := HRR.out; omega) |>.mono (fun i hi h => by omega)
              have hm3 := HR.out.left_eq
              have HM := Lib.hid (And.intro hm3 hlt)
              have HRN := Lib.hid hrg1
              have HSS := Lib.hid hss
              have KU := Lib.hid kr
              clear hmem hl hlk hm3 hlt hsl hrg1 k1 hsz hss kr
              go_upto_region 26 with (fail)
              clear hen
              have rqb := MP.run_look2 (TB11.out.keep KU.out (fun h => h)) xk hfit
              unfold MP.kv at rqb
              rw [values_look] at rqb
              unfold Srt.has at rqb
              rw [values_look] at rqb
              cases hb : Srt.look s1.pairs xk with
              | none =>
                rw [hb] at rqb
                have hs1 := HSS.out
                rw [gA_yes (show Srt.look s1.pairs xk = none from hb)] at hs1
                have HS1 : Hid (m + 1 + ((MP.still (valuesM s0.pairs) (fun z => left z && !z.sameKey (MP.kl xk))).map (gA s1.pairs)).sum = n1 + n2) := by have := HS.out; unfold Hid; omega
                clear hb hfit hs1 HSS HS
                replace rqb : (Instr.lookup 36 (.map (some bb)) (.string xk) true).run Try.prog u1 = .ok (.tuple #[.agg #[.string ⟨#[]⟩, .string ⟨#[]⟩, .bool false], .bool false]) u1 := rqb
                have kb := Kept.alloc noBlock u1 (.cells #[.string ⟨#[]⟩, .string ⟨#[]⟩, .bool false] 39)
                have hbk := heap_alloc_new u1 (.cells #[.string ⟨#[]⟩, .string ⟨#[]⟩, .bool false] 39)
                go_upto_region 27 with (fail)
                obtain ⟨PZ, hPW⟩ : ∃ P, P = u1.heap.size := ⟨_, rfl⟩
                rw [← hPW] at hbk ⊢
                generalize u1.alloc (.cells #[.string ⟨#[]⟩, .string ⟨#[]⟩, .bool false] 39) = u4' at kb hbk ⊢
                clear hPW
                have KF := Lib.hid (KU.out.step kb)
                have HRF : Hid (MP.Rng u4' ba r3 (valuesM s0.pairs) (fun z => left z && !z.sameKey (MP.kl xk)) cnt1) := HRN.out.keep kb (fun h => h) (fun h => h)
                have HM3 := Lib.hid HRF.out.left_eq
                clear kb hbk rqb HRN KU
                go_wp2
                go_roundw
                case rel => exact ⟨_, cnt1, m + 1, by go_num, HS1, HRF, KF⟩
                case measure => rw [HM3.out, HM.out.1]; exact HM.out.2
              | some p =>
                obtain ⟨pv, pg⟩ := p
                rw [hb] at rqb
                have hs1 := HSS.out
                rw [gA_no (show ¬ Srt.look s1.pairs xk = none from by rw [hb]; simp)] at hs1
                have HS1 : Hid (m + ((MP.still (valuesM s0.pairs) (fun z => left z && !z.sameKey (MP.kl xk))).map (gA s1.pairs)).sum = n1 + n2) := by have := HS.out; unfold Hid; omega
                clear hb hfit hs1 HSS HS
                replace rqb : (Instr.lookup 36 (.map (some bb)) (.string xk) true).run Try.prog u1 = .ok (.tuple #[.agg #[.string xk, .string pv, .bool pg], .bool true]) u1 := rqb
                have kb := Kept.alloc noBlock u1 (.cells #[.string xk, .string pv, .bool pg] 39)
                have hbk := heap_alloc_new u1 (.cells #[.string xk, .string pv, .bool pg] 39)
                go_upto_region 27 with (fail)
                obtain ⟨PZ, hPW⟩ : ∃ P, P = u1.heap.size := ⟨_, rfl⟩
                rw [← hPW] at hbk ⊢
                generalize u1.alloc (.cells #[.string xk, .string pv, .bool pg] 39) = u4' at kb hbk ⊢
                clear hPW
                have KF := Lib.hid (KU.out.step kb)
                have HRF : Hid (MP.Rng u4' ba r3 (valuesM s0.pairs) (fun z => left z && !z.sameKey (MP.kl xk)) cnt1) := HRN.out.keep kb (fun h => h) (fun h => h)
                have HM3 := Lib.hid HRF.out.left_eq
                clear kb hbk rqb HRN KU
                go_wp2
                go_roundw
                case rel => exact ⟨_, cnt1, m, rfl, HS1, HRF, KF⟩
                case measure => rw [HM3.out, HM.out.1]; exact HM.out.2
        · intro k v u1 cnt1 hmem hl hsl hrg1 hlt k1 hsz hen
          obtain ⟨⟨xk, xv, xg⟩⟩ := v
          simp only at hmem hen
          obtain ⟨hlk, rfl⟩ := value_in UB.out hmem
          have hfit : MP.Fits xk := hsl
          have hss := MP.still_step (values_up UB.out) hmem hl (gB s0.pairs)
          have hmb : m ≤ 200 := by have := HS.out; have := CN.out; have := HL.out.2.2; omega
          unfold MP.ev at hen
          simp only at hen
          have kr : Kept noBlock w9 u1 := (KK.out.mono (T := fun i => w9.heap.size ≤ i) (fun _ _ h => h.elim)).trans k1 (fun i _ h => by have := HRR.out; omega) |>.mono (fun i hi h => by omega)
          have ka := Kept.alloc noBlock u1 (.cells #[.string xk, .string xv, .bool xg] 39)
          have ha := heap_alloc_new u1 (.cells #[.string xk, .string xv, .bool xg] 39)
          have hm3 := HR.out.left_eq
          have HM := Lib.hid (And.intro hm3 hlt)
          have HRG := Lib.hid hrg1
          have HSS := Lib.hid hss
          clear hmem hl hlk hm3 hlt hsl hrg1 k1 hsz hss
          go_upto_region 20 with (fail)
          obtain ⟨PY, hPY⟩ : ∃ P, P = u1.heap.size := ⟨_, rfl⟩
          rw [← hPY] at ha ⊢
          generalize u1.alloc (.cells #[.string xk, .string xv, .bool xg] 39) = u2' at ka ha ⊢
          have HY := Lib.hid ha
          have KU := Lib.hid (kr.step ka)
          have HRN : Hid (MP.Rng u2' bb r2 (valuesM s1.pairs) (fun z => left z && !z.sameKey (MP.kl xk)) cnt1) := HRG.out.keep ka (fun h => h) (fun h => h)
          clear ka ha hPY kr hen HRG
          have rqa := MP.run_look2 (TA9.out.keep KU.out (fun h => h)) xk hfit
          unfold MP.kv at rqa
          rw [values_look] at rqa
          unfold Srt.has at rqa
          rw [values_look] at rqa
          cases ha : Srt.look s0.pairs xk with
          | none =>
            rw [ha] at rqa
            have hs1 := HSS.out
            rw [gB_yes (show ¬ Srt.look s0.pairs xk = some (xv, xg) from by rw [ha]; simp)] at hs1
            have HS1 : Hid (m + 1 + ((MP.still (valuesM s1.pairs) (fun z => left z && !z.sameKey (MP.kl xk))).map (gB s0.pairs)).sum = n1) := by have := HS.out; unfold Hid; omega
            clear ha hfit hs1 HSS HS
            replace rqa : (Instr.lookup 36 (.map (some ba)) (.string xk) true).run Try.prog u2' = .ok (.tuple #[.agg #[.string ⟨#[]⟩, .string ⟨#[]⟩, .bool false], .bool false]) u2' := rqa
            have kb := Kept.alloc noBlock u2' (.cells #[.string ⟨#[]⟩, .string ⟨#[]⟩, .bool false] 39)
            have hbk := heap_alloc_new u2' (.cells #[.string ⟨#[]⟩, .string ⟨#[]⟩, .bool false] 39)
            go_upto_region 21 with (fail)
            obtain ⟨PZ, hPW⟩ : ∃ P, P = u2'.heap.size := ⟨_, rfl⟩
            rw [← hPW] at hbk ⊢
            generalize u2'.alloc (.cells #[.string ⟨#[]⟩, .string ⟨#[]⟩, .bool false] 39) = u4' at kb hbk ⊢
            clear hPW
            have HYf := kb.blk (HY.out) (fun h => h)
            have y0 : u4'.cell? ⟨PY, 0, none⟩ = some (.string xk) := cell_of_row _ _ _ _ _ _ HYf
            have y1 : u4'.cell? ⟨PY, 1, none⟩ = some (.string xv) := cell_of_row _ _ _ _ _ _ HYf
            have y2 : u4'.cell? ⟨PY, 2, none⟩ = some (.bool xg) := cell_of_row _ _ _ _ _ _ HYf
            have x0 : u4'.cell? ⟨PZ, 0, none⟩ = some (.string ⟨#[]⟩) := cell_of_row _ _ _ _ _ _ hbk
            have x1 : u4'.cell? ⟨PZ, 1, none⟩ = some (.string ⟨#[]⟩) := cell_of_row _ _ _ _ _ _ hbk
            have x2 : u4'.cell? ⟨PZ, 2, none⟩ = some (.bool false) := cell_of_row _ _ _ _ _ _ hbk
            have KF := Lib.hid (KU.out.step kb)
            have HRF : Hid (MP.Rng u4' bb r2 (valuesM s1.pairs) (fun z => left z && !z.sameKey (MP.kl xk)) cnt1) := HRN.out.keep kb (fun h => h) (fun h => h)
            have HM3 := Lib.hid HRF.out.left_eq
            clear kb hbk HYf rqa HRN HY KU
            go_wp2
            go_roundw
            case rel => exact ⟨_, cnt1, m + 1, by go_num, HS1, HRF, KF⟩
            case measure => rw [HM3.out, HM.out.1]; exact HM.out.2
          | some p =>
            obtain ⟨pv, pg⟩ := p
            rw [ha] at rqa
            by_cases he : (pv, pg) = (xv, xg)
            · obtain ⟨rfl, rfl⟩ : pv = xv ∧ pg = xg := by simpa using he
              have hs1 := HSS.out
              rw [gB_no (show Srt.look s0.pairs xk = some (pv, pg) from ha)] at hs1
              have HS1 : Hid (m + ((MP.still (valuesM s1.pairs) (fun z => left z && !z.sameKey (MP.kl xk))).map (gB s0.pairs)).sum = n1) := by have := HS.out; unfold Hid; omega
              have PN : ∀ u, (binOp .neq 39 (.agg #[.string xk, .string pv, .bool pg]) (.agg #[.string xk, .string pv, .bool pg])).run Try.prog u = .ok (.bool false) u := fun u => by
                have := pair_neq u (xk, (pv, pg)) (xk, (pv, pg))
                rw [pairSame_self] at this
                exact this
              clear ha hfit hs1 HSS HS he
              replace rqa : (Instr.lookup 36 (.map (some ba)) (.string xk) true).run Try.prog u2' = .ok (.tuple #[.agg #[.string xk, .string pv, .bool pg], .bool true]) u2' := rqa
              have kb := Kept.alloc noBlock u2' (.cells #[.string xk, .string pv, .bool pg] 39)
              have hbk := heap_alloc_new u2' (.cells #[.string xk, .string pv, .bool pg] 39)
              go_upto_region 21 with (fail)
              obtain ⟨PZ, hPW⟩ : ∃ P, P = u2'.heap.size := ⟨_, rfl⟩
              rw [← hPW] at hbk ⊢
              generalize u2'.alloc (.cells #[.string xk, .string pv, .bool pg] 39) = u4' at kb hbk ⊢
              clear hPW
              have HYf := kb.blk (HY.out) (fun h => h)
              have y0 : u4'.cell? ⟨PY, 0, none⟩ = some (.string xk) := cell_of_row _ _ _ _ _ _ HYf
              have y1 : u4'.cell? ⟨PY, 1, none⟩ = some (.string pv) := cell_of_row _ _ _ _ _ _ HYf
              have y2 : u4'.cell? ⟨PY, 2, none⟩ = some (.bool pg) := cell_of_row _ _ _ _ _ _ HYf
              have x0 : u4'.cell? ⟨PZ, 0, none⟩ = some (.string xk) := cell_of_row _ _ _ _ _ _ hbk
              have x1 : u4'.cell? ⟨PZ, 1, none⟩ = some (.string pv) := cell_of_row _ _ _ _ _ _ hbk
              have x2 : u4'.cell? ⟨PZ, 2, none⟩ = some (.bool pg) := cell_of_row _ _ _ _ _ _ hbk
              have KF := Lib.hid (KU.out.step kb)
              have HRF : Hid (MP.Rng u4' bb r2 (valuesM s1.pairs) (fun z => left z && !z.sameKey (MP.kl xk)) cnt1) := HRN.out.keep kb (fun h => h) (fun h => h)
              have HM3 := Lib.hid HRF.out.left_eq
              clear kb hbk HYf rqa HRN HY KU
              go_wp2
              go_roundw
              case rel => exact ⟨_, cnt1, m, rfl, HS1, HRF, KF⟩
              case measure => rw [HM3.out, HM.out.1]; exact HM.out.2
            · have hs1 := HSS.out
              rw [gB_yes (show ¬ Srt.look s0.pairs xk = some (xv, xg) from fun e => he (by rw [ha] at e; exact Option.some.inj e))] at hs1
              have HS1 : Hid (m + 1 + ((MP.still (valuesM s1.pairs) (fun z => left z && !z.sameKey (MP.kl xk))).map (gB s0.pairs)).sum = n1) := by have := HS.out; unfold Hid; omega
              have PN : ∀ u, (binOp .neq 39 (.agg #[.string xk, .string pv, .bool pg]) (.agg #[.string xk, .string xv, .bool xg])).run Try.prog u = .ok (.bool true) u := fun u => by
                have := pair_neq u (xk, (pv, pg)) (xk, (xv, xg))
                rw [show pairSame (xk, (pv, pg)) (xk, (xv, xg)) = false from Bool.eq_false_iff.2 fun e => he (by have := (pairSame_iff _ _).1 e; injection this)] at this
                exact this
              clear ha hfit hs1 HSS HS he
              replace rqa : (Instr.lookup 36 (.map (some ba)) (.string xk) true).run Try.prog u2' = .ok (.tuple #[.agg #[.string xk, .string pv, .bool pg], .bool true]) u2' := rqa
              have kb := Kept.alloc noBlock u2' (.cells #[.string xk, .string pv, .bool pg] 39)
              have hbk := heap_alloc_new u2' (.cells #[.string xk, .string pv, .bool pg] 39)
              go_upto_region 21 with (fail)
              obtain ⟨PZ, hPW⟩ : ∃ P, P = u2'.heap.size := ⟨_, rfl⟩
              rw [← hPW] at hbk ⊢
              generalize u2'.alloc (.cells #[.string xk, .string pv, .bool pg] 39) = u4' at kb hbk ⊢
              clear hPW
              have HYf := kb.blk (HY.out) (fun h => h)
              have y0 : u4'.cell? ⟨PY, 0, none⟩ = some (.string xk) := cell_of_row _ _ _ _ _ _ HYf
              have y1 : u4'.cell? ⟨PY, 1, none⟩ = some (.string xv) := cell_of_row _ _ _ _ _ _ HYf
              have y2 : u4'.cell? ⟨PY, 2, none⟩ = some (.bool xg) := cell_of_row _ _ _ _ _ _ HYf
              have x0 : u4'.cell? ⟨PZ, 0, none⟩ = some (.string xk) := cell_of_row _ _ _ _ _ _ hbk
              have x1 : u4'.cell? ⟨PZ, 1, none⟩ = some (.string pv) := cell_of_row _ _ _ _ _ _ hbk
              have x2 : u4'.cell? ⟨PZ, 2, none⟩ = some (.bool pg) := cell_of_row _ _ _ _ _ _ hbk
              have KF := Lib.hid (KU.out.step kb)
              have HRF : Hid (MP.Rng u4' bb r2 (valuesM s1.pairs) (fun z => left z && !z.sameKey (MP.kl xk)) cnt1) := HRN.out.keep kb (fun h => h) (fun h => h)
              have HM3 := Lib.hid HRF.out.left_eq
              clear kb hbk HYf rqa HRN HY KU
              go_wp2
              go_roundw
              case rel => exact ⟨_, cnt1, m + 1, by go_num, HS1, HRF, KF⟩
              case measure => rw [HM3.out, HM.out.1]; exact HM.out.2
    · intro k v u1 cnt1 hmem hl hsl hrg1 hlt k1 hsz hen
      obtain ⟨⟨xk, xv, xg⟩⟩ := v
      simp only at hmem hen
      have hlk : Srt.look da.pairs k = some (xv, xg) ∧ xk = k := by
        have h1 := Srt.look_of_mem (values_up UC.out) hmem
        rw [values_look] at h1
        cases h2 : Srt.look da.pairs k with
        | none => rw [h2] at h1; cases h1
        | some q =>
          rw [h2] at h1
          simp only [Option.map_some, Option.some.injEq, Prod.mk.injEq] at h1
          exact ⟨congrArg some h1.2, h1.1.symm⟩
      obtain ⟨hlk, rfl⟩ := hlk
      have hfit : MP.Fits xk := hsl
      unfold MP.ev at hen
      simp only at hen
      have kr : Kept noBlock v8 u1 := (KK.out.mono (T := fun i => v8.heap.size ≤ i) (fun _ _ h => h.elim)).trans k1 (fun i _ h => by have := HRR.out; omega) |>.mono (fun i hi h => by omega)
      have ka := Kept.alloc noBlock u1 (.cells #[.string xk, .string xv, .bool xg] 39)
      have ha := heap_alloc_new u1 (.cells #[.string xk, .string xv, .bool xg] 39)
      have hm2 := hrg1.left_eq
      have hm3 := HR.out.left_eq
      have HM := Lib.hid (And.intro hm2 (And.intro hm3 hlt))
      have HRG := Lib.hid hrg1
      have hkl := LK.out xk
      rw [hlk] at hkl
      have HKL := Lib.hid hkl
      clear hmem hl hlk hm2 hm3 hlt hkl hsl hrg1 k1 hsz
      go_upto_region 12 with (fail)
      obtain ⟨PY, hPY⟩ : ∃ P, P = u1.heap.size := ⟨_, rfl⟩
      rw [← hPY] at ha ⊢
      generalize u1.alloc (.cells #[.string xk, .string xv, .bool xg] 39) = u2' at ka ha ⊢
      have HY := Lib.hid ha
      have KU := Lib.hid (kr.step ka)
      have HRN : Hid (MP.Rng u2' bc r (valuesM da.pairs) (fun z => left z && !z.sameKey (MP.kl xk)) cnt1) := HRG.out.keep ka (fun h => h) (fun h => h)
      clear ka ha hPY kr hen HRG
      have rqb := MP.run_look2 (TB8.out.keep KU.out (fun h => h)) xk hfit
      unfold MP.kv at rqb
      rw [values_look] at rqb
      unfold Srt.has at rqb
      rw [values_look] at rqb
      cases hb : Srt.look s1.pairs xk with
      | some q =>
        have hkk := HKL.out
        rw [hb] at hkk rqb
        have hab : ¬ Srt.look s0.pairs xk = some q := fun e => by rw [if_pos e] at hkk; cases hkk
        rw [if_neg hab] at hkk
        obtain rfl : (xv, xg) = q := Option.some.inj hkk
        obtain rfl : false = xg := (GB.out.look hb).symm
        clear hkk HKL hb
        replace rqb : (Instr.lookup 36 (.map (some bb)) (.string xk) true).run Try.prog u2' = .ok (.tuple #[.agg #[.string xk, .string xv, .bool false], .bool true]) u2' := rqb
        have kb := Kept.alloc noBlock u2' (.cells #[.string xk, .string xv, .bool false] 39)
        have hbk := heap_alloc_new u2' (.cells #[.string xk, .string xv, .bool false] 39)
        go_upto_region 13 with (fail)
        obtain ⟨PW, hPW⟩ : ∃ P, P = u2'.heap.size := ⟨_, rfl⟩
        rw [← hPW] at hbk ⊢
        generalize u2'.alloc (.cells #[.string xk, .string xv, .bool false] 39) = u3' at kb hbk ⊢
        clear hPW
        have HY3 := Lib.hid (kb.blk HY.out (fun h => h))
        have HW3 := Lib.hid hbk
        have KU3 := Lib.hid (KU.out.step kb)
        have HRN3 : Hid (MP.Rng u3' bc r (valuesM da.pairs) (fun z => left z && !z.sameKey (MP.kl xk)) cnt1) := HRN.out.keep kb (fun h => h) (fun h => h)
        have rqa := MP.run_look2 (TA8.out.keep KU3.out (fun h => h)) xk hfit
        unfold MP.kv at rqa
        rw [values_look] at rqa
        unfold Srt.has at rqa
        rw [values_look] at rqa
        clear kb hbk rqb HRN HY KU hfit
        have PN : ∀ u, (binOp .neq 39 (.agg #[.string xk, .string xv, .bool false]) (.agg #[.string xk, .string xv, .bool false])).run Try.prog u = .ok (.bool false) u := fun u => by
          have := pair_neq u (xk, (xv, false)) (xk, (xv, false))
          rw [pairSame_self] at this
          exact this
        cases ha : Srt.look s0.pairs xk with
        | none =>
          rw [ha] at rqa
          clear ha hab
          replace rqa : (Instr.lookup 36 (.map (some ba)) (.string xk) true).run Try.prog u3' = .ok (.tuple #[.agg #[.string ⟨#[]⟩, .string ⟨#[]⟩, .bool false], .bool false]) u3' := rqa
          have kb := Kept.alloc noBlock u3' (.cells #[.string ⟨#[]⟩, .string ⟨#[]⟩, .bool false] 39)
          have hbk := heap_alloc_new u3' (.cells #[.string ⟨#[]⟩, .string ⟨#[]⟩, .bool false] 39)
          go_upto_region 14 with (fail)
          obtain ⟨PZ, hPW⟩ : ∃ P, P = u3'.heap.size := ⟨_, rfl⟩
          rw [← hPW] at hbk ⊢
          generalize u3'.alloc (.cells #[.string ⟨#[]⟩, .string ⟨#[]⟩, .bool false] 39) = u4' at kb hbk ⊢
          clear hPW
          have HYf := kb.blk (HY3.out) (fun h => h)
          have HWf := kb.blk (HW3.out) (fun h => h)
          have y0 : u4'.cell? ⟨PY, 0, none⟩ = some (.string xk) := cell_of_row _ _ _ _ _ _ HYf
          have y1 : u4'.cell? ⟨PY, 1, none⟩ = some (.string xv) := cell_of_row _ _ _ _ _ _ HYf
          have y2 : u4'.cell? ⟨PY, 2, none⟩ = some (.bool false) := cell_of_row _ _ _ _ _ _ HYf
          have z0 : u4'.cell? ⟨PW, 0, none⟩ = some (.string xk) := cell_of_row _ _ _ _ _ _ HWf
          have z1 : u4'.cell? ⟨PW, 1, none⟩ = some (.string xv) := cell_of_row _ _ _ _ _ _ HWf
          have z2 : u4'.cell? ⟨PW, 2, none⟩ = some (.bool false) := cell_of_row _ _ _ _ _ _ HWf
          have x0 : u4'.cell? ⟨PZ, 0, none⟩ = some (.string ⟨#[]⟩) := cell_of_row _ _ _ _ _ _ hbk
          have x1 : u4'.cell? ⟨PZ, 1, none⟩ = some (.string ⟨#[]⟩) := cell_of_row _ _ _ _ _ _ hbk
          have x2 : u4'.cell? ⟨PZ, 2, none⟩ = some (.bool false) := cell_of_row _ _ _ _ _ _ hbk
          have KF := Lib.hid (KU3.out.step kb)
          have HRF : Hid (MP.Rng u4' bc r (valuesM da.pairs) (fun z => left z && !z.sameKey (MP.kl xk)) cnt1) := HRN3.out.keep kb (fun h => h) (fun h => h)
          have HM3 := Lib.hid HRF.out.left_eq
          clear kb hbk HYf HWf rqa HRN3 HY3 HW3 KU3
          go_wp2
          go_roundw
          case rel => exact ⟨_, cnt1, HRF, KF⟩
          case measure => rw [HM3.out, HM.out.2.1]; exact HM.out.2.2
        | some p =>
          obtain ⟨pv, pg⟩ := p
          rw [ha] at rqa hab
          have PE : ∀ u, (binOp .eql 39 (.agg #[.string xk, .string xv, .bool false]) (.agg #[.string xk, .string pv, .bool pg])).run Try.prog u = .ok (.bool false) u := fun u => by
            have := pair_eql8 u (xk, (xv, false)) (xk, (pv, pg))
            rw [show pairSame (xk, (xv, false)) (xk, (pv, pg)) = false from Bool.eq_false_iff.2 fun e => hab (by have := (pairSame_iff _ _).1 e; injection this with _ h; rw [h])] at this
            exact this
          clear ha hab
          replace rqa : (Instr.lookup 36 (.map (some ba)) (.string xk) true).run Try.prog u3' = .ok (.tuple #[.agg #[.string xk, .string pv, .bool pg], .bool true]) u3' := rqa
          have kb := Kept.alloc noBlock u3' (.cells #[.string xk, .string pv, .bool pg] 39)
          have hbk := heap_alloc_new u3' (.cells #[.string xk, .string pv, .bool pg] 39)
          go_upto_region 14 with (fail)
          obtain ⟨PZ, hPW⟩ : ∃ P, P = u3'.heap.size := ⟨_, rfl⟩
          rw [← hPW] at hbk ⊢
          generalize u3'.alloc (.cells #[.string xk, .string pv, .bool pg] 39) = u4' at kb hbk ⊢
          clear hPW
          have HYf := kb.blk (HY3.out) (fun h => h)
          have HWf := kb.blk (HW3.out) (fun h => h)
          have y0 : u4'.cell? ⟨PY, 0, none⟩ = some (.string xk) := cell_of_row _ _ _ _ _ _ HYf
          have y1 : u4'.cell? ⟨PY, 1, none⟩ = some (.string xv) := cell_of_row _ _ _ _ _ _ HYf
          have y2 : u4'.cell? ⟨PY, 2, none⟩ = some (.bool false) := cell_of_row _ _ _ _ _ _ HYf
          have z0 : u4'.cell? ⟨PW, 0, none⟩ = some (.string xk) := cell_of_row _ _ _ _ _ _ HWf
          have z1 : u4'.cell? ⟨PW, 1, none⟩ = some (.string xv) := cell_of_row _ _ _ _ _ _ HWf
          have z2 : u4'.cell? ⟨PW, 2, none⟩ = some (.bool false) := cell_of_row _ _ _ _ _ _ HWf
          have x0 : u4'.cell? ⟨PZ, 0, none⟩ = some (.string xk) := cell_of_row _ _ _ _ _ _ hbk
          have x1 : u4'.cell? ⟨PZ, 1, none⟩ = some (.string pv) := cell_of_row _ _ _ _ _ _ hbk
          have x2 : u4'.cell? ⟨PZ, 2, none⟩ = some (.bool pg) := cell_of_row _ _ _ _ _ _ hbk
          have KF := Lib.hid (KU3.out.step kb)
          have HRF : Hid (MP.Rng u4' bc r (valuesM da.pairs) (fun z => left z && !z.sameKey (MP.kl xk)) cnt1) := HRN3.out.keep kb (fun h => h) (fun h => h)
          have HM3 := Lib.hid HRF.out.left_eq
          clear kb hbk HYf HWf rqa HRN3 HY3 HW3 KU3
          go_wp2
          go_roundw
          case rel => exact ⟨_, cnt1, HRF, KF⟩
          case measure => rw [HM3.out, HM.out.2.1]; exact HM.out.2.2
      | none =>
        have hkk := HKL.out
        rw [hb] at hkk rqb
        have hab : ¬ Srt.look s0.pairs xk = none := fun e => by rw [if_pos e] at hkk; cases hkk
        rw [if_neg hab] at hkk
        obtain rfl : true = xg := (congrArg Prod.snd (Option.some.inj hkk)).symm
        clear hkk HKL hb
        replace rqb : (Instr.lookup 36 (.map (some bb)) (.string xk) true).run Try.prog u2' = .ok (.tuple #[.agg #[.string ⟨#[]⟩, .string ⟨#[]⟩, .bool false], .bool false]) u2' := rqb
        have kb := Kept.alloc noBlock u2' (.cells #[.string ⟨#[]⟩, .string ⟨#[]⟩, .bool false] 39)
        have hbk := heap_alloc_new u2' (.cells #[.string ⟨#[]⟩, .string ⟨#[]⟩, .bool false] 39)
        go_upto_region 13 with (fail)
        obtain ⟨PW, hPW⟩ : ∃ P, P = u2'.heap.size := ⟨_, rfl⟩
        rw [← hPW] at hbk ⊢
        generalize u2'.alloc (.cells #[.string ⟨#[]⟩, .string ⟨#[]⟩, .bool false] 39) = u3' at kb hbk ⊢
        clear hPW
        have HY3 := Lib.hid (kb.blk HY.out (fun h => h))
        have HW3 := Lib.hid hbk
        have KU3 := Lib.hid (KU.out.step kb)
        have HRN3 : Hid (MP.Rng u3' bc r (valuesM da.pairs) (fun z => left z && !z.sameKey (MP.kl xk)) cnt1) := HRN.out.keep kb (fun h => h) (fun h => h)
        have rqa := MP.run_look2 (TA8.out.keep KU3.out (fun h => h)) xk hfit
        unfold MP.kv at rqa
        rw [values_look] at rqa
        unfold Srt.has at rqa
        rw [values_look] at rqa
        clear kb hbk rqb HRN HY KU hfit
        cases ha : Srt.look s0.pairs xk with
        | none => exact absurd ha hab
        | some p =>
          obtain ⟨pv, pg⟩ := p
          rw [ha] at rqa
          clear ha hab
          replace rqa : (Instr.lookup 36 (.map (some ba)) (.string xk) true).run Try.prog u3' = .ok (.tuple #[.agg #[.string xk, .string pv, .bool pg], .bool true]) u3' := rqa
          have kb := Kept.alloc noBlock u3' (.cells #[.string xk, .string pv, .bool pg] 39)
          have hbk := heap_alloc_new u3' (.cells #[.string xk, .string pv, .bool pg] 39)
          go_upto_region 14 with (fail)
          obtain ⟨PZ, hPW⟩ : ∃ P, P = u3'.heap.size := ⟨_, rfl⟩
          rw [← hPW] at hbk ⊢
          generalize u3'.alloc (.cells #[.string xk, .string pv, .bool pg] 39) = u4' at kb hbk ⊢
          clear hPW
          have HYf := kb.blk (HY3.out) (fun h => h)
          have HWf := kb.blk (HW3.out) (fun h => h)
          have y0 : u4'.cell? ⟨PY, 0, none⟩ = some (.string xk) := cell_of_row _ _ _ _ _ _ HYf
          have y1 : u4'.cell? ⟨PY, 1, none⟩ = some (.string xv) := cell_of_row _ _ _ _ _ _ HYf
          have y2 : u4'.cell? ⟨PY, 2, none⟩ = some (.bool true) := cell_of_row _ _ _ _ _ _ HYf
          have z0 : u4'.cell? ⟨PW, 0, none⟩ = some (.string ⟨#[]⟩) := cell_of_row _ _ _ _ _ _ HWf
          have z1 : u4'.cell? ⟨PW, 1, none⟩ = some (.string ⟨#[]⟩) := cell_of_row _ _ _ _ _ _ HWf
          have z2 : u4'.cell? ⟨PW, 2, none⟩ = some (.bool false) := cell_of_row _ _ _ _ _ _ HWf
          have x0 : u4'.cell? ⟨PZ, 0, none⟩ = some (.string xk) := cell_of_row _ _ _ _ _ _ hbk
          have x1 : u4'.cell? ⟨PZ, 1, none⟩ = some (.string pv) := cell_of_row _ _ _ _ _ _ hbk
          have x2 : u4'.cell? ⟨PZ, 2, none⟩ = some (.bool pg) := cell_of_row _ _ _ _ _ _ hbk
          have KF := Lib.hid (KU3.out.step kb)
          have HRF : Hid (MP.Rng u4' bc r (valuesM da.pairs) (fun z => left z && !z.sameKey (MP.kl xk)) cnt1) := HRN3.out.keep kb (fun h => h) (fun h => h)
          have HM3 := Lib.hid HRF.out.left_eq
          clear kb hbk HYf HWf rqa HRN3 HY3 HW3 KU3
          go_wp2
          go_roundw
          case rel => exact ⟨_, cnt1, HRF, KF⟩
          case measure => rw [HM3.out, HM.out.2.1]; exact HM.out.2.2
end Go.Proofs.Ytfcpofobdlgbbaa
