/-
  ImageDelta: what it does with whatever says and numbers. No statement is proved here.
-/
import Derived.Test.YthmjjhjblokjeaaGreatL9Awake
import Derived.Test.YthmjjhjblokjeaaGreatI9ReadD
import Derived.Test.YthmjjhjblokjeaaGreatL8Three
import Derived.Test.YthmjjhjblokjeaaGreatD8Betw
namespace Go.Proofs.YthmjjhjblokjeaaGreat
open Go.RowKit Tot

/-- What changed from a state to a later one. -/
def dOf9 (s t : StV) : DltV := ⟨s.index, t.index, t.term, betweenP s.pairs t.pairs, t.sess⟩
theorem dOf9_is {s t : StV} (h : Chain s t) : betweenV s t = (dOf9 s t, 0) ∧ (dOf9 s t).Right :=
  ⟨(applyD_between h.rs h.rt h.index h.term).1, between_right h.rs h.rt h.index⟩
theorem dOf9_fits {s t : StV} (h : Chain s t) : (dOf9 s t).bytes.length ≤ 16384 := by
  have hr := (dOf9_is h).2
  have h1 := flatMap_bound prB 41 (dOf9 s t).pairs (fun p hp => by rw [prB_length]; have := hr.2.2.2.1.2 p hp; unfold PairOk at this; omega)
  have h2 := flatMap_bound snB 48 (dOf9 s t).sess (fun x hx => by rw [snB_length]; have := hr.2.2.2.2.2 x hx; unfold SessOk at this; omega)
  have h3 : (dOf9 s t).pairs.length ≤ s.pairs.length + t.pairs.length := between_len s.pairs t.pairs
  have h4 := hr.lens
  have h5 := h.rs.len
  have h6 := h.rt.len
  rw [DltV.bytes_length, rowsB_length]
  omega
theorem heads_differ {k j : UInt8} {f t g u : Int} (h : headB k f t = headB j g u) : k = j := by
  have h1 : headIn k f t = headIn j g u := frm_inj (headIn_le _ _ _) (headIn_le _ _ _) h
  unfold headIn at h1
  have h2 := congrArg (fun l : List UInt8 => l.head?) h1
  simpa using h2
/-- It is no file of a state, and none of entries. -/
theorem delta_no_full (d : DltV) : errF (deltaB d) = 10 := by
  unfold errF
  rw [if_neg]
  rintro ⟨_, h⟩
  have h1 := congrArg (List.take 26) h
  unfold fullB deltaB at h1
  rw [List.take_left' (headB_length _ _ _), List.take_left' (headB_length _ _ _)] at h1
  have := heads_differ h1
  exact absurd this (by decide)
theorem delta_no_part (d : DltV) (f : Int) : ∀ xs, ¬ PartOk (deltaB d) f xs := by
  refine part_bad_head (fun h => ?_)
  unfold deltaB partB at h
  rw [List.take_left' (headB_length _ _ _)] at h
  have := heads_differ h
  exact absurd this (by decide)

set_option maxRecDepth 100000 in
set_option maxHeartbeats 4000000 in
theorem idelta_walk (F : Nat → Prop) (a : Option Addr) (n cp : Nat) (ss : List SayV) (one two : UInt8) (w : World) (h : Lies w F a (sayCells ss)) (hl : ss.length = n) (hnc : n ≤ cp) :
    Calls Tryz.prog 3 #[.slice a n cp, .int .u8 (one.toNat : Int), .int .u8 (two.toNat : Int)] w fun e w' => e = .returned (.bool true) ∧ Kept noBlock w w' := by
  have TH := Lib.hid (fun u (k : Kept noBlock w u) => three_any F a n cp ss one two u (h.keep k (fun _ _ h => h)) hl hnc)
  have AW := Lib.hid (awake9_any w)
  clear h hl hnc
  go_enter Tryz.func3, Tryz.ntmps3
  go_wp2_with fail
  refine AW.out.mono ?_
  rintro en w1 ⟨rfl, k1⟩
  have K1 := Lib.hid k1
  clear k1 AW
  go_wp2_with fail
  refine (TH.out w1 K1.out).mono ?_
  rintro en w2 ⟨s0, s1, s2, A0, c0, B0, d0, A1, c1, B1, d1, A2, c2, B2, d2, rfl, CH, SV, k2⟩
  have hx : (w2.alloc (.cells (threeV s0 s1 s2 A0 c0 B0 d0 A1 c1 B1 d1 A2 c2 B2 d2).toArray 28)).heap[w2.heap.size]? = _ := heap_alloc_new w2 (.cells (threeV s0 s1 s2 A0 c0 B0 d0 A1 c1 B1 d1 A2 c2 B2 d2).toArray 28)
  have ka := Kept.alloc noBlock w2 (.cells (threeV s0 s1 s2 A0 c0 B0 d0 A1 c1 B1 d1 A2 c2 B2 d2).toArray 28)
  obtain ⟨X, hX⟩ : ∃ X, X = w2.heap.size := ⟨_, rfl⟩
  unfold threeV
  go_upto_region 4 with (fail)
  change Code.wp _ _ _ _ (w2.alloc (.cells (threeV s0 s1 s2 A0 c0 B0 d0 A1 c1 B1 d1 A2 c2 B2 d2).toArray 28))
  rw [← hX] at hx ⊢
  generalize w2.alloc (.cells (threeV s0 s1 s2 A0 c0 B0 d0 A1 c1 B1 d1 A2 c2 B2 d2).toArray 28) = u2 at hx ka ⊢
  obtain ⟨ch1, _, _, _⟩ := CH.out
  have V0 := Lib.hid ((SV.out.1.kept ka).mono (G := fun _ => True) (fun _ _ => trivial))
  have V1 := Lib.hid ((SV.out.2.1.kept ka).mono (G := fun _ => True) (fun _ _ => trivial))
  have HX := Lib.hid hx
  have K2 := Lib.hid (K1.out.step (k2.step ka))
  obtain ⟨hdv, hdr⟩ := dOf9_is ch1
  have hdf := dOf9_fits ch1
  have hfrom : 0 ≤ (dOf9 s0 s1).from_ ∧ (dOf9 s0 s1).from_ ≤ 1048576 := by have := hdr.1; omega
  have BE : Hid (∀ u A c B d A' c' B' d', Sv u (fun _ => True) s0 A c B d → Sv u (fun _ => True) s1 A' c' B' d' → Calls Tryz.prog 6 #[stv s0 A c B d, stv s1 A' c' B' d'] u fun en w' => ∃ A2 c2 B2 d2, en = .returned (.tuple #[dtv (dOf9 s0 s1) A2 c2 B2 d2, .int .i64 0]) ∧ Dv w' (fun _ => True) (dOf9 s0 s1) A2 c2 B2 d2 ∧ Kept noBlock u w') := fun u A c B d A' c' B' d' h1 h2 => by
    have h := dbetween_any _ _ s0 A c B d s1 A' c' B' d' u h1 h2 ch1.rs ch1.rt
    rw [hdv] at h
    refine h.mono ?_
    rintro en w' ⟨A2, c2, B2, d2, rfl, dv, k⟩
    exact ⟨A2, c2, B2, d2, rfl, dv.mono (fun _ _ => trivial), k⟩
  obtain ⟨D, hD⟩ : ∃ D, D = dOf9 s0 s1 := ⟨_, rfl⟩
  rw [← hD] at BE hdr hdf hfrom
  obtain ⟨fn, hfn⟩ : ∃ fn : Nat, (fn : Int) = D.from_ := ⟨D.from_.toNat, by omega⟩
  have hfn2 : fn ≤ 1048576 := by omega
  obtain ⟨dm, hdm⟩ : ∃ dm, D.bytes.length = dm := ⟨_, rfl⟩
  rw [hdm] at hdf
  have hdl : (deltaB D).length = dm + 35 := by rw [deltaB_length, hdm]; omega
  have DF := Lib.hid (fun u A c B d (sv : Dv u (fun _ => True) D A c B d) => dfile_any _ D A c B d dm u sv hdm hdf)
  have RD : Hid (∀ u P pc, Lies u (fun _ => True) P ((deltaB D).map bv) → dm + 35 ≤ pc → Calls Tryz.prog 8 #[.slice P (dm + 35) pc] u fun e w' => ∃ A c B d, e = .returned (.tuple #[dtv D A c B d, .int .i64 0]) ∧ Dv w' (fun _ => True) D A c B d ∧ Kept noBlock u w') := fun u P pc h1 h2 => by
    have h := rdelta_any (fun _ => True) P (dm + 35) pc (deltaB D) u h1 hdl (by omega) h2
    rw [(okD_delta hdr (by omega)).2, errD_delta hdr (by omega)] at h
    refine h.mono ?_
    rintro e w' ⟨A, c, B, d, rfl, dv, k⟩
    exact ⟨A, c, B, d, rfl, dv.mono (fun _ _ => trivial), k⟩
  have RF : Hid (∀ u P pc, Lies u (fun _ => True) P ((deltaB D).map bv) → dm + 35 ≤ pc → Calls Tryz.prog 9 #[.slice P (dm + 35) pc] u fun e w' => ∃ A c B d, e = .returned (.tuple #[stv (gotF (deltaB D)) A c B d, .int .i64 10]) ∧ Kept noBlock u w') := fun u P pc h1 h2 => by
    have h := rfull_any (fun _ => True) P (dm + 35) pc (deltaB D) u h1 hdl (by omega) h2
    rw [delta_no_full] at h
    refine h.mono ?_
    rintro e w' ⟨A, c, B, d, rfl, _, k⟩
    exact ⟨A, c, B, d, rfl, k⟩
  have RP : Hid (∀ u P pc, Lies u (fun _ => True) P ((deltaB D).map bv) → dm + 35 ≤ pc → Calls Tryz.prog 10 #[.slice P (dm + 35) pc, .int .i64 D.from_] u fun e w' => ∃ A c, e = .returned (.tuple #[.slice A 0 c, .int .i64 0, .int .i64 10]) ∧ Kept noBlock u w') := fun u P pc h1 h2 => by
    have h := rpart_any (fun _ => True) P (dm + 35) pc fn (deltaB D) u h1 hdl (by omega) h2 (by omega)
    rw [hfn] at h
    refine h.mono ?_
    rintro e w' ⟨es, k, er, A, c, rfl, (⟨_, _, hp⟩ | ⟨rfl, rfl, rfl, _⟩), _, kk⟩
    · exact absurd hp (delta_no_part D _ _)
    · exact ⟨A, c, rfl, kk⟩
  have DS : Hid (∀ u A c B d A' c' B' d', Dv u (fun _ => True) D A c B d → Dv u (fun _ => True) D A' c' B' d' → Calls Tryz.prog 11 #[dtv D A c B d, dtv D A' c' B' d'] u (Says u true)) := fun u A c B d A' c' B' d' h1 h2 => by
    have h := dsame_any _ _ D A c B d D A' c' B' d' u h1 h2 (by omega) (by omega)
    rw [decide_eq_true rfl] at h
    exact h
  have DB := Lib.hid (fun u A c B d (sv : Dv u (fun _ => True) D A c B d) => dbytes_any (fun _ => True) D A c B d dm u sv hdm (by omega))
  have HH : Hid (∀ u, Calls Tryz.prog 12 #[.int .i64 1, .int .i64 D.from_, .int .i64 D.to_] u fun e w' => e = .returned (.string (str (headB 1 D.from_ D.to_))) ∧ Kept noBlock u w') := fun u => lhead_any 1 D.from_ D.to_ u
  have FO := Lib.hid (fun u P pc (hp : Lies u (fun _ => True) P (D.bytes.map bv)) => form_any (fun _ => True) P dm pc D.bytes u hp hdm hdf)
  have HCAT : Hid (str (headB 1 D.from_ D.to_) ++ str (frm D.bytes) = str (deltaB D)) := by unfold Hid deltaB; rw [str_append]
  have HSZ : Hid ((9223372036854775807 < (str (headB 1 D.from_ D.to_)).size + (str (frm D.bytes)).size) = False) := eq_false (by rw [str_size, str_size, headB_length, frm_length]; omega)
  obtain ⟨Hd, hHd⟩ : ∃ Hd, Hd = str (headB 1 D.from_ D.to_) := ⟨_, rfl⟩
  obtain ⟨Fb, hFb⟩ : ∃ Fb, Fb = str (frm D.bytes) := ⟨_, rfl⟩
  obtain ⟨L, hL⟩ : ∃ L, L = deltaB D := ⟨_, rfl⟩
  rw [← hHd] at HH HCAT HSZ
  rw [← hFb] at FO HCAT HSZ
  rw [← hL] at hdl DF RD RF RP HCAT
  obtain ⟨Sg, hSg⟩ : ∃ Sg, Sg = gotF L := ⟨_, rfl⟩
  rw [← hSg] at RF
  obtain ⟨N, hN⟩ : ∃ N, N = dm + 35 := ⟨_, rfl⟩
  rw [← hN] at hdl DF RD RF RP
  have HFL := Lib.hid hdl
  unfold stv dtv at BE
  unfold stv at RF
  unfold dtv at DF RD DS DB
  clear hHd hFb hL hSg hN hdl hdm hdf hfn hfn2 hfrom hdr hdv hD hx ka hX k2 SV CH ch1 TH K1
  obtain ⟨x0, x1, x2, x3, x4, x5, x6, x7, x8, x9, x10, x11⟩ := th_cells HX.out
  go_wp2_with fail
  refine (BE.out u2 _ _ _ _ _ _ _ _ V0.out V1.out).mono ?_
  rintro en w3 ⟨A3, c3, B3, d3, rfl, dv3, k3⟩
  have ka := Kept.alloc noBlock w3 (.cells #[.int .i64 D.from_, .int .i64 D.to_, .int .i64 D.term, .slice A3 D.pairs.length c3, .slice B3 D.sess.length d3] 31)
  have ha := heap_alloc_new w3 (.cells #[.int .i64 D.from_, .int .i64 D.to_, .int .i64 D.term, .slice A3 D.pairs.length c3, .slice B3 D.sess.length d3] 31)
  go_upto_region 5 with (fail)
  obtain ⟨Y, hY⟩ : ∃ Y, Y = w3.heap.size := ⟨_, rfl⟩
  rw [← hY] at ha ⊢
  generalize w3.alloc (.cells #[.int .i64 D.from_, .int .i64 D.to_, .int .i64 D.term, .slice A3 D.pairs.length c3, .slice B3 D.sess.length d3] 31) = u3 at ka ha ⊢
  have HY3 := Lib.hid ha
  have DV3 := Lib.hid (dv3.kept ka)
  have K3 := Lib.hid (K2.out.step (k3.step ka))
  clear ka ha hY dv3 k3 V0 V1 HX K2 BE x0 x1 x2 x3 x4 x5 x6 x7 x8 x9 x10 x11
  obtain ⟨y0, y1, y2, y3, y4⟩ := dl_cells HY3.out
  go_wp2_with fail
  refine (DF.out u3 A3 c3 B3 d3 DV3.out).mono ?_
  rintro en w4 ⟨P, pc, rfl, o4, k4⟩
  have hpc : N ≤ pc := by obtain ⟨_, _, e, hle⟩ := own_form o4; injection e with _ _ e; omega
  have L4 := Lib.hid (Lies.of_own (F := fun _ => True) o4 (fun _ _ => trivial))
  have K4 := Lib.hid (K3.out.step k4)
  have HY4 := Lib.hid (k4.blk HY3.out (fun h => h))
  have DV4 := Lib.hid (DV3.out.kept k4)
  clear o4 k4 DF HY3 DV3 K3 y0 y1 y2 y3 y4
  go_wp2_with fail
  refine (RD.out w4 P pc L4.out hpc).mono ?_
  rintro en w5 ⟨A5, c5, B5, d5, rfl, dv5, k5⟩
  have ka := Kept.alloc noBlock w5 (.cells #[.int .i64 D.from_, .int .i64 D.to_, .int .i64 D.term, .slice A5 D.pairs.length c5, .slice B5 D.sess.length d5] 31)
  have ha := heap_alloc_new w5 (.cells #[.int .i64 D.from_, .int .i64 D.to_, .int .i64 D.term, .slice A5 D.pairs.length c5, .slice B5 D.sess.length d5] 31)
  go_upto_region 7 with (fail)
  obtain ⟨Z, hZ⟩ : ∃ Z, Z = w5.heap.size := ⟨_, rfl⟩
  rw [← hZ] at ha ⊢
  generalize w5.alloc (.cells #[.int .i64 D.from_, .int .i64 D.to_, .int .i64 D.term, .slice A5 D.pairs.length c5, .slice B5 D.sess.length d5] 31) = u5 at ka ha ⊢
  have k45 := k5.step ka
  have HY5 := Lib.hid (k45.blk HY4.out (fun h => h))
  have HZ5 := Lib.hid ha
  have DV5 := Lib.hid (DV4.out.kept k45)
  have DZ5 := Lib.hid (dv5.kept ka)
  have L5 := Lib.hid (L4.out.keep k45 (fun _ _ h => h))
  have K5 := Lib.hid (K4.out.step k45)
  clear ka ha hZ dv5 k5 k45 HY4 DV4 L4 K4 RD
  go_wp2_with fail
  refine (RF.out u5 P pc L5.out hpc).mono ?_
  rintro en w6 ⟨A6, c6, B6, d6, rfl, k6⟩
  have ka := Kept.alloc noBlock w6 (.cells #[.int .i64 Sg.index, .int .i64 Sg.term, .slice A6 Sg.pairs.length c6, .slice B6 Sg.sess.length d6] 27)
  go_upto_region 8 with (fail)
  generalize w6.alloc (.cells #[.int .i64 Sg.index, .int .i64 Sg.term, .slice A6 Sg.pairs.length c6, .slice B6 Sg.sess.length d6] 27) = u6 at ka ⊢
  have k56 := k6.step ka
  have HY6 := Lib.hid (k56.blk HY5.out (fun h => h))
  have HZ6 := Lib.hid (k56.blk HZ5.out (fun h => h))
  have DV6 := Lib.hid (DV5.out.kept k56)
  have DZ6 := Lib.hid (DZ5.out.kept k56)
  have L6 := Lib.hid (L5.out.keep k56 (fun _ _ h => h))
  have K6 := Lib.hid (K5.out.step k56)
  clear ka k6 k56 HY5 HZ5 DV5 DZ5 L5 K5 RF
  obtain ⟨y0, y1, y2, y3, y4⟩ := dl_cells HY6.out
  go_wp2_with fail
  refine (RP.out u6 P pc L6.out hpc).mono ?_
  rintro en w7 ⟨A7, c7, rfl, k7⟩
  have K7 := Lib.hid (K6.out.step k7)
  have DV7 := Lib.hid (DV6.out.kept k7)
  have DZ7 := Lib.hid (DZ6.out.kept k7)
  have CE : Hid (∀ u, Kept noBlock w7 u → (u.cell? ⟨Y, 0, none⟩ = some (.int .i64 D.from_) ∧ u.cell? ⟨Y, 1, none⟩ = some (.int .i64 D.to_) ∧ u.cell? ⟨Y, 2, none⟩ = some (.int .i64 D.term) ∧ u.cell? ⟨Y, 3, none⟩ = some (.slice A3 D.pairs.length c3) ∧ u.cell? ⟨Y, 4, none⟩ = some (.slice B3 D.sess.length d3)) ∧
      (u.cell? ⟨Z, 0, none⟩ = some (.int .i64 D.from_) ∧ u.cell? ⟨Z, 1, none⟩ = some (.int .i64 D.to_) ∧ u.cell? ⟨Z, 2, none⟩ = some (.int .i64 D.term) ∧ u.cell? ⟨Z, 3, none⟩ = some (.slice A5 D.pairs.length c5) ∧ u.cell? ⟨Z, 4, none⟩ = some (.slice B5 D.sess.length d5)) ∧
      (convert 35 9 (.slice P N pc)).run Tryz.prog u = .ok (.string (str L)) u) := fun u k =>
    ⟨dl_cells (k.blk (k7.blk HY6.out (fun h => h)) (fun h => h)), dl_cells (k.blk (k7.blk HZ6.out (fun h => h)) (fun h => h)), run_str9 (L6.out.keep (k7.step k) (fun _ _ h => h)) HFL.out pc⟩
  obtain ⟨T, hT⟩ : ∃ T, T = str L := ⟨_, rfl⟩
  rw [← hT] at CE HCAT
  clear k7 HY6 HZ6 DV6 DZ6 L6 K6 RP y0 y1 y2 y3 y4 hT
  go_upto_region 9 with (fail)
  have hcat := HCAT.out
  have hsz := HSZ.out
  refine wp_region_noPanic ?_
  refine wp_region_held_drew (S := fun u => (u.cell? ⟨Y, 0, none⟩ = some (.int .i64 D.from_) ∧ u.cell? ⟨Y, 1, none⟩ = some (.int .i64 D.to_) ∧ u.cell? ⟨Y, 2, none⟩ = some (.int .i64 D.term) ∧ u.cell? ⟨Y, 3, none⟩ = some (.slice A3 D.pairs.length c3) ∧ u.cell? ⟨Y, 4, none⟩ = some (.slice B3 D.sess.length d3)) ∧ (u.cell? ⟨Z, 0, none⟩ = some (.int .i64 D.from_) ∧ u.cell? ⟨Z, 1, none⟩ = some (.int .i64 D.to_) ∧ u.cell? ⟨Z, 2, none⟩ = some (.int .i64 D.term) ∧ u.cell? ⟨Z, 3, none⟩ = some (.slice A5 D.pairs.length c5) ∧ u.cell? ⟨Z, 4, none⟩ = some (.slice B5 D.sess.length d5)) ∧ (convert 35 9 (.slice P N pc)).run Tryz.prog u = .ok (.string T) u) (by kernel_rfl) (CE.out _ (Kept.drew _ _)) (fun hHeld => ?_)
  refine wpAnyH_take (i := 0) (oi := ⟨some 56, Op.move (Operand.tmp 11), 32, _, _, none⟩) (v := ?v0n1k1) rfl (by kernel_rfl) (by kernel_rfl) (by kernel_rfl) (fun _ _ _ h => h) (Or.inl ⟨by rfl, ?y0n1k1⟩) hHeld ?z0n1k1
  case y0n1k1 => intro w hSw; (try dsimp only at hSw); go_simp <;> rfl
  try simp only [Act.put, List.setIfInBounds_toArray, List.set_cons_zero, List.set_cons_succ]
  refine wpAnyH_take (i := 1) (oi := ⟨some 57, Op.binOp BinOp.eql 32 (Operand.tmp 56) (Operand.const (Value.int IntKind.i64 0)) 32, 4, _, _, none⟩) (v := ?v1n1k2) rfl (by kernel_rfl) (by kernel_rfl) (by kernel_rfl) (fun _ _ _ h => h) (Or.inl ⟨by rfl, ?y1n1k2⟩) hHeld ?z1n1k2
  case y1n1k2 => intro w hSw; (try dsimp only at hSw); go_simp <;> rfl
  try simp only [Act.put, List.setIfInBounds_toArray, List.set_cons_zero, List.set_cons_succ]
  refine wpAnyH_take (i := 2) (oi := ⟨some 58, Op.move (Operand.tmp 57), 4, _, _, none⟩) (v := ?v2n1k3) rfl (by kernel_rfl) (by kernel_rfl) (by kernel_rfl) (fun _ _ _ h => h) (Or.inl ⟨by rfl, ?y2n1k3⟩) hHeld ?z2n1k3
  case y2n1k3 => intro w hSw; (try dsimp only at hSw); go_simp <;> rfl
  try simp only [Act.put, List.setIfInBounds_toArray, List.set_cons_zero, List.set_cons_succ]
  refine wpAnyH_take (i := 3) (oi := ⟨some 59, Op.move (Operand.tmp 13), 32, _, _, some (2, true)⟩) (v := ?v3n1k4) rfl (by kernel_rfl) (by kernel_rfl) (by kernel_rfl) (fun _ _ _ h => h) (Or.inl ⟨by rfl, ?y3n1k4⟩) hHeld ?z3n1k4
  case y3n1k4 => intro w hSw; (try dsimp only at hSw); go_simp <;> rfl
  try simp only [Act.put, List.setIfInBounds_toArray, List.set_cons_zero, List.set_cons_succ]
  refine wpAnyH_take (i := 4) (oi := ⟨some 60, Op.binOp BinOp.eql 32 (Operand.tmp 59) (Operand.const (Value.int IntKind.i64 0)) 32, 4, _, _, some (2, true)⟩) (v := ?v4n1k5) rfl (by kernel_rfl) (by kernel_rfl) (by kernel_rfl) (fun _ _ _ h => h) (Or.inl ⟨by rfl, ?y4n1k5⟩) hHeld ?z4n1k5
  case y4n1k5 => intro w hSw; (try dsimp only at hSw); go_simp <;> rfl
  try simp only [Act.put, List.setIfInBounds_toArray, List.set_cons_zero, List.set_cons_succ]
  refine wpAnyH_take (i := 5) (oi := ⟨some 61, Op.pick (Operand.tmp 58) (Operand.tmp 60) (Operand.const (Value.bool false)), 4, _, _, none⟩) (v := ?v5n1k6) rfl (by kernel_rfl) (by kernel_rfl) (by kernel_rfl) (fun _ _ _ h => h) (Or.inl ⟨by rfl, ?y5n1k6⟩) hHeld ?z5n1k6
  case y5n1k6 => intro w hSw; (try dsimp only at hSw); go_simp <;> rfl
  try simp only [Act.put, List.setIfInBounds_toArray, List.set_cons_zero, List.set_cons_succ]
  refine wpAnyH_take (i := 6) (oi := ⟨some 62, Op.move (Operand.tmp 61), 4, _, _, none⟩) (v := ?v6n1k7) rfl (by kernel_rfl) (by kernel_rfl) (by kernel_rfl) (fun _ _ _ h => h) (Or.inl ⟨by rfl, ?y6n1k7⟩) hHeld ?z6n1k7
  case y6n1k7 => intro w hSw; (try dsimp only at hSw); go_simp <;> rfl
  try simp only [Act.put, List.setIfInBounds_toArray, List.set_cons_zero, List.set_cons_succ]
  refine wpAnyH_take (i := 7) (oi := ⟨some 63, Op.load 31 (Operand.tmp 12), 31, _, _, some (6, true)⟩) (v := ?v7n1k8) rfl (by kernel_rfl) (by kernel_rfl) (by kernel_rfl) (fun _ _ _ h => h) (Or.inl ⟨by rfl, ?y7n1k8⟩) hHeld ?z7n1k8
  case y7n1k8 => intro w hSw; (try dsimp only at hSw); go_simp <;> rfl
  try simp only [Act.put, List.setIfInBounds_toArray, List.set_cons_zero, List.set_cons_succ]
  refine wpAnyH_take (i := 8) (oi := ⟨some 64, Op.load 31 (Operand.tmp 8), 31, _, _, some (6, true)⟩) (v := ?v8n1k9) rfl (by kernel_rfl) (by kernel_rfl) (by kernel_rfl) (fun _ _ _ h => h) (Or.inl ⟨by rfl, ?y8n1k9⟩) hHeld ?z8n1k9
  case y8n1k9 => intro w hSw; (try dsimp only at hSw); go_simp <;> rfl
  try simp only [Act.put, List.setIfInBounds_toArray, List.set_cons_zero, List.set_cons_succ]
  refine wpAnyH_ready (rs := [9]) (by kernel_rfl) (by simp) ?_
  refine AllReadyH.cons (o := ⟨some 65, Op.call { callee := Callee.value (Operand.func 11), args := #[Operand.tmp 63, Operand.tmp 64], argTypes := #[31, 31] }, 4, _, _, some (6, true)⟩) rfl (fun K hK => ?_) AllReadyH.nil
  go_simp
  refine (DS.out _ _ _ _ _ _ _ _ _ (DZ7.out.kept (Kept.drew _ _)) (DV7.out.kept (Kept.drew _ _))).mono ?_
  rintro e v7 ⟨rfl, k8⟩
  have K8 := Lib.hid ((Kept.drew noBlock w7).step k8)
  clear k8
  dsimp only
  refine hK.out _ _ (CE.out _ K8.out) (fun hHeld => ?_)
  clear hK K
  try simp only [Act.put, List.setIfInBounds_toArray, List.set_cons_zero, List.set_cons_succ]
  refine wpAnyH_take (i := 10) (oi := ⟨some 66, Op.pick (Operand.tmp 62) (Operand.tmp 65) (Operand.const (Value.bool false)), 4, _, _, none⟩) (v := ?v10n1k10) rfl (by kernel_rfl) (by kernel_rfl) (by kernel_rfl) (fun _ _ _ h => h) (Or.inl ⟨by rfl, ?y10n1k10⟩) hHeld ?z10n1k10
  case y10n1k10 => intro w hSw; (try dsimp only at hSw); go_simp <;> rfl
  try simp only [Act.put, List.setIfInBounds_toArray, List.set_cons_zero, List.set_cons_succ]
  refine wpAnyH_take (i := 11) (oi := ⟨some 67, Op.move (Operand.tmp 66), 4, _, _, none⟩) (v := ?v11n1k11) rfl (by kernel_rfl) (by kernel_rfl) (by kernel_rfl) (fun _ _ _ h => h) (Or.inl ⟨by rfl, ?y11n1k11⟩) hHeld ?z11n1k11
  case y11n1k11 => intro w hSw; (try dsimp only at hSw); go_simp <;> rfl
  try simp only [Act.put, List.setIfInBounds_toArray, List.set_cons_zero, List.set_cons_succ]
  refine wpAnyH_take (i := 12) (oi := ⟨some 68, Op.move (Operand.tmp 15), 32, _, _, some (11, true)⟩) (v := ?v12n1k12) rfl (by kernel_rfl) (by kernel_rfl) (by kernel_rfl) (fun _ _ _ h => h) (Or.inl ⟨by rfl, ?y12n1k12⟩) hHeld ?z12n1k12
  case y12n1k12 => intro w hSw; (try dsimp only at hSw); go_simp <;> rfl
  try simp only [Act.put, List.setIfInBounds_toArray, List.set_cons_zero, List.set_cons_succ]
  refine wpAnyH_take (i := 13) (oi := ⟨some 69, Op.binOp BinOp.eql 32 (Operand.tmp 68) (Operand.const (Value.int IntKind.i64 10)) 32, 4, _, _, some (11, true)⟩) (v := ?v13n1k13) rfl (by kernel_rfl) (by kernel_rfl) (by kernel_rfl) (fun _ _ _ h => h) (Or.inl ⟨by rfl, ?y13n1k13⟩) hHeld ?z13n1k13
  case y13n1k13 => intro w hSw; (try dsimp only at hSw); go_simp <;> rfl
  try simp only [Act.put, List.setIfInBounds_toArray, List.set_cons_zero, List.set_cons_succ]
  refine wpAnyH_take (i := 14) (oi := ⟨some 70, Op.pick (Operand.tmp 67) (Operand.tmp 69) (Operand.const (Value.bool false)), 4, _, _, none⟩) (v := ?v14n1k14) rfl (by kernel_rfl) (by kernel_rfl) (by kernel_rfl) (fun _ _ _ h => h) (Or.inl ⟨by rfl, ?y14n1k14⟩) hHeld ?z14n1k14
  case y14n1k14 => intro w hSw; (try dsimp only at hSw); go_simp <;> rfl
  try simp only [Act.put, List.setIfInBounds_toArray, List.set_cons_zero, List.set_cons_succ]
  refine wpAnyH_take (i := 15) (oi := ⟨some 71, Op.move (Operand.tmp 70), 4, _, _, none⟩) (v := ?v15n1k15) rfl (by kernel_rfl) (by kernel_rfl) (by kernel_rfl) (fun _ _ _ h => h) (Or.inl ⟨by rfl, ?y15n1k15⟩) hHeld ?z15n1k15
  case y15n1k15 => intro w hSw; (try dsimp only at hSw); go_simp <;> rfl
  try simp only [Act.put, List.setIfInBounds_toArray, List.set_cons_zero, List.set_cons_succ]
  refine wpAnyH_take (i := 16) (oi := ⟨some 72, Op.move (Operand.tmp 18), 32, _, _, some (15, true)⟩) (v := ?v16n1k16) rfl (by kernel_rfl) (by kernel_rfl) (by kernel_rfl) (fun _ _ _ h => h) (Or.inl ⟨by rfl, ?y16n1k16⟩) hHeld ?z16n1k16
  case y16n1k16 => intro w hSw; (try dsimp only at hSw); go_simp <;> rfl
  try simp only [Act.put, List.setIfInBounds_toArray, List.set_cons_zero, List.set_cons_succ]
  refine wpAnyH_take (i := 17) (oi := ⟨some 73, Op.binOp BinOp.eql 32 (Operand.tmp 72) (Operand.const (Value.int IntKind.i64 10)) 32, 4, _, _, some (15, true)⟩) (v := ?v17n1k17) rfl (by kernel_rfl) (by kernel_rfl) (by kernel_rfl) (fun _ _ _ h => h) (Or.inl ⟨by rfl, ?y17n1k17⟩) hHeld ?z17n1k17
  case y17n1k17 => intro w hSw; (try dsimp only at hSw); go_simp <;> rfl
  try simp only [Act.put, List.setIfInBounds_toArray, List.set_cons_zero, List.set_cons_succ]
  refine wpAnyH_take (i := 18) (oi := ⟨some 74, Op.pick (Operand.tmp 71) (Operand.tmp 73) (Operand.const (Value.bool false)), 4, _, _, none⟩) (v := ?v18n1k18) rfl (by kernel_rfl) (by kernel_rfl) (by kernel_rfl) (fun _ _ _ h => h) (Or.inl ⟨by rfl, ?y18n1k18⟩) hHeld ?z18n1k18
  case y18n1k18 => intro w hSw; (try dsimp only at hSw); go_simp <;> rfl
  try simp only [Act.put, List.setIfInBounds_toArray, List.set_cons_zero, List.set_cons_succ]
  refine wpAnyH_take (i := 19) (oi := ⟨some 75, Op.move (Operand.tmp 74), 4, _, _, none⟩) (v := ?v19n1k19) rfl (by kernel_rfl) (by kernel_rfl) (by kernel_rfl) (fun _ _ _ h => h) (Or.inl ⟨by rfl, ?y19n1k19⟩) hHeld ?z19n1k19
  case y19n1k19 => intro w hSw; (try dsimp only at hSw); go_simp <;> rfl
  try simp only [Act.put, List.setIfInBounds_toArray, List.set_cons_zero, List.set_cons_succ]
  refine wpAnyH_take (i := 20) (oi := ⟨some 76, Op.move (Operand.tmp 10), 35, _, _, some (19, true)⟩) (v := ?v20n1k20) rfl (by kernel_rfl) (by kernel_rfl) (by kernel_rfl) (fun _ _ _ h => h) (Or.inl ⟨by rfl, ?y20n1k20⟩) hHeld ?z20n1k20
  case y20n1k20 => intro w hSw; (try dsimp only at hSw); go_simp <;> rfl
  try simp only [Act.put, List.setIfInBounds_toArray, List.set_cons_zero, List.set_cons_succ]
  refine wpAnyH_take (i := 21) (oi := ⟨some 77, Op.convert 35 9 (Operand.tmp 76), 9, _, _, some (19, true)⟩) (v := ?v21n1k21) rfl (by kernel_rfl) (by kernel_rfl) (by kernel_rfl) (fun _ _ _ h => h) (Or.inl ⟨by rfl, ?y21n1k21⟩) hHeld ?z21n1k21
  case y21n1k21 => intro w hSw; (try dsimp only at hSw); go_simp <;> rfl
  try simp only [Act.put, List.setIfInBounds_toArray, List.set_cons_zero, List.set_cons_succ]
  refine wpAnyH_take (i := 22) (oi := ⟨some 78, Op.fieldAddr 31 (Operand.tmp 8) 0, 0, _, _, some (19, true)⟩) (v := ?v22n1k22) rfl (by kernel_rfl) (by kernel_rfl) (by kernel_rfl) (fun _ _ _ h => h) (Or.inl ⟨by rfl, ?y22n1k22⟩) hHeld ?z22n1k22
  case y22n1k22 => intro w hSw; (try dsimp only at hSw); go_simp <;> rfl
  try simp only [Act.put, List.setIfInBounds_toArray, List.set_cons_zero, List.set_cons_succ]
  refine wpAnyH_take (i := 23) (oi := ⟨some 79, Op.load 3 (Operand.tmp 78), 3, _, _, some (19, true)⟩) (v := ?v23n1k23) rfl (by kernel_rfl) (by kernel_rfl) (by kernel_rfl) (fun _ _ _ h => h) (Or.inl ⟨by rfl, ?y23n1k23⟩) hHeld ?z23n1k23
  case y23n1k23 => intro w hSw; (try dsimp only at hSw); go_simp <;> rfl
  try simp only [Act.put, List.setIfInBounds_toArray, List.set_cons_zero, List.set_cons_succ]
  refine wpAnyH_take (i := 24) (oi := ⟨some 80, Op.fieldAddr 31 (Operand.tmp 8) 1, 0, _, _, some (19, true)⟩) (v := ?v24n1k24) rfl (by kernel_rfl) (by kernel_rfl) (by kernel_rfl) (fun _ _ _ h => h) (Or.inl ⟨by rfl, ?y24n1k24⟩) hHeld ?z24n1k24
  case y24n1k24 => intro w hSw; (try dsimp only at hSw); go_simp <;> rfl
  try simp only [Act.put, List.setIfInBounds_toArray, List.set_cons_zero, List.set_cons_succ]
  refine wpAnyH_take (i := 25) (oi := ⟨some 81, Op.load 3 (Operand.tmp 80), 3, _, _, some (19, true)⟩) (v := ?v25n1k25) rfl (by kernel_rfl) (by kernel_rfl) (by kernel_rfl) (fun _ _ _ h => h) (Or.inl ⟨by rfl, ?y25n1k25⟩) hHeld ?z25n1k25
  case y25n1k25 => intro w hSw; (try dsimp only at hSw); go_simp <;> rfl
  try simp only [Act.put, List.setIfInBounds_toArray, List.set_cons_zero, List.set_cons_succ]
  refine wpAnyH_take (i := 27) (oi := ⟨some 83, Op.load 31 (Operand.tmp 8), 31, _, _, some (19, true)⟩) (v := ?v27n1k26) rfl (by kernel_rfl) (by kernel_rfl) (by kernel_rfl) (fun _ _ _ h => h) (Or.inl ⟨by rfl, ?y27n1k26⟩) hHeld ?z27n1k26
  case y27n1k26 => intro w hSw; (try dsimp only at hSw); go_simp <;> rfl
  try simp only [Act.put, List.setIfInBounds_toArray, List.set_cons_zero, List.set_cons_succ]
  refine wpAnyH_ready (rs := [26]) (by kernel_rfl) (by simp) ?_
  refine AllReadyH.cons (o := ⟨some 82, Op.call { callee := Callee.value (Operand.func 12), args := #[Operand.const (Value.int IntKind.i64 1), Operand.tmp 79, Operand.tmp 81], argTypes := #[3, 3, 3] }, 9, _, _, some (19, true)⟩) rfl (fun K hK => ?_) AllReadyH.nil
  go_simp
  refine (HH.out _).mono ?_
  rintro e v8 ⟨rfl, k9⟩
  have K9 := Lib.hid (K8.out.step k9)
  clear k9
  dsimp only
  refine hK.out _ _ (CE.out _ K9.out) (fun hHeld => ?_)
  clear hK K
  try simp only [Act.put, List.setIfInBounds_toArray, List.set_cons_zero, List.set_cons_succ]
  refine wpAnyH_ready (rs := [28]) (by kernel_rfl) (by simp) ?_
  refine AllReadyH.cons (o := ⟨some 84, Op.call { callee := Callee.value (Operand.func 14), args := #[Operand.tmp 83], argTypes := #[31] }, 35, _, _, some (19, true)⟩) rfl (fun K hK => ?_) AllReadyH.nil
  go_simp
  refine (DB.out _ _ _ _ _ (DV7.out.kept K9.out)).mono ?_
  rintro e v9 ⟨P9, c9, rfl, o9, k10⟩
  have K10 := Lib.hid (K9.out.step k10)
  have L9 := Lib.hid (Lies.of_own (F := fun _ => True) o9 (fun _ _ => trivial))
  clear k10 o9
  dsimp only
  refine hK.out _ _ (CE.out _ K10.out) (fun hHeld => ?_)
  clear hK K
  try simp only [Act.put, List.setIfInBounds_toArray, List.set_cons_zero, List.set_cons_succ]
  refine wpAnyH_ready (rs := [29]) (by kernel_rfl) (by simp) ?_
  refine AllReadyH.cons (o := ⟨some 85, Op.call { callee := Callee.value (Operand.func 13), args := #[Operand.tmp 84], argTypes := #[35] }, 9, _, _, some (19, true)⟩) rfl (fun K hK => ?_) AllReadyH.nil
  go_simp
  refine (FO.out _ _ _ L9.out).mono ?_
  rintro e v10 ⟨rfl, k11⟩
  have K11 := Lib.hid (K10.out.step k11)
  clear k11
  dsimp only
  refine hK.out _ _ (CE.out _ K11.out) (fun hHeld => ?_)
  clear hK K
  try simp only [Act.put, List.setIfInBounds_toArray, List.set_cons_zero, List.set_cons_succ]
  refine wpAnyH_take (i := 30) (oi := ⟨some 86, Op.binOp BinOp.add 9 (Operand.tmp 82) (Operand.tmp 85) 9, 9, _, _, some (19, true)⟩) (v := ?v30n1k27) rfl (by kernel_rfl) (by kernel_rfl) (by kernel_rfl) (fun _ _ _ h => h) (Or.inl ⟨by rfl, ?y30n1k27⟩) hHeld ?z30n1k27
  case y30n1k27 => intro w hSw; (try dsimp only at hSw); go_simp <;> rfl
  try simp only [Act.put, List.setIfInBounds_toArray, List.set_cons_zero, List.set_cons_succ]
  refine wpAnyH_take (i := 31) (oi := ⟨some 87, Op.binOp BinOp.eql 9 (Operand.tmp 77) (Operand.tmp 86) 9, 4, _, _, some (19, true)⟩) (v := ?v31n1k28) rfl (by kernel_rfl) (by kernel_rfl) (by kernel_rfl) (fun _ _ _ h => h) (Or.inl ⟨by rfl, ?y31n1k28⟩) hHeld ?z31n1k28
  case y31n1k28 => intro w hSw; (try dsimp only at hSw); go_simp <;> rfl
  try simp only [Act.put, List.setIfInBounds_toArray, List.set_cons_zero, List.set_cons_succ]
  refine wpAnyH_take (i := 32) (oi := ⟨some 88, Op.pick (Operand.tmp 75) (Operand.tmp 87) (Operand.const (Value.bool false)), 4, _, _, none⟩) (v := ?v32n1k29) rfl (by kernel_rfl) (by kernel_rfl) (by kernel_rfl) (fun _ _ _ h => h) (Or.inl ⟨by rfl, ?y32n1k29⟩) hHeld ?z32n1k29
  case y32n1k29 => intro w hSw; (try dsimp only at hSw); go_simp <;> rfl
  try simp only [Act.put, List.setIfInBounds_toArray, List.set_cons_zero, List.set_cons_succ]
  refine wpAnyH_take (i := 33) (oi := ⟨some 6, Op.assign (Operand.tmp 88), 4, _, _, none⟩) (v := ?v33n1k30) rfl (by kernel_rfl) (by kernel_rfl) (by kernel_rfl) (fun _ _ _ h => h) (Or.inl ⟨by rfl, ?y33n1k30⟩) hHeld ?z33n1k30
  case y33n1k30 => intro w hSw; (try dsimp only at hSw); go_simp <;> rfl
  try simp only [Act.put, List.setIfInBounds_toArray, List.set_cons_zero, List.set_cons_succ]
  refine wpAnyH_done (by kernel_rfl) ?_ _
  refine NoPanic.normal ?_
  clear hcat hsz hHeld
  go_wp2
  go_ret
  exact ⟨rfl, K7.out.step K11.out⟩
end Go.Proofs.YthmjjhjblokjeaaGreat
