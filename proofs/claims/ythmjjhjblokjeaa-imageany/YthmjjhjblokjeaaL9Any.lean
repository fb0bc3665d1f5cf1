/-
  ImageAny: what it does with whatever bytes, says, place and change. No statement is proved here.
-/
import Derived.Test.YthmjjhjblokjeaaL9Awake
import Derived.Test.YthmjjhjblokjeaaI9ReadD
import Derived.Test.YthmjjhjblokjeaaLawK
import Derived.Laws.BitsAllLaws
namespace Go.Proofs.Ythmjjhjblokjeaa
open Go.RowKit Tot

set_option maxRecDepth 100000 in
set_option maxHeartbeats 4000000 in
theorem iany_walk (F G : Nat → Prop) (a0 : Option Addr) (n0 c0 : Nat) (raw : List UInt8) (a : Option Addr) (n c : Nat) (ss : List SayV) (at_ : Nat) (y f : UInt8) (w : World) (h0 : Lies w G a0 (raw.map bv)) (hl0 : raw.length = n0) (hnc0 : n0 ≤ c0) (hn0 : n0 ≤ 140737488351232) (hat : at_ < 65536) (h : Lies w F a (sayCells ss)) (hl : ss.length = n) (hnc : n ≤ c) :
    Calls Try.prog 6 #[.slice a0 n0 c0, .slice a n c, .int .u16 (at_ : Int), .int .u8 (y.toNat : Int), .int .u8 (f.toNat : Int)] w fun e w' => e = .returned (.bool true) ∧ Kept noBlock w w' := by
  obtain ⟨fn, hfn⟩ : ∃ fn, fn = f.toNat := ⟨_, rfl⟩
  have hf256 : fn < 256 := by rw [hfn]; exact f.toNat_lt
  rw [← hfn]
  clear hfn
  have hsr := someV_right ss
  have hsf := right_fits hsr
  have AW := Lib.hid (awake9_any w)
  have SO : Hid (∀ u, Kept noBlock w u → Calls Try.prog 9 #[.slice a n c] u fun en w' => ∃ A' c' B' d', en = .returned (stv (someV ss) A' c' B' d') ∧ Sv w' (fun _ => True) (someV ss) A' c' B' d' ∧ Kept noBlock u w') := fun u k => by
    refine (some_any F a n c ss u (h.keep k (fun _ _ h => h)) hl hnc).mono ?_
    rintro en w' ⟨A, c, B, d, rfl, sv, k⟩
    exact ⟨A, c, B, d, rfl, sv.mono (fun _ _ => trivial), k⟩
  obtain ⟨s, hs⟩ : ∃ s, s = someV ss := ⟨_, rfl⟩
  rw [← hs] at hsr hsf SO
  obtain ⟨m, hm⟩ : ∃ m, s.bytes.length = m := ⟨_, rfl⟩
  rw [hm] at hsf
  have hfl : (fullB s).length = m + 35 := by rw [fullB_length, hm]; omega
  have FU : Hid (∀ u A c B d, Sv u (fun _ => True) s A c B d → Calls Try.prog 10 #[stv s A c B d] u fun e w' => ∃ P cp, e = .returned (.tuple #[.slice P (m + 35) cp, .int .i64 0]) ∧ w'.ownsRow u.heap.size 5 1 (.slice P (m + 35) cp) (m + 35) ((fullB s).map bv) ∧ Kept noBlock u w') := fun u A c B d sv => full_any _ s A c B d m u sv hm hsf
  obtain ⟨L, hL⟩ : ∃ L, L = fullB s := ⟨_, rfl⟩
  rw [← hL] at hfl FU
  obtain ⟨N, hN⟩ : ∃ N, N = m + 35 := ⟨_, rfl⟩
  rw [← hN] at hfl FU
  have h35 : 35 ≤ N := by omega
  have hN16 : N ≤ 16419 := by omega
  have HFL := Lib.hid hfl
  have HRL := Lib.hid hl0
  have HRW := Lib.hid h0
  clear hL hs hm hfl h hl hN hsr hl0 h0 hsf
  go_enter Try.func6, Try.ntmps6
  go_wp2_with fail
  refine AW.out.mono ?_
  rintro e w1 ⟨rfl, k1⟩
  have K1 := Lib.hid k1
  clear AW k1
  go_wp2_with fail
  refine (SO.out w1 K1.out).mono ?_
  rintro e w2 ⟨A, c2, B, d2, rfl, sv2, k2⟩
  have K2 := Lib.hid (K1.out.step k2)
  have SV2 := Lib.hid sv2
  clear sv2 k2 SO K1
  go_wp2_with fail
  refine (FU.out w2 A c2 B d2 SV2.out).mono ?_
  rintro e w4 ⟨P, cp, rfl, o4, k4⟩
  have hcp : N ≤ cp := by obtain ⟨_, _, e, hle⟩ := own_form o4; injection e with _ _ e; omega
  obtain ⟨g, cap, hv, _, _⟩ := o4.form (by omega)
  obtain ⟨rfl, rfl⟩ : P = some ⟨g, 0, none⟩ ∧ cp = cap := by injection hv with a b c; exact ⟨a, c⟩
  have hg := (o4.lt g rfl).1
  have K4 := Lib.hid (K2.out.step k4)
  have Z2 : Hid (w.heap.size ≤ g) := Nat.le_trans K2.out.size hg
  obtain ⟨K, hK⟩ : ∃ K, K = at_ % N := ⟨_, rfl⟩
  have hKN : K < N := by rw [hK]; exact Nat.mod_lt _ (by omega)
  have i1 : (at_ : Int) % (N : Int) = (K : Int) := by omega
  obtain ⟨x, hx⟩ : ∃ x, L[K]? = some x := ⟨_, List.getElem?_eq_getElem (by have := HFL.out; omega)⟩
  have hcx : w4.cell? ⟨g, K, none⟩ = some (.int .u8 (x.toNat : Int)) := by rw [o4.cellAt K (by omega)]; rw [List.getElem?_map, hx]; rfl
  have hf : w4.frozen? ⟨g, K, none⟩ = false := o4.frozenAt _
  obtain ⟨z, hz⟩ : ∃ z : UInt8, z = x ^^^ y := ⟨_, rfl⟩
  have hxor : bits BinOp.xor IntKind.u8 (x.toNat : Int) (y.toNat : Int) = (z.toNat : Int) := by rw [hz, UInt8.toNat_xor]; exact u8_xor_nat _ _ x.toNat_lt y.toNat_lt
  have HS := Lib.hid (o4.stored K (.int .u8 (z.toNat : Int)))
  have hset : (L.map bv).set K (.int .u8 (z.toNat : Int)) = (L.set K z).map bv := by rw [List.map_set]; rfl
  rw [hset] at HS
  have hKi : (K : Int) < (N : Int) := by omega
  have hNi : (0 : Int) < (N : Int) := by omega
  clear hv o4 k4 hz hset hx hK FU SV2 K2 hg
  go_upto_region 7 with (fail)
  have k5 : Kept noBlock w (w4.setCell ⟨g, K, none⟩ (.int .u8 (z.toNat : Int))) := K4.out.trans (Kept.setCell (S := fun i => i = g) _ (by rfl) _) (fun i hi h => by have := Z2.out; omega)
  have l5 := Lies.of_own (F := fun _ => True) HS.out.1 (fun _ _ => trivial)
  generalize w4.setCell ⟨g, K, none⟩ (.int .u8 (z.toNat : Int)) = w5 at k5 l5 ⊢
  obtain ⟨M, hM⟩ : ∃ M, M = L.set K z := ⟨_, rfl⟩
  have hML : M.length = N := by rw [hM, List.length_set, HFL.out]
  rw [← hM] at l5
  have K5 := Lib.hid k5
  have L5 := Lib.hid l5
  have HML := Lib.hid hML
  clear hM hML HS hcx hf hxor i1 k5 l5 K4 HFL hKi hKN
  have hsrc : Src Try.prog 1 30 (.slice a0 n0 c0) n0 (raw.map bv) w5 := src_lies Try.underlying30 (HRW.out.keep K5.out (fun _ _ h => h)) (by rw [List.length_map, HRL.out]) (bv_one _)
  go_wp2_with (at_builtin; refine wpList_append_src rfl _ _ 30 30 rfl 5 (.int .u8 0) 1 1 Try.underlying30 Try.infoU8f rfl (.slice none 0 0) 0 [] rfl (World.ownsRow_nil _ _ _ _) _ n0 (raw.map bv) rfl hsrc ?c3 ?c4 ?_)
  case c3 => unfold maxLen; omega
  case c4 => omega
  intro A6 c6 w6 o6 k6 at6
  have K6 := Lib.hid (k6.mono (T := noBlock) (fun _ _ h => by simp [Value.ownBlock] at h))
  have hb6 : ∀ i, (Value.slice A6 n0 c6).ownBlock = some i → w5.heap.size ≤ i := fun i hi => by
    rcases at6 i hi with h | h
    · simp [Value.ownBlock] at h
    · exact h.1
  have HB6 := Lib.hid hb6
  have O6 := Lib.hid o6
  clear o6 k6 at6 hb6 hsrc
  have hsrc : Src Try.prog 1 30 (.slice (some ⟨g, 0, none⟩) N cp) N (M.map bv) w6 := src_lies Try.underlying30 (L5.out.keep K6.out (fun _ _ h => h)) (by rw [List.length_map, HML.out]) (bv_one _)
  go_wp2_with (at_builtin; refine wpList_append_src rfl _ _ 30 30 rfl 5 (.int .u8 0) 1 1 Try.underlying30 Try.infoU8f rfl (.slice A6 n0 c6) n0 _ rfl O6.out _ N (M.map bv) rfl hsrc ?c3 ?c4 ?_)
  case c3 => unfold maxLen; omega
  case c4 => omega
  intro A7 c7 w7 o7 k7 at7
  obtain ⟨n7, hn7⟩ : ∃ n7, n7 = n0 + N := ⟨_, rfl⟩
  rw [← hn7] at o7 at7 ⊢
  rw [← List.map_append] at o7
  have K7 : Hid (Kept noBlock w5 w7) := K6.out.trans k7 (fun i hi h => absurd (HB6.out i h) (by omega))
  have L7 := Lib.hid (Lies.of_own (F := fun _ => True) o7 (fun _ _ => trivial))
  have hc7 : n7 ≤ c7 := by obtain ⟨_, _, e, hle⟩ := own_form o7; injection e with _ _ e; omega
  have hn7b : n7 ≤ 140737488400000 := by omega
  have HN7 := Lib.hid hn7
  clear o7 k7 at7 hsrc O6 HB6 K6 hn7
  have ka := Kept.alloc noBlock w7 (.cells #[.slice a0 n0 c0, .slice (some ⟨g, 0, none⟩) N cp, .slice A7 n7 c7] 30)
  have ha := heap_alloc_new w7 (.cells #[.slice a0 n0 c0, .slice (some ⟨g, 0, none⟩) N cp, .slice A7 n7 c7] 30)
  go_wp2_with fail
  generalize w7.alloc (.cells #[.slice a0 n0 c0, .slice (some ⟨g, 0, none⟩) N cp, .slice A7 n7 c7] 30) = w8 at ka ha ⊢
  obtain ⟨Q, hQ⟩ : ∃ Q, Q = w7.heap.size := ⟨_, rfl⟩
  rw [← hQ] at ha ⊢
  have HQ := Lib.hid ha
  have K8 := Lib.hid (K5.out.step (K7.out.step ka))
  have ALL : Hid (∀ k : Nat, k < 3 → ∃ (a : Option Addr) (n c : Nat) (l : List UInt8), (∀ u, Kept noBlock w8 u → u.cell? ⟨Q, k, none⟩ = some (.slice a n c) ∧ Lies u (fun _ => True) a (l.map bv)) ∧ l.length = n ∧ n ≤ c ∧ n ≤ 140737488400000) := fun k hk => by
    have hq : ∀ u, Kept noBlock w8 u → u.heap[Q]? = some (.cells #[.slice a0 n0 c0, .slice (some ⟨g, 0, none⟩) N cp, .slice A7 n7 c7] 30 (0, 0)) := fun u ku => ku.blk HQ.out (fun h => h)
    match k, hk with
    | 0, _ => exact ⟨a0, n0, c0, raw, fun u ku => ⟨cell_of_row _ _ 0 _ _ _ (hq u ku), (HRW.out.keep (K8.out.step ku) (fun _ _ h => h)).mono (fun _ _ => trivial)⟩, HRL.out, hnc0, by omega⟩
    | 1, _ => exact ⟨some ⟨g, 0, none⟩, N, cp, M, fun u ku => ⟨cell_of_row _ _ 1 _ _ _ (hq u ku), L5.out.keep ((K7.out.step ka).step ku) (fun _ _ h => h)⟩, HML.out, hcp, by omega⟩
    | 2, _ => exact ⟨A7, n7, c7, raw ++ M, fun u ku => ⟨cell_of_row _ _ 2 _ _ _ (hq u ku), L7.out.keep (ka.step ku) (fun _ _ h => h)⟩, by rw [List.length_append, HRL.out, HML.out, HN7.out], hc7, hn7b⟩
  clear ka ha hQ HQ L7 L5 HML HRL HRW HN7 K7 K5 Z2
  unfold stv
  go_loopw [56] (fun i wr => ∃ k : Nat, k ≤ 3 ∧ i = .int .i64 (k : Int) ∧ Hid (Kept noBlock w8 wr)) (fun i _ => 3 - (intOf i).toNat)
  case atStart => exact ⟨0, by omega, rfl, Lib.hid (Kept.refl _ _)⟩
  case round =>
    obtain ⟨k, hk, rfl, HK⟩ := hrel
    by_cases hlt : k < 3
    · obtain ⟨xa, xn, xc, l, hl, hll, hxc, hxn⟩ := ALL.out k hlt
      have hd : decide ((k : Int) < 3) = true := decide_eq_true (by omega)
      have hki : (k : Int) < 3 := by omega
      have hcell := (hl wr HK.out).1
      have HLI := Lib.hid (fun u (ku : Kept noBlock w8 u) => (hl u ku).2)
      have HLL := Lib.hid hll
      have RF := Lib.hid (fun u (ku : Kept noBlock w8 u) => rfull_any (fun _ => True) xa xn xc l u (HLI.out u ku) hll (by omega) hxc)
      have RD := Lib.hid (fun u (ku : Kept noBlock w8 u) => rdelta_any (fun _ => True) xa xn xc l u (HLI.out u ku) hll (by omega) hxc)
      have RP := Lib.hid (fun u (ku : Kept noBlock w8 u) => rpart_any (fun _ => True) xa xn xc fn l u (HLI.out u ku) hll hxn hxc (by omega))
      have hgr := gotF_right l
      have hgf := right_fits hgr
      have hdr := gotDl_right l
      have hdf := gotDl_fits l
      have hez : errF l = 0 → fullB (gotF l) = l := errF_zero
      have hdz : errD l = 0 → deltaB (gotDl l) = l := fun h => (errD_zero h).1
      have hec := errF_cases l
      have hdc := errD_cases l
      obtain ⟨S, hS⟩ : ∃ S, S = gotF l := ⟨_, rfl⟩
      obtain ⟨D, hD⟩ : ∃ D, D = gotDl l := ⟨_, rfl⟩
      obtain ⟨ge, hge⟩ : ∃ ge, ge = errF l := ⟨_, rfl⟩
      obtain ⟨de, hde⟩ : ∃ de, de = errD l := ⟨_, rfl⟩
      rw [← hS, ← hge] at RF
      rw [← hD, ← hde] at RD
      rw [← hS] at hgr hgf hez
      rw [← hge] at hez hec
      rw [← hD] at hdr hdf hdz
      rw [← hde] at hdz hdc
      obtain ⟨sm, hsm⟩ : ∃ sm, S.bytes.length = sm := ⟨_, rfl⟩
      obtain ⟨dm, hdm⟩ : ∃ dm, D.bytes.length = dm := ⟨_, rfl⟩
      have FU := Lib.hid (fun u A c B d (sv : Sv u (fun _ => True) S A c B d) => full_any _ S A c B d sm u sv hsm (by omega))
      have DF := Lib.hid (fun u A c B d (sv : Dv u (fun _ => True) D A c B d) => dfile_any _ D A c B d dm u sv hdm (by omega))
      have SR : Hid (∀ u A c B d, Sv u (fun _ => True) S A c B d → Calls Try.prog 24 #[stv S A c B d] u (Says u true)) := fun u A c B d sv => by
        have h := sright_any _ S A c B d u sv (by have := hgr.len; omega) (by have := hgr.lens; omega)
        rw [decide_eq_true hgr] at h
        exact h
      have DR : Hid (∀ u A c B d, Dv u (fun _ => True) D A c B d → Calls Try.prog 25 #[dtv D A c B d] u (Says u true)) := fun u A c B d sv => by
        have h := dright_any _ D A c B d u sv (by have := hdr.len; omega) (by have := hdr.lens; omega)
        rw [decide_eq_true hdr] at h
        exact h
      have HEZ := Lib.hid hez
      have HDZ := Lib.hid hdz
      have HEC := Lib.hid hec
      have HDC := Lib.hid hdc
      have HSM := Lib.hid hsm
      have HDM := Lib.hid hdm
      have GE := Lib.hid hge
      have DE := Lib.hid hde
      clear hl hll hS hD hge hde hgr hgf hdr hdf hez hdz hec hdc hsm hdm
      go_wp2_with fail
      refine (RF.out wr HK.out).mono ?_
      rintro e u1 ⟨A1, c1, B1, d1, rfl, sv1, k1⟩
      have U1 := Lib.hid (HK.out.step k1)
      have SV1 := Lib.hid (sv1.mono (G := fun _ => True) (fun _ _ => trivial))
      clear sv1 k1 RF
      unfold stv
      go_upto_region 11 with (fail)
      have ka := Kept.alloc noBlock u1 (.cells #[.int .i64 S.index, .int .i64 S.term, .slice A1 S.pairs.length c1, .slice B1 S.sess.length d1] 28)
      have ha := heap_alloc_new u1 (.cells #[.int .i64 S.index, .int .i64 S.term, .slice A1 S.pairs.length c1, .slice B1 S.sess.length d1] 28)
      generalize u1.alloc (.cells #[.int .i64 S.index, .int .i64 S.term, .slice A1 S.pairs.length c1, .slice B1 S.sess.length d1] 28) = u2 at ka ha ⊢
      obtain ⟨X, hX⟩ : ∃ X, X = u1.heap.size := ⟨_, rfl⟩
      rw [← hX] at ha ⊢
      have U2 := Lib.hid (U1.out.step ka)
      have HX2 := Lib.hid ha
      have SV2 := Lib.hid (SV1.out.kept ka)
      clear ka ha hX SV1 U1
      go_wp2_with fail
      refine (RD.out u2 U2.out).mono ?_
      rintro e u3 ⟨A3, c3, B3, d3, rfl, dv3, k3⟩
      have U3 := Lib.hid (U2.out.step k3)
      have DV3 := Lib.hid (dv3.mono (G := fun _ => True) (fun _ _ => trivial))
      have SV3 := Lib.hid (SV2.out.kept k3)
      have HX3 := Lib.hid (k3.blk HX2.out (fun h => h))
      clear dv3 k3 RD SV2 HX2 U2
      unfold dtv
      go_upto_region 12 with (fail)
      have ka := Kept.alloc noBlock u3 (.cells #[.int .i64 D.from_, .int .i64 D.to_, .int .i64 D.term, .slice A3 D.pairs.length c3, .slice B3 D.sess.length d3] 59)
      have ha := heap_alloc_new u3 (.cells #[.int .i64 D.from_, .int .i64 D.to_, .int .i64 D.term, .slice A3 D.pairs.length c3, .slice B3 D.sess.length d3] 59)
      generalize u3.alloc (.cells #[.int .i64 D.from_, .int .i64 D.to_, .int .i64 D.term, .slice A3 D.pairs.length c3, .slice B3 D.sess.length d3] 59) = u4 at ka ha ⊢
      obtain ⟨Y, hY⟩ : ∃ Y, Y = u3.heap.size := ⟨_, rfl⟩
      rw [← hY] at ha ⊢
      have U4 := Lib.hid (U3.out.step ka)
      have HY4 := Lib.hid ha
      have SV4 := Lib.hid (SV3.out.kept ka)
      have DV4 := Lib.hid (DV3.out.kept ka)
      have HX4 := Lib.hid (ka.blk HX3.out (fun h => h))
      clear ka ha hY SV3 DV3 HX3 U3
      go_wp2_with fail
      refine (RP.out u4 U4.out).mono ?_
      rintro e u5 ⟨es, pk, pe, A5, c5, rfl, hps, o5, k5⟩
      have hpc : pe = 0 ∨ pe = 10 := by rcases hps with ⟨h, _⟩ | ⟨h, _⟩; exact .inl h; exact .inr h
      have HPC := Lib.hid hpc
      have HPS := Lib.hid hps
      have U5 := Lib.hid (U4.out.step k5)
      have LE5 := Lib.hid (Lies.of_rows (F := fun _ => True) o5 (fun _ _ => trivial))
      have hce : es.length ≤ c5 := by obtain ⟨_, _, e, hle⟩ := own_form o5; injection e with _ _ e; omega
      have HX5 := Lib.hid (k5.blk HX4.out (fun h => h))
      have HY5 := Lib.hid (k5.blk HY4.out (fun h => h))
      have SV5 := Lib.hid (SV4.out.kept k5)
      have DV5 := Lib.hid (DV4.out.kept k5)
      obtain ⟨en, hen⟩ : ∃ en, en = es.length := ⟨_, rfl⟩
      rw [← hen] at hce ⊢
      have HEN := Lib.hid hen
      clear hpc hps k5 o5 HX4 HY4 SV4 DV4 U4 RP GE DE hcell hen
      go_upto_region 13 with (fail)
      go_cut [99] (fun x wc => x = .bool false ∧ u5 = wc)
      case first =>
        clear HEZ HDZ FU DF SR DR HPS
        rcases HEC.out with rfl | rfl <;> rcases HDC.out with rfl | rfl <;> rcases HPC.out with rfl | rfl
        all_goals
          go_wp2
          go_meet
          case rel => exact ⟨rfl, rfl⟩
      case rest =>
        obtain ⟨rfl, rfl⟩ := hcut
        obtain ⟨x0, x1, x2, x3⟩ := st_cells HX5.out
        unfold stv at FU SR
        unfold dtv at DF DR
        go_wp2_with fail
        refine (FU.out u5 A1 c1 B1 d1 SV5.out).mono ?_
        rintro e u6 ⟨P6, c6, rfl, o6, k6⟩
        have U6 := Lib.hid (U5.out.step k6)
        have L6 := Lib.hid (Lies.of_own (F := fun _ => True) o6 (fun _ _ => trivial))
        have LE6 := Lib.hid (LE5.out.keep k6 (fun _ _ h => h))
        have HX6 := Lib.hid (k6.blk HX5.out (fun h => h))
        have HY6 := Lib.hid (k6.blk HY5.out (fun h => h))
        have SV6 := Lib.hid (SV5.out.kept k6)
        have DV6 := Lib.hid (DV5.out.kept k6)
        clear x0 x1 x2 x3 o6 k6 FU HX5 HY5 SV5 DV5 LE5 U5
        obtain ⟨y0, y1, y2, y3, y4⟩ := dl_cells HY6.out
        go_wp2_with fail
        refine (DF.out u6 A3 c3 B3 d3 DV6.out).mono ?_
        rintro e u7 ⟨P7, c7', rfl, o7, k7⟩
        have U7 := Lib.hid (U6.out.step k7)
        have L6' := Lib.hid (L6.out.keep k7 (fun _ _ h => h))
        have L7 := Lib.hid (Lies.of_own (F := fun _ => True) o7 (fun _ _ => trivial))
        have LE7 := Lib.hid (LE6.out.keep k7 (fun _ _ h => h))
        have HX7 := Lib.hid (k7.blk HX6.out (fun h => h))
        have HY7 := Lib.hid (k7.blk HY6.out (fun h => h))
        have SV7 := Lib.hid (SV6.out.kept k7)
        have DV7 := Lib.hid (DV6.out.kept k7)
        clear y0 y1 y2 y3 y4 o7 k7 DF HX6 HY6 SV6 DV6 LE6 U6 L6
        have CX : Hid (∀ u, Kept noBlock u7 u → (convert 30 9 (.slice xa xn xc)).run Try.prog u = .ok (.string (str l)) u) := fun u ku => run_str9 (HLI.out u (U7.out.step ku)) HLL.out xc
        have CP : Hid (ge = 0 → ∀ u, Kept noBlock u7 u → (convert 30 9 (.slice P6 (sm + 35) c6)).run Try.prog u = .ok (.string (str l)) u) := fun hz u ku => by
          have h := run_str9 (L6'.out.keep ku (fun _ _ h => h)) (show (fullB S).length = sm + 35 by rw [fullB_length, HSM.out]; omega) c6
          rw [HEZ.out hz] at h
          exact h
        have CD : Hid (de = 0 → ∀ u, Kept noBlock u7 u → (convert 30 9 (.slice P7 (dm + 35) c7')).run Try.prog u = .ok (.string (str l)) u) := fun hz u ku => by
          have h := run_str9 (L7.out.keep ku (fun _ _ h => h)) (show (deltaB D).length = dm + 35 by rw [deltaB_length, HDM.out]; omega) c7'
          rw [HDZ.out hz] at h
          exact h
        obtain ⟨T, hT⟩ : ∃ T, T = str l := ⟨_, rfl⟩
        rw [← hT] at CX CP CD
        clear hT
        have SX : Hid (∀ u, Kept noBlock u7 u → u.cell? ⟨X, 0, none⟩ = some (.int .i64 S.index) ∧ u.cell? ⟨X, 1, none⟩ = some (.int .i64 S.term) ∧ u.cell? ⟨X, 2, none⟩ = some (.slice A1 S.pairs.length c1) ∧ u.cell? ⟨X, 3, none⟩ = some (.slice B1 S.sess.length d1)) := fun u ku => st_cells (ku.blk HX7.out (fun h => h))
        have SY : Hid (∀ u, Kept noBlock u7 u → u.cell? ⟨Y, 0, none⟩ = some (.int .i64 D.from_) ∧ u.cell? ⟨Y, 1, none⟩ = some (.int .i64 D.to_) ∧ u.cell? ⟨Y, 2, none⟩ = some (.int .i64 D.term) ∧ u.cell? ⟨Y, 3, none⟩ = some (.slice A3 D.pairs.length c3) ∧ u.cell? ⟨Y, 4, none⟩ = some (.slice B3 D.sess.length d3)) := fun u ku => dl_cells (ku.blk HY7.out (fun h => h))
        go_upto_region 17 with (fail)
        go_cut [139] (fun x wc => x = .bool false ∧ Hid (Kept noBlock u7 wc))
        case first =>
          rcases HEC.out with rfl | rfl <;> rcases HDC.out with rfl | rfl
          · obtain ⟨x0, x1, x2, x3⟩ := SX.out u7 (Kept.refl _ _)
            go_wp2_with fail
            refine (SR.out u7 A1 c1 B1 d1 SV7.out).mono ?_
            rintro e u8 ⟨rfl, k8⟩
            clear x0 x1 x2 x3
            obtain ⟨y0, y1, y2, y3, y4⟩ := SY.out u8 k8
            have q1 := CX.out u8 k8
            have q2 := CP.out (by simp) u8 k8
            have K8 := Lib.hid k8
            clear k8
            go_wp2_with fail
            refine (DR.out u8 A3 c3 B3 d3 (DV7.out.kept K8.out)).mono ?_
            rintro e u9 ⟨rfl, k9⟩
            clear q1 q2 y0 y1 y2 y3 y4
            have q1 := CX.out u9 (K8.out.step k9)
            have q2 := CD.out (by simp) u9 (K8.out.step k9)
            have K9 := Lib.hid (K8.out.step k9)
            clear k9
            go_wp2
            go_meet
            case rel => exact ⟨rfl, K9⟩
          · obtain ⟨x0, x1, x2, x3⟩ := SX.out u7 (Kept.refl _ _)
            go_wp2_with fail
            refine (SR.out u7 A1 c1 B1 d1 SV7.out).mono ?_
            rintro e u8 ⟨rfl, k8⟩
            clear x0 x1 x2 x3
            have q1 := CX.out u8 k8
            have q2 := CP.out (by simp) u8 k8
            have K8 := Lib.hid k8
            clear k8
            go_wp2
            go_meet
            case rel => exact ⟨rfl, K8⟩
          · obtain ⟨y0, y1, y2, y3, y4⟩ := SY.out u7 (Kept.refl _ _)
            go_wp2_with fail
            refine (DR.out u7 A3 c3 B3 d3 DV7.out).mono ?_
            rintro e u9 ⟨rfl, k9⟩
            clear y0 y1 y2 y3 y4
            have q1 := CX.out u9 k9
            have q2 := CD.out (by simp) u9 k9
            have K9 := Lib.hid k9
            clear k9
            go_wp2
            go_meet
            case rel => exact ⟨rfl, K9⟩
          · go_wp2
            go_meet
            case rel => exact ⟨rfl, Lib.hid (Kept.refl _ _)⟩
        case rest =>
          obtain ⟨rfl, K8⟩ := hcut
          clear SX SY CX CP CD SR DR HEZ HDZ SV7 DV7 HX7 HY7 L6' L7 HSM HDM
          rcases HPS.out with ⟨rfl, hpk, hpo⟩ | ⟨rfl, _, _, _⟩
          · have hpo2 := hpo
            obtain ⟨hrow, t, hlt2, _⟩ := hpo2
            have htk : l.take pk = fileB fn es := by rw [hlt2, hpk]; exact List.take_left' rfl
            have hpx : pk ≤ xn := by
              have h1 := congrArg List.length hlt2
              rw [List.length_append, HLL.out, ← hpk] at h1
              omega
            have hen2 : en ≤ pk := by
              have h1 := joined_ge (es.map EntryV.bytes)
              rw [← entsB_joined, List.length_map] at h1
              rw [hpk, fileB_length, HEN.out]
              omega
            have ROW : Hid (∀ u, Kept noBlock wc u → Calls Try.prog 20 #[.slice A5 en c5, .int .i64 ((fn : Int) + 1)] u (Says u true)) := fun u ku => by
              have h := row_any (fun _ => True) A5 en c5 ((fn : Int) + 1) es u (LE7.out.keep (K8.out.step ku) (fun _ _ h => h)) HEN.out.symm (by omega) (by omega)
              rw [hrow] at h
              exact h
            have LP := Lib.hid (fun u (ku : Kept noBlock wc u) => lpart_any (fun _ => True) A5 en c5 (fn : Int) es pk u (LE7.out.keep (K8.out.step ku) (fun _ _ h => h)) HEN.out.symm (fun e he => by have := right_short (rowB_right hrow e he); omega) hpk.symm (by omega) (by omega))
            have CX2 : Hid (∀ u, Kept noBlock wc u → (convert 30 9 (.slice xa pk xc)).run Try.prog u = .ok (.string (str (fileB fn es))) u) := fun u ku => by
              have h := run_str9 (n := pk) (l := l.take pk) (by rw [List.map_take]; exact (HLI.out u (U7.out.step (K8.out.step ku))).take pk) (by rw [List.length_take, HLL.out]; omega) xc
              rw [htk] at h
              exact h
            have CR : Hid (∀ u A c, Lies u (fun _ => True) A ((fileB fn es).map bv) → (convert 30 9 (.slice A pk c)).run Try.prog u = .ok (.string (str (fileB fn es))) u) := fun u A c h => run_str9 h hpk.symm c
            obtain ⟨T2, hT2⟩ : ∃ T2, T2 = str (fileB fn es) := ⟨_, rfl⟩
            rw [← hT2] at CX2 CR
            have hpi : (pk : Int) ≤ xn := by omega
            have hpi2 : (pk : Int) ≤ xc := by omega
            have hpi3 : ¬ (xn : Int) < pk := by omega
            have hpi4 : ¬ xn < pk := by omega
            have HW1 : Hid (IntKind.i64.wrap (fn : Int) = (fn : Int)) := by unfold Hid; simp [IntKind.wrap, IntKind.signed, IntKind.bits]; omega
            have HW2 : Hid (IntKind.i64.wrap ((fn : Int) + 1) = (fn : Int) + 1) := by unfold Hid; simp [IntKind.wrap, IntKind.signed, IntKind.bits]; omega
            clear hT2 hpk hpo hrow hlt2 htk HPS HPC
            go_upto_region 19 with (fail)
            refine wp_region_noPanic ?_
            refine wp_region_held_drew (S := fun u => (convert 30 9 (.slice xa pk xc)).run Try.prog u = .ok (.string T2) u) (by kernel_rfl) (CX2.out _ (Kept.drew _ _)) (fun hHeld => ?_)
            refine wpAnyH_take (i := 0) (oi := ⟨some 140, Op.move (Operand.tmp 21), 31, _, _, none⟩) (v := ?v0n1k1) rfl (by kernel_rfl) (by kernel_rfl) (by kernel_rfl) (fun _ _ _ h => h) (Or.inl ⟨by rfl, ?y0n1k1⟩) hHeld ?z0n1k1
            case y0n1k1 => intro w hSw; (try dsimp only at hSw); go_simp <;> rfl
            try simp only [Act.put, List.setIfInBounds_toArray, List.set_cons_zero, List.set_cons_succ]
            refine wpAnyH_take (i := 1) (oi := ⟨some 141, Op.binOp BinOp.eql 31 (Operand.tmp 140) (Operand.const (Value.int IntKind.i64 0)) 31, 4, _, _, none⟩) (v := ?v1n1k2) rfl (by kernel_rfl) (by kernel_rfl) (by kernel_rfl) (fun _ _ _ h => h) (Or.inl ⟨by rfl, ?y1n1k2⟩) hHeld ?z1n1k2
            case y1n1k2 => intro w hSw; (try dsimp only at hSw); go_simp <;> rfl
            try simp only [Act.put, List.setIfInBounds_toArray, List.set_cons_zero, List.set_cons_succ]
            refine wpAnyH_take (i := 2) (oi := ⟨some 142, Op.move (Operand.tmp 141), 4, _, _, none⟩) (v := ?v2n1k3) rfl (by kernel_rfl) (by kernel_rfl) (by kernel_rfl) (fun _ _ _ h => h) (Or.inl ⟨by rfl, ?y2n1k3⟩) hHeld ?z2n1k3
            case y2n1k3 => intro w hSw; (try dsimp only at hSw); go_simp <;> rfl
            try simp only [Act.put, List.setIfInBounds_toArray, List.set_cons_zero, List.set_cons_succ]
            refine wpAnyH_take (i := 3) (oi := ⟨some 143, Op.move (Operand.tmp 19), 41, _, _, some (2, true)⟩) (v := ?v3n1k4) rfl (by kernel_rfl) (by kernel_rfl) (by kernel_rfl) (fun _ _ _ h => h) (Or.inl ⟨by rfl, ?y3n1k4⟩) hHeld ?z3n1k4
            case y3n1k4 => intro w hSw; (try dsimp only at hSw); go_simp <;> rfl
            try simp only [Act.put, List.setIfInBounds_toArray, List.set_cons_zero, List.set_cons_succ]
            refine wpAnyH_take (i := 4) (oi := ⟨some 144, Op.move (Operand.tmp 4), 5, _, _, some (2, true)⟩) (v := ?v4n1k5) rfl (by kernel_rfl) (by kernel_rfl) (by kernel_rfl) (fun _ _ _ h => h) (Or.inl ⟨by rfl, ?y4n1k5⟩) hHeld ?z4n1k5
            case y4n1k5 => intro w hSw; (try dsimp only at hSw); go_simp <;> rfl
            try simp only [Act.put, List.setIfInBounds_toArray, List.set_cons_zero, List.set_cons_succ]
            refine wpAnyH_take (i := 5) (oi := ⟨some 145, Op.convert 5 3 (Operand.tmp 144), 3, _, _, some (2, true)⟩) (v := ?v5n1k6) rfl (by kernel_rfl) (by kernel_rfl) (by kernel_rfl) (fun _ _ _ h => h) (Or.inl ⟨by rfl, ?y5n1k6⟩) hHeld ?z5n1k6
            case y5n1k6 => intro w hSw; (try dsimp only at hSw); go_simp <;> rfl
            try simp only [Act.put, List.setIfInBounds_toArray, List.set_cons_zero, List.set_cons_succ]
            refine wpAnyH_take (i := 6) (oi := ⟨some 146, Op.binOp BinOp.add 3 (Operand.tmp 145) (Operand.const (Value.int IntKind.i64 1)) 3, 3, _, _, some (2, true)⟩) (v := ?v6n1k7) rfl (by kernel_rfl) (by kernel_rfl) (by kernel_rfl) (fun _ _ _ h => h) (Or.inl ⟨by rfl, ?y6n1k7⟩) hHeld ?z6n1k7
            case y6n1k7 => intro w hSw; (try dsimp only at hSw); go_simp <;> rfl
            try simp only [Act.put, List.setIfInBounds_toArray, List.set_cons_zero, List.set_cons_succ]
            refine wpAnyH_ready (rs := [7]) (by kernel_rfl) (by simp) ?_
            refine AllReadyH.cons (o := ⟨some 147, Op.call { callee := Callee.value (Operand.func 20), args := #[Operand.tmp 143, Operand.tmp 146], argTypes := #[41, 3] }, 4, _, _, some (2, true)⟩) rfl (fun K hK => ?_) AllReadyH.nil
            go_simp
            rw [HW1.out, HW2.out]
            refine (ROW.out _ (Kept.drew _ _)).mono ?_
            rintro e u9 ⟨rfl, k9⟩
            have K9 := Lib.hid ((Kept.drew noBlock wc).step k9)
            clear k9
            dsimp only
            refine hK.out _ _ (CX2.out _ K9.out) (fun hHeld => ?_)
            clear hK K
            try simp only [Act.put, List.setIfInBounds_toArray, List.set_cons_zero, List.set_cons_succ]
            refine wpAnyH_take (i := 8) (oi := ⟨some 148, Op.unOp UnOp.not 4 (Operand.tmp 147), 4, _, _, some (2, true)⟩) (v := ?v8n1k8) rfl (by kernel_rfl) (by kernel_rfl) (by kernel_rfl) (fun _ _ _ h => h) (Or.inl ⟨by rfl, ?y8n1k8⟩) hHeld ?z8n1k8
            case y8n1k8 => intro w hSw; (try dsimp only at hSw); go_simp <;> rfl
            try simp only [Act.put, List.setIfInBounds_toArray, List.set_cons_zero, List.set_cons_succ]
            refine wpAnyH_take (i := 9) (oi := ⟨some 149, Op.move (Operand.tmp 148), 4, _, _, some (2, true)⟩) (v := ?v9n1k9) rfl (by kernel_rfl) (by kernel_rfl) (by kernel_rfl) (fun _ _ _ h => h) (Or.inl ⟨by rfl, ?y9n1k9⟩) hHeld ?z9n1k9
            case y9n1k9 => intro w hSw; (try dsimp only at hSw); go_simp <;> rfl
            try simp only [Act.put, List.setIfInBounds_toArray, List.set_cons_zero, List.set_cons_succ]
            refine wpAnyH_take (i := 10) (oi := ⟨some 150, Op.move (Operand.tmp 20), 3, _, _, some (9, false)⟩) (v := ?v10n1k10) rfl (by kernel_rfl) (by kernel_rfl) (by kernel_rfl) (fun _ _ _ h => h) (Or.inl ⟨by rfl, ?y10n1k10⟩) hHeld ?z10n1k10
            case y10n1k10 => intro w hSw; (try dsimp only at hSw); go_simp <;> rfl
            try simp only [Act.put, List.setIfInBounds_toArray, List.set_cons_zero, List.set_cons_succ]
            refine wpAnyH_take (i := 11) (oi := ⟨some 151, Op.move (Operand.tmp 14), 30, _, _, some (9, false)⟩) (v := ?v11n1k11) rfl (by kernel_rfl) (by kernel_rfl) (by kernel_rfl) (fun _ _ _ h => h) (Or.inl ⟨by rfl, ?y11n1k11⟩) hHeld ?z11n1k11
            case y11n1k11 => intro w hSw; (try dsimp only at hSw); go_simp <;> rfl
            try simp only [Act.put, List.setIfInBounds_toArray, List.set_cons_zero, List.set_cons_succ]
            refine wpAnyH_take (i := 12) (oi := ⟨some 152, Op.call { callee := Callee.builtin Builtin.len, args := #[Operand.tmp 151], argTypes := #[30] }, 3, _, _, some (9, false)⟩) (v := ?v12n1k12) rfl (by kernel_rfl) (by kernel_rfl) (by kernel_rfl) (fun _ _ _ h => h) (Or.inl ⟨by rfl, ?y12n1k12⟩) hHeld ?z12n1k12
            case y12n1k12 => intro w hSw; (try dsimp only at hSw); go_simp <;> rfl
            try simp only [Act.put, List.setIfInBounds_toArray, List.set_cons_zero, List.set_cons_succ]
            refine wpAnyH_take (i := 13) (oi := ⟨some 153, Op.binOp BinOp.gtr 3 (Operand.tmp 150) (Operand.tmp 152) 3, 4, _, _, some (9, false)⟩) (v := ?v13n1k13) rfl (by kernel_rfl) (by kernel_rfl) (by kernel_rfl) (fun _ _ _ h => h) (Or.inl ⟨by rfl, ?y13n1k13⟩) hHeld ?z13n1k13
            case y13n1k13 => intro w hSw; (try dsimp only at hSw); go_simp <;> rfl
            try simp only [Act.put, List.setIfInBounds_toArray, List.set_cons_zero, List.set_cons_succ]
            refine wpAnyH_take (i := 14) (oi := ⟨some 154, Op.pick (Operand.tmp 149) (Operand.const (Value.bool true)) (Operand.tmp 153), 4, _, _, some (2, true)⟩) (v := ?v14n1k14) rfl (by kernel_rfl) (by kernel_rfl) (by kernel_rfl) (fun _ _ _ h => h) (Or.inl ⟨by rfl, ?y14n1k14⟩) hHeld ?z14n1k14
            case y14n1k14 => intro w hSw; (try dsimp only at hSw); go_simp <;> rfl
            try simp only [Act.put, List.setIfInBounds_toArray, List.set_cons_zero, List.set_cons_succ]
            refine wpAnyH_take (i := 15) (oi := ⟨some 155, Op.move (Operand.tmp 154), 4, _, _, some (2, true)⟩) (v := ?v15n1k15) rfl (by kernel_rfl) (by kernel_rfl) (by kernel_rfl) (fun _ _ _ h => h) (Or.inl ⟨by rfl, ?y15n1k15⟩) hHeld ?z15n1k15
            case y15n1k15 => intro w hSw; (try dsimp only at hSw); go_simp <;> rfl
            try simp only [Act.put, List.setIfInBounds_toArray, List.set_cons_zero, List.set_cons_succ]
            refine wpAnyH_take (i := 16) (oi := ⟨some 156, Op.move (Operand.tmp 19), 41, _, _, some (15, false)⟩) (v := ?v16n1k16) rfl (by kernel_rfl) (by kernel_rfl) (by kernel_rfl) (fun _ _ _ h => h) (Or.inl ⟨by rfl, ?y16n1k16⟩) hHeld ?z16n1k16
            case y16n1k16 => intro w hSw; (try dsimp only at hSw); go_simp <;> rfl
            try simp only [Act.put, List.setIfInBounds_toArray, List.set_cons_zero, List.set_cons_succ]
            refine wpAnyH_take (i := 17) (oi := ⟨some 157, Op.move (Operand.tmp 4), 5, _, _, some (15, false)⟩) (v := ?v17n1k17) rfl (by kernel_rfl) (by kernel_rfl) (by kernel_rfl) (fun _ _ _ h => h) (Or.inl ⟨by rfl, ?y17n1k17⟩) hHeld ?z17n1k17
            case y17n1k17 => intro w hSw; (try dsimp only at hSw); go_simp <;> rfl
            try simp only [Act.put, List.setIfInBounds_toArray, List.set_cons_zero, List.set_cons_succ]
            refine wpAnyH_take (i := 18) (oi := ⟨some 158, Op.convert 5 3 (Operand.tmp 157), 3, _, _, some (15, false)⟩) (v := ?v18n1k18) rfl (by kernel_rfl) (by kernel_rfl) (by kernel_rfl) (fun _ _ _ h => h) (Or.inl ⟨by rfl, ?y18n1k18⟩) hHeld ?z18n1k18
            case y18n1k18 => intro w hSw; (try dsimp only at hSw); go_simp <;> rfl
            try simp only [Act.put, List.setIfInBounds_toArray, List.set_cons_zero, List.set_cons_succ]
            refine wpAnyH_take (i := 21) (oi := ⟨some 161, Op.move (Operand.tmp 14), 30, _, _, some (15, false)⟩) (v := ?v21n1k19) rfl (by kernel_rfl) (by kernel_rfl) (by kernel_rfl) (fun _ _ _ h => h) (Or.inl ⟨by rfl, ?y21n1k19⟩) hHeld ?z21n1k19
            case y21n1k19 => intro w hSw; (try dsimp only at hSw); go_simp <;> rfl
            try simp only [Act.put, List.setIfInBounds_toArray, List.set_cons_zero, List.set_cons_succ]
            refine wpAnyH_take (i := 22) (oi := ⟨some 162, Op.move (Operand.tmp 20), 3, _, _, some (15, false)⟩) (v := ?v22n1k20) rfl (by kernel_rfl) (by kernel_rfl) (by kernel_rfl) (fun _ _ _ h => h) (Or.inl ⟨by rfl, ?y22n1k20⟩) hHeld ?z22n1k20
            case y22n1k20 => intro w hSw; (try dsimp only at hSw); go_simp <;> rfl
            try simp only [Act.put, List.setIfInBounds_toArray, List.set_cons_zero, List.set_cons_succ]
            refine wpAnyH_take (i := 23) (oi := ⟨some 163, Op.slice 30 (Operand.tmp 161) none (some (Operand.tmp 162)) none, 30, _, _, some (15, false)⟩) (v := ?v23n1k21) rfl (by kernel_rfl) (by kernel_rfl) (by kernel_rfl) (fun _ _ _ h => h) (Or.inl ⟨by rfl, ?y23n1k21⟩) hHeld ?z23n1k21
            case y23n1k21 => intro w hSw; (try dsimp only at hSw); go_simp <;> rfl
            try simp only [Act.put, List.setIfInBounds_toArray, List.set_cons_zero, List.set_cons_succ]
            refine wpAnyH_take (i := 24) (oi := ⟨some 164, Op.convert 30 9 (Operand.tmp 163), 9, _, _, some (15, false)⟩) (v := ?v24n1k22) rfl (by kernel_rfl) (by kernel_rfl) (by kernel_rfl) (fun _ _ _ h => h) (Or.inl ⟨by rfl, ?y24n1k22⟩) hHeld ?z24n1k22
            case y24n1k22 => intro w hSw; (try dsimp only at hSw); go_simp <;> rfl
            try simp only [Act.put, List.setIfInBounds_toArray, List.set_cons_zero, List.set_cons_succ]
            refine wpAnyH_ready (rs := [19]) (by kernel_rfl) (by simp) ?_
            refine AllReadyH.cons (o := ⟨some 159, Op.call { callee := Callee.value (Operand.func 17), args := #[Operand.tmp 156, Operand.tmp 158], argTypes := #[41, 3] }, 30, _, _, some (15, false)⟩) rfl (fun K hK => ?_) AllReadyH.nil
            go_simp
            rw [HW1.out]
            refine (LP.out _ K9.out).mono ?_
            rintro e u10 ⟨P10, c10, rfl, o10, k10⟩
            have K10 := Lib.hid (K9.out.step k10)
            have Q10 := Lib.hid (CR.out u10 P10 c10 (Lies.of_own (F := fun _ => True) o10 (fun _ _ => trivial)))
            clear k10 o10
            dsimp only
            refine hK.out _ _ (CX2.out _ K10.out) (fun hHeld => ?_)
            clear hK K
            try simp only [Act.put, List.setIfInBounds_toArray, List.set_cons_zero, List.set_cons_succ]
            refine wpAnyH_more (S2 := fun u => (convert 30 9 (.slice xa pk xc)).run Try.prog u = .ok (.string T2) u ∧ (convert 30 9 (.slice P10 pk c10)).run Try.prog u = .ok (.string T2) u) (fun _ h => h.1) ?_
            clear hHeld
            have hHeld : (fun u => (convert 30 9 (.slice xa pk xc)).run Try.prog u = .ok (.string T2) u ∧ (convert 30 9 (.slice P10 pk c10)).run Try.prog u = .ok (.string T2) u) _ := ⟨CX2.out _ K10.out, Q10.out⟩
            refine wpAnyH_take (i := 20) (oi := ⟨some 160, Op.convert 30 9 (Operand.tmp 159), 9, _, _, some (15, false)⟩) (v := ?v20n1k23) rfl (by kernel_rfl) (by kernel_rfl) (by kernel_rfl) (fun _ _ _ h => h) (Or.inl ⟨by rfl, ?y20n1k23⟩) hHeld ?z20n1k23
            case y20n1k23 => intro w hSw; (try dsimp only at hSw); go_simp <;> rfl
            try simp only [Act.put, List.setIfInBounds_toArray, List.set_cons_zero, List.set_cons_succ]
            refine wpAnyH_take (i := 25) (oi := ⟨some 165, Op.binOp BinOp.neq 9 (Operand.tmp 160) (Operand.tmp 164) 9, 4, _, _, some (15, false)⟩) (v := ?v25n1k24) rfl (by kernel_rfl) (by kernel_rfl) (by kernel_rfl) (fun _ _ _ h => h) (Or.inl ⟨by rfl, ?y25n1k24⟩) hHeld ?z25n1k24
            case y25n1k24 => intro w hSw; (try dsimp only at hSw); go_simp <;> rfl
            try simp only [Act.put, List.setIfInBounds_toArray, List.set_cons_zero, List.set_cons_succ]
            refine wpAnyH_take (i := 26) (oi := ⟨some 166, Op.pick (Operand.tmp 155) (Operand.const (Value.bool true)) (Operand.tmp 165), 4, _, _, some (2, true)⟩) (v := ?v26n1k25) rfl (by kernel_rfl) (by kernel_rfl) (by kernel_rfl) (fun _ _ _ h => h) (Or.inl ⟨by rfl, ?y26n1k25⟩) hHeld ?z26n1k25
            case y26n1k25 => intro w hSw; (try dsimp only at hSw); go_simp <;> rfl
            try simp only [Act.put, List.setIfInBounds_toArray, List.set_cons_zero, List.set_cons_succ]
            refine wpAnyH_take (i := 27) (oi := ⟨some 167, Op.pick (Operand.tmp 142) (Operand.tmp 166) (Operand.const (Value.bool false)), 4, _, _, none⟩) (v := ?v27n1k26) rfl (by kernel_rfl) (by kernel_rfl) (by kernel_rfl) (fun _ _ _ h => h) (Or.inl ⟨by rfl, ?y27n1k26⟩) hHeld ?z27n1k26
            case y27n1k26 => intro w hSw; (try dsimp only at hSw); go_simp <;> rfl
            try simp only [Act.put, List.setIfInBounds_toArray, List.set_cons_zero, List.set_cons_succ]
            refine wpAnyH_done (by kernel_rfl) ?_ _
            refine NoPanic.normal ?_
            have KQ := Lib.hid (U7.out.step (K8.out.step K10.out))
            have HLT := Lib.hid hlt
            clear hd hki hlt hpi hpi2 hpi3 hpi4 hpx hen2 hHeld
            go_wp2
            go_roundw
            case rel => exact ⟨k + 1, by have := HLT.out; omega, by go_num, KQ⟩
            case measure => have := HLT.out; simp [intOf]; omega
          · clear HPS HPC
            go_upto_region 19 with (fail)
            go_quiet (fail)
            have kq := Kept.drewN noBlock wc nq
            generalize wc.drewN nq = v9 at kq ⊢
            have KQ := Lib.hid (U7.out.step (K8.out.step kq))
            have HLT := Lib.hid hlt
            clear kq hd hki hlt
            go_wp2
            go_roundw
            case rel => exact ⟨k + 1, by have := HLT.out; omega, by go_num, KQ⟩
            case measure => have := HLT.out; simp [intOf]; omega
    · obtain rfl : k = 3 := by omega
      go_wp2
      go_ret
      exact ⟨rfl, K8.out.step HK.out⟩
end Go.Proofs.Ythmjjhjblokjeaa
