/-
  The walk of PlanNone. No statement is proved here.
-/
import Derived.Test.YtollmkkbeeeccaaL11Use
import Derived.Test.YtollmkkbeeeccaaP11Pl
namespace Go.Proofs.Ytollmkkbeeeccaa
open Go.RowKit Tot

set_option maxRecDepth 100000 in
set_option maxHeartbeats 2000000 in
theorem none_any (F : Nat → Prop) (A : Option Addr) (n c : Nat) (rs : List RfN) (fl la : UInt8) (w : World) (h : Lies w F A (rfCells rs)) (hl : n = rs.length) (hnc : n ≤ c) (hc : c ≤ 9223372036854775807) :
    Calls Try.prog 8 #[.slice A n c, .int .u8 (fl.toNat : Int), .int .u8 (la.toNat : Int)] w fun e w' => e = .returned (.bool true) ∧ Kept noBlock w w' := by
  have AW := Lib.hid (awake_any w)
  have SE := Lib.hid (fun u (k : Kept noBlock w u) => set_any F A n c rs fl u (h.keep k (fun _ _ h => h)) hl hnc hc)
  obtain ⟨f, hf, _, hf12⟩ := rem_num fl 12 (by omega)
  obtain ⟨L, hL⟩ : ∃ L, L = setS rs := ⟨_, rfl⟩
  have hL14 : L.length ≤ 14 := by rw [hL]; exact setS_len rs
  rw [← hL, ← hf] at SE
  obtain ⟨m, hm⟩ : ∃ m, m = L.length := ⟨_, rfl⟩
  rw [← hm] at SE hL14
  have HM := Lib.hid hm
  clear h hl hnc hc hf hL hm
  obtain ⟨nl, hnl, t1, hnl32⟩ := rem_num la 32 (by omega)
  have t1 : ((la.toNat : Int)).tmod 32 = (nl : Int) := t1
  clear hnl
  go_enter Try.func8, Try.ntmps8
  go_wp2_with fail
  refine AW.out.mono ?_
  rintro e w1 ⟨rfl, k1⟩
  have K1 := Lib.hid k1
  clear k1 AW
  go_wp2_with fail
  refine (SE.out _ K1.out).mono ?_
  rintro e w2 ⟨A', c', rfl, o2, k2⟩
  have ka := Kept.alloc noBlock w2 (.cells #[.slice A' m c', .int .i64 (f : Int)] 27)
  have ha := heap_alloc_new w2 (.cells #[.slice A' m c', .int .i64 (f : Int)] 27)
  go_upto_region 5 with (fail)
  obtain ⟨S, hS⟩ : ∃ S, S = w2.heap.size := ⟨_, rfl⟩
  rw [← hS] at ha ⊢
  generalize w2.alloc (.cells #[.slice A' m c', .int .i64 (f : Int)] 27) = w3 at ka ha ⊢
  have K3 := Lib.hid (K1.out.step (k2.step ka))
  have HS3 := Lib.hid ha
  have HLI := Lib.hid ((Lies.of_rows (F := fun _ => True) o2 (fun _ _ => trivial)).keep ka (fun _ _ h => h))
  have HSW : Hid (w.heap.size ≤ S) := by unfold Hid; rw [hS]; exact (K1.out.step k2).size
  clear k2 ka ha o2 SE hS
  obtain ⟨s0, s1⟩ := pair_cells HS3.out
  have OF := Lib.hid (fun (i : Int) u (k : Kept noBlock w3 u) => ofs_any A' m c' f nl i L u (HLI.out.keep k (fun _ _ h => h)) HM.out.symm (by omega))
  have OA := Lib.hid (fun u (k : Kept noBlock w3 u) => OF.out ((f : Int) - 1) u k)
  have OB := Lib.hid (fun u (k : Kept noBlock w3 u) => OF.out ((nl : Int) + 1) u k)
  rw [planV_out (.inl (by omega))] at OA
  rw [planV_out (.inr (by omega))] at OB
  unfold plnv noPln at OA OB
  simp only [List.length_nil] at OA OB
  clear t1 OF
  go_wp2_with fail
  refine (OA.out _ (Kept.refl _ _)).mono ?_
  rintro e w4 ⟨p, A1, c1, A2, c2, rfl, hp, k4⟩
  have ka := Kept.alloc noBlock w4 (.cells #[.pointer p, .slice A1 0 c1, .slice A2 0 c2] 31)
  go_upto_region 6 with (fail)
  generalize w4.alloc (.cells #[.pointer p, .slice A1 0 c1, .slice A2 0 c2] 31) = w5 at ka ⊢
  have K5 := Lib.hid (k4.step ka)
  obtain ⟨s0, s1⟩ := pair_cells (K5.out.blk HS3.out (fun h => h))
  clear k4 ka hp OA
  go_wp2_with fail
  refine (OB.out _ K5.out).mono ?_
  rintro e w6 ⟨p', A3, c3, A4, c4, rfl, hp, k6⟩
  have ka := Kept.alloc noBlock w6 (.cells #[.pointer p', .slice A3 0 c3, .slice A4 0 c4] 31)
  go_upto_region 7 with (fail)
  generalize w6.alloc (.cells #[.pointer p', .slice A3 0 c3, .slice A4 0 c4] 31) = w7 at ka ⊢
  have K7 := Lib.hid (K5.out.step (k6.step ka))
  obtain ⟨s0, s1⟩ := pair_cells (K7.out.blk HS3.out (fun h => h))
  clear k6 ka hp OB K5
  go_wp2_with fail
  go_loopw [13, 56] (fun v i wr => ∃ (j k : Nat) (A5 : Option Addr) (c5 : Nat), j ≤ m ∧ k ≤ j ∧ v = .slice A5 k c5 ∧ i = .int .i64 (j : Int) ∧ Hid (k = (noPart (L.take j)).length) ∧ Hid (wr.ownsRow w7.heap.size 37 4 (.slice A5 k c5) k (refCells (noPart (L.take j)))) ∧ Hid (Kept noBlock w7 wr)) (fun _ i _ => m - (intOf i).toNat)
  case atStart => exact ⟨0, 0, none, 0, by omega, by omega, rfl, rfl, rfl, World.ownsRow_nil _ _ _ _, Kept.refl _ _⟩
  case round =>
    obtain ⟨j, k, A5, c5, hjm, hkj, rfl, rfl, HKL, HO, HK⟩ := hrel
    by_cases hlt : j < m
    · obtain ⟨x, hx⟩ : ∃ x, L[j]? = some x := ⟨_, List.getElem?_eq_getElem (by have := HM.out; omega)⟩
      obtain ⟨g, o, rfl, _, cc⟩ := (HLI.out.keep (K7.out.step HK.out) (fun _ _ h => h)).elem (enc := RefV.cells) ref_len (by omega) hx
      have e0 := cc 0 _ rfl
      have e1 := cc 1 _ rfl
      have e2 := cc 2 _ rfl
      have e3 := cc 3 _ rfl
      rw [Nat.add_zero] at e0
      have ST := Lib.hid (noPart_step hx)
      clear hx cc
      go_upto_region 13 with (fail)
      have k3 := Kept.alloc noBlock wr (.cells #[.string x.name, .int .i64 x.kind, .int .i64 x.from_, .int .i64 x.to_] 37)
      have b3 := heap_alloc_new wr (.cells #[.string x.name, .int .i64 x.kind, .int .i64 x.from_, .int .i64 x.to_] 37)
      generalize wr.alloc (.cells #[.string x.name, .int .i64 x.kind, .int .i64 x.from_, .int .i64 x.to_] 37) = w8 at k3 b3 ⊢
      obtain ⟨d0, d1, d2, d3⟩ := ref_cells b3
      have K8 := Lib.hid (HK.out.step k3)
      have OL := Lib.hid (own_keep HO.out k3 (fun _ _ h => h))
      clear e0 e1 e2 e3 k3 b3
      by_cases hkd : x.kind = 2
      · have hbq : (x.kind != 2) = false := by simpa using hkd
        have HS : Hid (noPart (L.take (j + 1)) = noPart (L.take j)) := by unfold Hid; rw [ST.out, if_neg (fun h => h hkd), List.append_nil]
        clear hkd HO HK
        go_wp2
        go_roundw
        case rel => exact ⟨j + 1, k, A5, c5, by omega, by omega, rfl, by go_num, Lib.hid (by rw [HS.out, HKL.out]), Lib.hid (by rw [HS.out]; exact OL.out), K8⟩
        case measure => simp [intOf]; omega
      · have hbq : (x.kind != 2) = true := by simpa using hkd
        have HS : Hid (noPart (L.take (j + 1)) = noPart (L.take j) ++ [x]) := by unfold Hid; rw [ST.out, if_pos hkd]
        obtain ⟨es, hes⟩ : ∃ es, es = noPart (L.take j) := ⟨_, rfl⟩
        rw [← hes] at HO HKL HS OL
        clear hkd hes
        go_wp2_with (at_builtin; refine wpList_append_src rfl _ _ 25 25 rfl 37 noRef.val 4 40 Try.underlying25 Try.infoRef rfl (.slice A5 k c5) k (refCells es) rfl (own_base (own_keep OL.out (Kept.alloc noBlock _ _) (fun _ _ h => h)) (fun _ _ => Nat.zero_le _)) _ 1 (refCells [x]) rfl (src_ref x (heap_alloc_new _ _)) ?c3 ?c4 ?_)
        case c3 => unfold maxLen; omega
        case c4 => omega
        intro A9 c9 u9 o9 k9 a9
        have ka := Kept.alloc noBlock w8 (.cells #[.string x.name, .int .i64 x.kind, .int .i64 x.from_, .int .i64 x.to_] 37)
        have NX := Lib.hid (own_next (K8.out.step ka) (own_keep OL.out ka (fun _ _ h => h)) o9 k9 a9)
        clear d0 d1 d2 d3 o9 k9 a9 ka hbq
        go_wp2
        go_roundw
        case rel => exact ⟨j + 1, k + 1, A9, c9, by omega, by omega, rfl, by go_num, Lib.hid (by rw [HS.out, List.length_append, HKL.out]; rfl), Lib.hid (by rw [HS.out, refCells_append]; exact NX.out.1), Lib.hid NX.out.2⟩
        case measure => simp [intOf]; omega
    · obtain rfl : j = m := by omega
      have htk : L.take j = L := List.take_of_length_le (by have := HM.out; omega)
      rw [htk] at HKL HO
      obtain ⟨w9, hw9⟩ : ∃ w9, w9 = wr := ⟨_, rfl⟩
      rw [← hw9] at HO HK ⊢
      have hsb := (K7.out.step HK.out).blk HS3.out (fun h => h)
      obtain ⟨s0, s1⟩ := pair_cells hsb
      have f0 : w9.frozen? ⟨S, 0, none⟩ = false := frozen_of_row _ _ _ _ _ hsb
      have kz : Kept (fun i => i = S) w9 (w9.setCell ⟨S, 0, none⟩ (.slice A5 k c5)) := Kept.setCell w9 (by rfl) _
      have hz := heap_setCell_same w9 S 0 _ 27 (.slice A5 k c5) hsb
      have HS9 : Hid ((w9.setCell ⟨S, 0, none⟩ (.slice A5 k c5)).heap[S]? = some (.cells #[.slice A5 k c5, .int .i64 (f : Int)] 27 (0, 0))) := by unfold Hid; simpa using hz
      have HLN := Lib.hid (Lies.of_rows (F := fun _ => True) (own_keep HO.out kz (fun i hi e => by have := (HO.out.lt i hi).1; have := lt_of_blk HS3.out; have := K7.out.size; omega)) (fun _ _ => trivial))
      have KZ := Lib.hid kz
      clear htk hw9 hsb kz hz
      go_upto_region 17 with (fail)
      generalize w9.setCell ⟨S, 0, none⟩ (.slice A5 k c5) = w10 at HS9 HLN KZ ⊢
      have K10 : Hid (Kept noBlock w w10) := (K3.out.step (K7.out.step HK.out)).trans KZ.out (fun i hi e => by have := HSW.out; omega)
      have OF := Lib.hid (fun (i : Int) u (q : Kept noBlock w10 u) => ofs_any A5 k c5 f nl i (noPart L) u (HLN.out.keep q (fun _ _ h => h)) HKL.out.symm (by omega))
      clear s0 s1 f0 HO HK
      obtain ⟨s0, s1⟩ := pair_cells HS9.out
      go_wp2_with fail
      go_loopw [16] (fun v wr => ∃ i : Nat, f ≤ i ∧ i ≤ nl + 1 + f ∧ v = .int .i64 (i : Int) ∧ Hid (Kept noBlock w10 wr)) (fun v _ => nl + 1 + f - (intOf v).toNat)
      case atStart => exact ⟨f, by omega, by omega, rfl, Kept.refl _ _⟩
      case round =>
        obtain ⟨i, hfi, hin, rfl, HK⟩ := hrel
        by_cases hle : i ≤ nl
        · have hdec : decide ((i : Int) ≤ (nl : Int)) = true := decide_eq_true (by omega)
          obtain ⟨w11, hw11⟩ : ∃ w11, w11 = wr := ⟨_, rfl⟩
          rw [← hw11] at HK ⊢
          have HPL := Lib.hid (noPart_plan (L := L) (f := f) (n := nl) (i := (i : Int)) (by omega))
          have FEW := Lib.hid (planV_few (L := noPart L) (f := f) (n := nl) (i := (i : Int)))
          have OI := Lib.hid (OF.out (i : Int) w11 HK.out)
          obtain ⟨P, hP⟩ : ∃ P, P = planV (noPart L) f nl i := ⟨_, rfl⟩
          rw [← hP] at OI HPL FEW
          obtain ⟨⟨o, ds, ps⟩, er⟩ := P
          obtain rfl : ps = [] := HPL.out.1
          have HRN : Hid (er = 0 → runTo (toV o) ds = i) := HPL.out.2
          simp only at FEW
          unfold plnv at OI
          simp only [List.length_nil] at OI
          obtain ⟨d1, hd1⟩ : ∃ d, d = ds.length := ⟨_, rfl⟩
          rw [← hd1] at OI FEW
          have hd1m : d1 ≤ k := by have := FEW.out.1; have := HKL.out; omega
          have HD1 := Lib.hid hd1
          obtain ⟨s0, s1⟩ := pair_cells (HK.out.blk HS9.out (fun h => h))
          clear hP hw11 hd1 HPL FEW
          go_wp2_with fail
          refine OI.out.mono ?_
          rintro e w12 ⟨p, A7, c7, A8, c8, rfl, hp, k12⟩
          have ka := Kept.alloc noBlock w12 (.cells #[.pointer p, .slice A7 d1 c7, .slice A8 0 c8] 31)
          have ha := heap_alloc_new w12 (.cells #[.pointer p, .slice A7 d1 c7, .slice A8 0 c8] 31)
          go_upto_region 21 with (fail)
          obtain ⟨X, hX⟩ : ∃ X, X = w12.heap.size := ⟨_, rfl⟩
          rw [← hX] at ha ⊢
          generalize w12.alloc (.cells #[.pointer p, .slice A7 d1 c7, .slice A8 0 c8] 31) = w13 at ka ha ⊢
          have K13 := Lib.hid (HK.out.step (k12.step ka))
          have HX13 := Lib.hid ha
          have hp7 := hp.keep ka
          have HPF := Lib.hid hp7.full
          have HL1 := Lib.hid hp7.lies1.1
          obtain ⟨q0, hq0⟩ : ∃ q0, q0 = toV o := ⟨_, rfl⟩
          have HQO := Lib.hid hq0
          rw [← hq0] at HRN
          clear s0 s1 k12 ka hp hp7 OI ha hX hq0
          obtain ⟨x0, x1, x2⟩ := tri_cells HX13.out
          go_upto_if 86 with (fail)
          go_cut [19] (fun x wc => x = .int .i64 q0 ∧ w13 = wc)
          case first =>
            cases o with
            | none =>
              obtain rfl : p = none := HPF.out
              go_wp2_with fail
              go_meet
              exact ⟨by rw [HQO.out]; rfl, rfl⟩
            | some r =>
              obtain ⟨C, rfl, _, hcc⟩ := HPF.out
              obtain ⟨e0, e1, e2, e3⟩ := ref_cells hcc
              clear hcc
              go_wp2_with fail
              go_meet
              exact ⟨by rw [HQO.out]; rfl, rfl⟩
          case rest =>
            obtain ⟨rfl, rfl⟩ := hcut
            go_wp2_with fail
            go_loopw [19, 95] (fun v ix wr => ∃ (j : Nat) (at_ : Int), j ≤ d1 ∧ v = .int .i64 at_ ∧ ix = .int .i64 (j : Int) ∧ Hid (runTo q0 (ds.take j) = at_) ∧ Hid (Kept noBlock w13 wr)) (fun _ ix _ => d1 - (intOf ix).toNat)
            case atStart => exact ⟨0, q0, by omega, rfl, rfl, rfl, Kept.refl _ _⟩
            case round =>
              obtain ⟨j, at_, hjd, rfl, rfl, HA, HK2⟩ := hrel
              by_cases hlt : j < d1
              · obtain ⟨x, hx⟩ : ∃ x, ds[j]? = some x := ⟨_, List.getElem?_eq_getElem (by have := HD1.out; omega)⟩
                obtain ⟨g, oo, rfl, _, cc⟩ := (HL1.out.keep HK2.out (fun _ _ h => h)).elem (enc := RefV.cells) ref_len (by omega) hx
                have e0 := cc 0 _ rfl
                have e1 := cc 1 _ rfl
                have e2 := cc 2 _ rfl
                have e3 := cc 3 _ rfl
                rw [Nat.add_zero] at e0
                have HA9 := Lib.hid (runTo_step (p := q0) hx)
                clear cc hx
                go_upto_region 27 with (fail)
                have k3 := Kept.alloc noBlock wr (.cells #[.string x.name, .int .i64 x.kind, .int .i64 x.from_, .int .i64 x.to_] 37)
                have b3 := heap_alloc_new wr (.cells #[.string x.name, .int .i64 x.kind, .int .i64 x.from_, .int .i64 x.to_] 37)
                generalize wr.alloc (.cells #[.string x.name, .int .i64 x.kind, .int .i64 x.from_, .int .i64 x.to_] 37) = w14 at k3 b3 ⊢
                obtain ⟨y0, y1, y2, y3⟩ := ref_cells b3
                have K14 := Lib.hid (HK2.out.step k3)
                clear e0 e1 e2 e3 k3 b3
                go_wp2
                go_roundw
                case rel => exact ⟨j + 1, x.to_, by omega, rfl, by go_num, HA9, K14⟩
                case measure => simp [intOf]; omega
              · obtain rfl : j = d1 := by omega
                have hA := HA.out
                rw [List.take_of_length_le (by have := HD1.out; omega)] at hA
                obtain ⟨x0, x1, x2⟩ := tri_cells (HK2.out.blk HX13.out (fun h => h))
                have KE := Lib.hid (K13.out.step HK2.out)
                by_cases he : er = 0
                · have hr := HRN.out he
                  rw [hA] at hr
                  subst hr
                  have hb1 : (er == 0) = true := by simpa using he
                  have hb2 : ((i : Int) != (i : Int)) = false := by simp
                  clear he hA HA HK2
                  go_wp2
                  go_roundw
                  case rel => exact ⟨i + 1, by omega, by omega, by go_num, KE⟩
                  case measure => simp [intOf]; omega
                · have hb1 : (er == 0) = false := by simpa using he
                  clear he hA HA HK2
                  go_wp2
                  go_roundw
                  case rel => exact ⟨i + 1, by omega, by omega, by go_num, KE⟩
                  case measure => simp [intOf]; omega
        · have KE := Lib.hid (K10.out.step HK.out)
          go_wp2
          go_ret
          exact ⟨rfl, KE.out⟩
end Go.Proofs.Ytollmkkbeeeccaa
