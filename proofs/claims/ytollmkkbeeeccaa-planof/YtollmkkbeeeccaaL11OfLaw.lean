/-
  The walk of PlanOf. No statement is proved here.
-/
import Derived.Test.YtollmkkbeeeccaaL11OfPl
namespace Go.Proofs.Ytollmkkbeeeccaa
open Go.RowKit Tot

set_option maxRecDepth 100000 in
set_option maxHeartbeats 2000000 in
theorem lof_walk (F : Nat → Prop) (A : Option Addr) (n c : Nat) (rs : List RfN) (fl la : UInt8) (ix : Int) (w : World) (h : Lies w F A (rfCells rs)) (hl : n = rs.length) (hnc : n ≤ c) (hc : c ≤ 9223372036854775807) (hix : -128 ≤ ix ∧ ix ≤ 127) :
    Calls Try.prog 3 #[.slice A n c, .int .u8 (fl.toNat : Int), .int .u8 (la.toNat : Int), .int .i8 ix] w fun e w' => e = .returned (.bool true) ∧ Kept noBlock w w' := by
  have AW := Lib.hid (awake_any w)
  have SE := Lib.hid (fun u (k : Kept noBlock w u) => set_any F A n c rs fl u (h.keep k (fun _ _ h => h)) hl hnc hc)
  obtain ⟨f, hf, _, hf12⟩ := rem_num fl 12 (by omega)
  obtain ⟨L, hL⟩ : ∃ L, L = setS rs := ⟨_, rfl⟩
  have hL14 : L.length ≤ 14 := by rw [hL]; exact setS_len rs
  rw [← hL, ← hf] at SE
  have hpos : ∀ r ∈ L, 0 ≤ r.to_ := fun r hr => by have := setS_good (rs := rs) (by rw [hL] at hr; exact hr); unfold RefV.May at this; omega
  obtain ⟨m, hm⟩ : ∃ m, m = L.length := ⟨_, rfl⟩
  rw [← hm] at SE hL14
  have HM := Lib.hid hm
  clear h hl hnc hc hf hL hm
  obtain ⟨nl, hnl, t1, hnl32⟩ := rem_num la 32 (by omega)
  have t1 : ((la.toNat : Int)).tmod 32 = (nl : Int) := t1
  obtain ⟨hx1, hx2⟩ := hix
  have HPOS := Lib.hid hpos
  clear hnl hpos
  go_enter Try.func3, Try.ntmps3
  go_wp2_with fail
  refine AW.out.mono ?_
  rintro e w1 ⟨rfl, k1⟩
  have K1 := Lib.hid k1
  clear k1 AW
  go_wp2_with fail
  refine (SE.out _ K1.out).mono ?_
  rintro e w2 ⟨A', c', rfl, o2, k2⟩
  have ka := Kept.alloc noBlock w2 (.cells #[.slice A' m c', .int .i64 (f : Int)] 27)
  have ha := heap_alloc_new w2 (.cells #[.slice A' m c', .int .i64 (f : Int)] 27)
  go_upto_region 5 with (fail)
  obtain ⟨S, hS⟩ : ∃ S, S = w2.heap.size := ⟨_, rfl⟩
  rw [← hS] at ha ⊢
  generalize w2.alloc (.cells #[.slice A' m c', .int .i64 (f : Int)] 27) = w3 at ka ha ⊢
  have K3 := Lib.hid (K1.out.step (k2.step ka))
  have HS3 := Lib.hid ha
  have HLI := Lib.hid ((Lies.of_rows (F := fun _ => True) o2 (fun _ _ => trivial)).keep ka (fun _ _ h => h))
  have HSW : Hid (w.heap.size ≤ S) := by unfold Hid; rw [hS]; exact (K1.out.step k2).size
  clear k2 ka ha o2 SE hS
  obtain ⟨s0, s1⟩ := pair_cells HS3.out
  have O1 := Lib.hid (ofs_any A' m c' f nl ix L w3 HLI.out HM.out.symm (by omega))
  have FU := Lib.hid (fun u (k : Kept noBlock w3 u) => lfl_any (fun _ => True) A' m c' f ix L u (HLI.out.keep k (fun _ _ h => h)) HM.out.symm (by omega))
  have LOD := Lib.hid (fun u (k : Kept noBlock w3 u) => lof_any (fun _ => True) A' m c' f 1 L u (HLI.out.keep k (fun _ _ h => h)) HM.out.symm (by omega))
  have LOP := Lib.hid (fun u (k : Kept noBlock w3 u) => lof_any (fun _ => True) A' m c' f 2 L u (HLI.out.keep k (fun _ _ h => h)) HM.out.symm (by omega))
  by_cases hout : ix < f ∨ nl < ix
  · rw [planV_out hout] at O1
    unfold plnv noPln at O1
    simp only [List.length_nil] at O1
    have HOUT := Lib.hid hout
    clear hout t1 FU LOD LOP
    go_wp2_with fail
    refine O1.out.mono ?_
    rintro e w6 ⟨p, A1, c1, A2, c2, rfl, hp, k6⟩
    obtain rfl : p = none := hp.full
    have ka := Kept.alloc noBlock w6 (.cells #[.pointer none, .slice A1 0 c1, .slice A2 0 c2] 31)
    have ha := heap_alloc_new w6 (.cells #[.pointer none, .slice A1 0 c1, .slice A2 0 c2] 31)
    go_upto_region 6 with (fail)
    obtain ⟨X, hX⟩ : ∃ X, X = w6.heap.size := ⟨_, rfl⟩
    rw [← hX] at ha ⊢
    generalize w6.alloc (.cells #[.pointer none, .slice A1 0 c1, .slice A2 0 c2] 31) = w7 at ka ha ⊢
    have K7 := Lib.hid (K3.out.step (k6.step ka))
    obtain ⟨x0, x1, x2⟩ := tri_cells ha
    obtain ⟨s0, s1⟩ := pair_cells ((k6.step ka).blk HS3.out (fun h => h))
    clear k6 ka ha hp O1 hX
    by_cases h1 : ix < f
    · go_wp2
      go_ret
      exact ⟨by first | rfl | simp, K7.out⟩
    · have h2 : (nl : Int) < ix := by rcases HOUT.out with h | h; exact absurd h h1; exact h
      go_wp2
      go_ret
      exact ⟨by first | rfl | simp, K7.out⟩
  · have h1 : ¬ ix < f := fun h => hout (.inl h)
    have h2 : ¬ (nl : Int) < ix := fun h => hout (.inr h)
    have HPI := Lib.hid (planV_in (L := L) hout)
    have FEW := Lib.hid (planV_few (L := L) (f := f) (n := nl) (i := ix))
    obtain ⟨P, hP⟩ : ∃ P, P = planV L f nl ix := ⟨_, rfl⟩
    rw [← hP] at O1 HPI FEW
    obtain ⟨⟨po, pd, pp⟩, er⟩ := P
    simp only at FEW
    unfold plnv at O1
    simp only at O1
    obtain ⟨d1, hd1⟩ : ∃ d, d = pd.length := ⟨_, rfl⟩
    obtain ⟨d2, hd2⟩ : ∃ d, d = pp.length := ⟨_, rfl⟩
    rw [← hd1, ← hd2] at O1 FEW
    have HD1 := Lib.hid hd1
    have HD2 := Lib.hid hd2
    obtain ⟨o, ho⟩ : ∃ o, o = fullV (ordK 0 L) ix := ⟨_, rfl⟩
    rw [← ho] at FU HPI
    obtain ⟨a0, ha0⟩ : ∃ a0, a0 = atB o := ⟨_, rfl⟩
    obtain ⟨bo, hbo⟩ : ∃ bo, bo = bestB o := ⟨_, rfl⟩
    obtain ⟨q0, hq0⟩ : ∃ q0, q0 = posF L ix := ⟨_, rfl⟩
    obtain ⟨hs, hhs⟩ : ∃ hs, hs = o.isSome := ⟨_, rfl⟩
    have hq0o : q0 = toV o := by rw [hq0, ho]; rfl
    have hor : ∀ r, o = some r → 0 ≤ r.to_ := fun r hr => HPOS.out r (mem_ordK.1 (fullV_le (by rw [← ho]; exact hr)).2).1
    have hsd : decide (0 ≤ a0) = hs := by
      rw [ha0, hhs]
      cases o with
      | none => rfl
      | some r => exact decide_eq_true (hor r rfl)
    have hmx : max a0 0 = q0 := by
      rw [ha0, hq0o]
      cases o with
      | none => rfl
      | some r =>
        have := hor r rfl
        show max r.to_ 0 = r.to_
        omega
    rw [← ha0, ← hbo] at FU
    have HA0 := Lib.hid ha0
    have HBO := Lib.hid hbo
    have HHS := Lib.hid hhs
    obtain ⟨qd, hqd⟩ : ∃ qd, qd = posD L ix := ⟨_, rfl⟩
    obtain ⟨qp, hqp⟩ : ∃ qp, qp = posP L nl ix := ⟨_, rfl⟩
    rw [← hqp, ← hqd] at HPI
    obtain ⟨es, hes⟩ : ∃ es, es = ordK 1 L := ⟨_, rfl⟩
    obtain ⟨pe, hpe⟩ : ∃ pe, pe = ordK 2 L := ⟨_, rfl⟩
    have HQD : Hid (dltV es q0 ix = qd) := by unfold Hid; rw [hqd, hq0, hes]; rfl
    have HQP : Hid (prtV pe qd.2 nl ix = qp) := by unfold Hid; rw [hqp, hqd, hpe]; rfl
    have HRI : Hid (Rises es) := by unfold Hid; rw [hes]; exact ordV_rises _
    have hel : es.length ≤ m := by rw [hes]; unfold ordK; rw [ordV_len]; have := ofK_len 1 L; have := HM.out; omega
    have hpl : pe.length ≤ m := by rw [hpe]; unfold ordK; rw [ordV_len]; have := ofK_len 2 L; have := HM.out; omega
    rw [← hes] at LOD
    rw [← hpe] at LOP
    obtain ⟨d, hd⟩ : ∃ d, d = es.length := ⟨_, rfl⟩
    obtain ⟨pn, hpn⟩ : ∃ pn, pn = pe.length := ⟨_, rfl⟩
    rw [← hd] at LOD hel
    rw [← hpn] at LOP hpl
    have HD := Lib.hid hd
    have HPN := Lib.hid hpn
    clear hP hout hd1 hd2 ho hbo ha0 hq0 hq0o hor hhs hqd hqp hes hpe hd hpn
    unfold RefV.val at FU
    go_wp2_with fail
    refine O1.out.mono ?_
    rintro e w6 ⟨p, A1, c1, A2, c2, rfl, hp, k6⟩
    have ka := Kept.alloc noBlock w6 (.cells #[.pointer p, .slice A1 d1 c1, .slice A2 d2 c2] 31)
    have ha := heap_alloc_new w6 (.cells #[.pointer p, .slice A1 d1 c1, .slice A2 d2 c2] 31)
    go_upto_region 6 with (fail)
    obtain ⟨X, hX⟩ : ∃ X, X = w6.heap.size := ⟨_, rfl⟩
    rw [← hX] at ha ⊢
    generalize w6.alloc (.cells #[.pointer p, .slice A1 d1 c1, .slice A2 d2 c2] 31) = w7 at ka ha ⊢
    have K7 := Lib.hid (k6.step ka)
    have HX7 := Lib.hid ha
    have HP7 := Lib.hid (hp.keep ka)
    obtain ⟨s0, s1⟩ := pair_cells (K7.out.blk HS3.out (fun h => h))
    clear k6 ka hp O1 ha hX t1
    go_wp2_with fail
    refine (FU.out _ K7.out).mono ?_
    rintro e w8 ⟨rfl, k8⟩
    have ka := Kept.alloc noBlock w8 (.cells #[.string bo.name, .int .i64 bo.kind, .int .i64 bo.from_, .int .i64 bo.to_] 37)
    have ha := heap_alloc_new w8 (.cells #[.string bo.name, .int .i64 bo.kind, .int .i64 bo.from_, .int .i64 bo.to_] 37)
    go_upto_region 9 with (fail)
    obtain ⟨Y, hY⟩ : ∃ Y, Y = w8.heap.size := ⟨_, rfl⟩
    rw [← hY] at ha ⊢
    generalize w8.alloc (.cells #[.string bo.name, .int .i64 bo.kind, .int .i64 bo.from_, .int .i64 bo.to_] 37) = w9 at ka ha ⊢
    have K9 := Lib.hid (K7.out.step (k8.step ka))
    have HX9 := Lib.hid ((k8.step ka).blk HX7.out (fun h => h))
    have HP9 := Lib.hid (HP7.out.keep (k8.step ka))
    have HY9 := Lib.hid ha
    clear k8 ka ha FU hY s0 s1 HX7 HP7
    go_upto_region 12 with (fail)
    clear hsd hmx
    go_loopw [17, 15] (fun v a wr => ∃ (k mm : Nat) (at_ : Int) (ds : List RefV) (A5 : Option Addr) (c5 : Nat), k ≤ d ∧ mm ≤ d ∧ k ≤ c5 ∧ v = .slice A5 k c5 ∧ a = .int .i64 at_ ∧ Hid (DlL es q0 ix ds at_ mm) ∧ Hid (k = ds.length) ∧ Hid (wr.ownsRow w9.heap.size 37 4 (.slice A5 k c5) k (refCells ds)) ∧ Hid (Kept noBlock w9 wr)) (fun _ a _ => (ix - intOf a).toNat)
    case atStart => exact ⟨0, 0, q0, [], none, 0, by omega, by omega, by omega, rfl, rfl, DlL.start _ _ _, rfl, World.ownsRow_nil _ _ _ _, Kept.refl _ _⟩
    case round =>
      obtain ⟨k, mm, at_, ds, A5, c5, hkd, hmm, hkc, rfl, rfl, HDL, HKL, HO, HK⟩ := hrel
      obtain ⟨w10, hw10⟩ : ∃ w10, w10 = wr := ⟨_, rfl⟩
      rw [← hw10] at HO HK ⊢
      obtain ⟨s0, s1⟩ := pair_cells ((K9.out.step HK.out).blk HS3.out (fun h => h))
      have LD1 := Lib.hid (LOD.out w10 (K9.out.step HK.out))
      clear hw10
      go_wp2_with fail
      refine LD1.out.mono ?_
      rintro e w11 ⟨A6, c6, rfl, o11, k11⟩
      have HLE := Lib.hid (Lies.of_rows (F := fun i => w10.heap.size ≤ i) o11 (fun i hi => (o11.lt i hi).1))
      have HAP : Hid (∀ i, (Value.slice A5 k c5).ownBlock = some i → i < w10.heap.size) := fun i hi => (HO.out.lt i hi).2
      have K11 := Lib.hid (HK.out.step k11)
      have O11 := Lib.hid (own_keep HO.out k11 (fun _ _ h => h))
      have hdc6 : d ≤ c6 := by
        obtain ⟨_, _, e9, hle9⟩ := own_form o11
        injection e9 with _ _ e9
        omega
      clear s0 s1 LD1 o11 k11 HO HK
      go_upto_region 15 with (fail)
      go_loopw [19, 21] (fun nx kv wr => ∃ (kk : Nat) (u : Option Nat), kk ≤ d ∧ nx = .int .i64 (plcI u) ∧ kv = .int .i64 ((kk : Int) - 1) ∧ Hid (FstD es ix at_ kk u) ∧ Hid (Kept noBlock w11 wr)) (fun _ kv _ => (intOf kv + 1).toNat)
      case atStart => exact ⟨d, none, Nat.le_refl _, rfl, rfl, fun t x ht hx => by have := (List.getElem?_eq_some_iff.1 hx).1; have := HD.out; omega, Kept.refl _ _⟩
      case round =>
        obtain ⟨kk, u, hkkd, rfl, rfl, HFD, HK2⟩ := hrel
        cases kk with
        | succ r =>
          have hq1 : ((r + 1 : Nat) : Int) - 1 = (r : Int) := by omega
          rw [hq1]
          obtain ⟨x, hx⟩ : ∃ x, es[r]? = some x := ⟨_, List.getElem?_eq_getElem (by have := HD.out; omega)⟩
          obtain ⟨g, oo, rfl, _, cc⟩ := (HLE.out.keep HK2.out (fun _ _ h => h)).elem (enc := RefV.cells) ref_len (by omega) hx
          have e2 := cc 2 _ rfl
          have e3 := cc 3 _ rfl
          have hr0 : (0 : Int) ≤ (r : Int) := by omega
          have hrd : r < d := by omega
          obtain ⟨gc, hgc⟩ : ∃ gc : Bool, gc = decide (condD ix at_ x) := ⟨_, rfl⟩
          have HGC := Lib.hid hgc
          have HX := Lib.hid hx
          obtain ⟨w12, hw12⟩ : ∃ w12, w12 = wr := ⟨_, rfl⟩
          rw [← hw12] at HK2 e2 e3 ⊢
          clear hx cc hgc hw12 hq1
          go_upto_region 17 with (fail)
          go_cut [114] (fun y wc => y = .bool gc ∧ w12 = wc)
          case first =>
            have hgv := HGC.out
            unfold condD at hgv
            by_cases c1 : x.from_ = at_
            · have cb1 : (x.from_ == at_) = true := by simpa using c1
              by_cases c2 : at_ < x.to_
              · by_cases c3 : x.to_ ≤ ix
                · have hgt : gc = true := by rw [hgv]; exact decide_eq_true ⟨c1, c2, c3⟩
                  subst hgt
                  clear hgv c1
                  go_wp2_with fail
                  go_meet
                  exact ⟨by first | rfl | simp, rfl⟩
                · have hgt : gc = false := by rw [hgv]; exact decide_eq_false (fun h => c3 h.2.2)
                  subst hgt
                  clear hgv c1
                  go_wp2_with fail
                  go_meet
                  exact ⟨by first | rfl | simp, rfl⟩
              · have hgt : gc = false := by rw [hgv]; exact decide_eq_false (fun h => c2 h.2.1)
                subst hgt
                clear hgv c1
                go_wp2_with fail
                go_meet
                exact ⟨by first | rfl | simp, rfl⟩
            · have cb1 : (x.from_ == at_) = false := by simpa using c1
              have hgt : gc = false := by rw [hgv]; exact decide_eq_false (fun h => c1 h.1)
              subst hgt
              clear hgv c1
              go_wp2_with fail
              go_meet
              exact ⟨by first | rfl | simp, rfl⟩
          case rest =>
            obtain ⟨rfl, rfl⟩ := hcut
            cases gc with
            | true =>
              have HF9 : Hid (FstD es ix at_ r (some r)) := FstD.yes HX.out (of_decide_eq_true HGC.out.symm)
              clear e2 e3
              go_wp2
              go_roundw
              case rel => exact ⟨r, some r, by omega, rfl, rfl, HF9, HK2⟩
              case measure => simp [intOf]
            | false =>
              have HF9 : Hid (FstD es ix at_ r u) := FstD.no HX.out (of_decide_eq_false HGC.out.symm) HFD.out
              clear e2 e3
              go_wp2
              go_roundw
              case rel => exact ⟨r, u, by omega, rfl, rfl, HF9, HK2⟩
              case measure => simp [intOf]
        | zero =>
          obtain ⟨w12, hw12⟩ : ∃ w12, w12 = wr := ⟨_, rfl⟩
          rw [← hw12] at HK2 ⊢
          clear hw12
          have K12 := Lib.hid (K11.out.step HK2.out)
          have O12 := Lib.hid (own_keep O11.out HK2.out (fun _ _ h => h))
          have HLE2 := Lib.hid (HLE.out.keep HK2.out (fun _ _ h => h))
          cases u with
          | some u =>
            obtain ⟨_, ⟨x, hx, hc⟩, hlt⟩ := HFD.out
            obtain ⟨hdl9, hmm9⟩ := HDL.out.next HRI.out hx hc (fun t y ht hy => hlt t y (Nat.zero_le _) ht hy)
            have hud : u < d := by have := (List.getElem?_eq_some_iff.1 hx).1; have := HD.out; omega
            have hk9 : k + 1 ≤ d := by have := hdl9.len; rw [List.length_append, List.length_singleton] at this; have := HKL.out; have := HD.out; omega
            have hto1 : at_ < x.to_ := hc.2.1
            have hto2 : x.to_ ≤ ix := hc.2.2
            have HDL9 := Lib.hid hdl9
            obtain ⟨g, oo, rfl, hgw, _⟩ := HLE2.out.elem (enc := RefV.cells) ref_len (by omega) hx
            have CE : Hid (∀ v, Kept noBlock w12 v → v.cell? ⟨g, oo + u * 4, none⟩ = some (.string x.name) ∧ v.cell? ⟨g, oo + u * 4 + 1, none⟩ = some (.int .i64 x.kind) ∧ v.cell? ⟨g, oo + u * 4 + 2, none⟩ = some (.int .i64 x.from_) ∧ v.cell? ⟨g, oo + u * 4 + 3, none⟩ = some (.int .i64 x.to_)) := fun v kv => by
              obtain ⟨g', o', e, _, cc⟩ := (HLE2.out.keep kv (fun _ _ h => h)).elem (enc := RefV.cells) ref_len (by omega) hx
              injection e with e
              injection e with e1 e2
              subst e1; subst e2
              exact ⟨cc 0 _ rfl, cc 1 _ rfl, cc 2 _ rfl, cc 3 _ rfl⟩
            have KC : Hid (Kept noBlock w12 w12.drew) := Kept.drew _ _
            have hu0 : ¬ ((u : Int) < 0) := by omega
            clear hx hc hlt hdl9
            unfold plcI
            simp only
            go_upto_region 20 with (fail)
            refine wp_region_noPanic ?_
            refine wp_region_held_drew (S := fun v => v.cell? ⟨g, oo + u * 4, none⟩ = some (.string x.name) ∧ v.cell? ⟨g, oo + u * 4 + 1, none⟩ = some (.int .i64 x.kind) ∧ v.cell? ⟨g, oo + u * 4 + 2, none⟩ = some (.int .i64 x.from_) ∧ v.cell? ⟨g, oo + u * 4 + 3, none⟩ = some (.int .i64 x.to_)) (by kernel_rfl) (CE.out _ KC.out) (fun hHeld => ?_)
            refine wpAnyH_take (i := 0) (oi := ⟨some 118, Op.move (Operand.tmp 17), 25, _, _, none⟩) (v := ?v0n1k1) rfl (by kernel_rfl) (by kernel_rfl) (by kernel_rfl) (fun _ _ _ h => h) (Or.inl ⟨by rfl, ?y0n1k1⟩) hHeld ?z0n1k1
            case y0n1k1 => intro w hSw; (try dsimp only at hSw); go_simp <;> rfl
            try simp only [Act.put, List.setIfInBounds_toArray, List.set_cons_zero, List.set_cons_succ]
            refine wpAnyH_take (i := 1) (oi := ⟨some 119, Op.move (Operand.tmp 20), 25, _, _, none⟩) (v := ?v1n1k2) rfl (by kernel_rfl) (by kernel_rfl) (by kernel_rfl) (fun _ _ _ h => h) (Or.inl ⟨by rfl, ?y1n1k2⟩) hHeld ?z1n1k2
            case y1n1k2 => intro w hSw; (try dsimp only at hSw); go_simp <;> rfl
            try simp only [Act.put, List.setIfInBounds_toArray, List.set_cons_zero, List.set_cons_succ]
            refine wpAnyH_take (i := 2) (oi := ⟨some 120, Op.move (Operand.tmp 19), 3, _, _, none⟩) (v := ?v2n1k3) rfl (by kernel_rfl) (by kernel_rfl) (by kernel_rfl) (fun _ _ _ h => h) (Or.inl ⟨by rfl, ?y2n1k3⟩) hHeld ?z2n1k3
            case y2n1k3 => intro w hSw; (try dsimp only at hSw); go_simp <;> rfl
            try simp only [Act.put, List.setIfInBounds_toArray, List.set_cons_zero, List.set_cons_succ]
            refine wpAnyH_take (i := 3) (oi := ⟨some 121, Op.indexAddr 25 (Operand.tmp 119) (Operand.tmp 120), 0, _, _, none⟩) (v := ?v3n1k4) rfl (by kernel_rfl) (by kernel_rfl) (by kernel_rfl) (fun _ _ _ h => h) (Or.inl ⟨by rfl, ?y3n1k4⟩) hHeld ?z3n1k4
            case y3n1k4 => intro w hSw; (try dsimp only at hSw); go_simp <;> rfl
            try simp only [Act.put, List.setIfInBounds_toArray, List.set_cons_zero, List.set_cons_succ]
            refine wpAnyH_take (i := 4) (oi := ⟨some 122, Op.load 37 (Operand.tmp 121), 37, _, _, none⟩) (v := ?v4n1k5) rfl (by kernel_rfl) (by kernel_rfl) (by kernel_rfl) (fun _ _ _ h => h) (Or.inl ⟨by rfl, ?y4n1k5⟩) hHeld ?z4n1k5
            case y4n1k5 => intro w hSw; (try dsimp only at hSw); go_simp <;> rfl
            try simp only [Act.put, List.setIfInBounds_toArray, List.set_cons_zero, List.set_cons_succ]
            refine wpAnyH_take (i := 7) (oi := ⟨some 125, Op.move (Operand.tmp 20), 25, _, _, none⟩) (v := ?v7n1k6) rfl (by kernel_rfl) (by kernel_rfl) (by kernel_rfl) (fun _ _ _ h => h) (Or.inl ⟨by rfl, ?y7n1k6⟩) hHeld ?z7n1k6
            case y7n1k6 => intro w hSw; (try dsimp only at hSw); go_simp <;> rfl
            try simp only [Act.put, List.setIfInBounds_toArray, List.set_cons_zero, List.set_cons_succ]
            refine wpAnyH_take (i := 8) (oi := ⟨some 126, Op.move (Operand.tmp 19), 3, _, _, none⟩) (v := ?v8n1k7) rfl (by kernel_rfl) (by kernel_rfl) (by kernel_rfl) (fun _ _ _ h => h) (Or.inl ⟨by rfl, ?y8n1k7⟩) hHeld ?z8n1k7
            case y8n1k7 => intro w hSw; (try dsimp only at hSw); go_simp <;> rfl
            try simp only [Act.put, List.setIfInBounds_toArray, List.set_cons_zero, List.set_cons_succ]
            refine wpAnyH_take (i := 9) (oi := ⟨some 127, Op.indexAddr 25 (Operand.tmp 125) (Operand.tmp 126), 0, _, _, none⟩) (v := ?v9n1k8) rfl (by kernel_rfl) (by kernel_rfl) (by kernel_rfl) (fun _ _ _ h => h) (Or.inl ⟨by rfl, ?y9n1k8⟩) hHeld ?z9n1k8
            case y9n1k8 => intro w hSw; (try dsimp only at hSw); go_simp <;> rfl
            try simp only [Act.put, List.setIfInBounds_toArray, List.set_cons_zero, List.set_cons_succ]
            refine wpAnyH_take (i := 10) (oi := ⟨some 128, Op.fieldAddr 37 (Operand.tmp 127) 3, 0, _, _, none⟩) (v := ?v10n1k9) rfl (by kernel_rfl) (by kernel_rfl) (by kernel_rfl) (fun _ _ _ h => h) (Or.inl ⟨by rfl, ?y10n1k9⟩) hHeld ?z10n1k9
            case y10n1k9 => intro w hSw; (try dsimp only at hSw); go_simp <;> rfl
            try simp only [Act.put, List.setIfInBounds_toArray, List.set_cons_zero, List.set_cons_succ]
            refine wpAnyH_take (i := 11) (oi := ⟨some 129, Op.load 3 (Operand.tmp 128), 3, _, _, none⟩) (v := ?v11n1k10) rfl (by kernel_rfl) (by kernel_rfl) (by kernel_rfl) (fun _ _ _ h => h) (Or.inl ⟨by rfl, ?y11n1k10⟩) hHeld ?z11n1k10
            case y11n1k10 => intro w hSw; (try dsimp only at hSw); go_simp <;> rfl
            try simp only [Act.put, List.setIfInBounds_toArray, List.set_cons_zero, List.set_cons_succ]
            refine wpAnyH_ready (rs := [5]) (by kernel_rfl) (by simp) ?_
            refine AllReadyH.cons (o := ⟨some 123, Op.buildSlice 25 1 #[(0, Operand.tmp 122)], 25, _, _, none⟩) rfl (fun K hK => ?_) AllReadyH.nil
            refine step_oneR x rfl ?_
            intro B8 u8 k8 h8 hB8
            have HB8 := Lib.hid h8
            replace KC := Lib.hid (KC.out.step k8)
            clear k8 h8 hB8
            refine hK.out _ _ (CE.out _ KC.out) (fun hHeld => ?_)
            clear hK K
            try simp only [Act.put, List.setIfInBounds_toArray, List.set_cons_zero, List.set_cons_succ]
            refine wpAnyH_ready (rs := [6]) (by kernel_rfl) (by simp) ?_
            refine AllReadyH.cons (o := ⟨some 124, Op.call { callee := Callee.builtin Builtin.append, args := #[Operand.tmp 118, Operand.tmp 123], argTypes := #[25, 25] }, 25, _, _, none⟩) rfl (fun K hK => ?_) AllReadyH.nil
            have CEN : Hid (∀ v, Kept (fun i => (Value.slice A5 k c5).ownBlock = some i) w12 v → v.cell? ⟨g, oo + u * 4, none⟩ = some (.string x.name) ∧ v.cell? ⟨g, oo + u * 4 + 1, none⟩ = some (.int .i64 x.kind) ∧ v.cell? ⟨g, oo + u * 4 + 2, none⟩ = some (.int .i64 x.from_) ∧ v.cell? ⟨g, oo + u * 4 + 3, none⟩ = some (.int .i64 x.to_)) := fun v kv => by
              obtain ⟨y0, y1, y2, y3⟩ := CE.out _ (Kept.refl _ _)
              have hne : ¬ (Value.slice A5 k c5).ownBlock = some g := fun e => by have := HAP.out g e; omega
              exact ⟨kv.cell y0 hne, kv.cell y1 hne, kv.cell y2 hne, kv.cell y3 hne⟩
            refine step_append_src rfl (.tmp 118) (.tmp 123) 25 25 rfl 37 noRef.val 4 40 Try.underlying25 Try.infoRef rfl (.slice A5 k c5) k (refCells ds) rfl (own_base (own_keep O12.out KC.out (fun _ _ h => h)) (fun _ _ => Nat.zero_le _)) _ 1 (refCells [x]) rfl (src_ref x HB8.out) (by unfold maxLen; omega) (by omega) ?_
            intro A9 c9 u9 o9 k9 a9
            have NX := Lib.hid (own_next (K12.out.step KC.out) (own_keep O12.out KC.out (fun _ _ h => h)) o9 k9 a9)
            have KW := Lib.hid (KC.out.to.step k9)
            have hc9 : k + 1 ≤ c9 := by
              obtain ⟨_, _, e9, hle9⟩ := own_form o9
              injection e9 with _ _ e9
              omega
            clear o9 k9 a9 KC
            refine hK.out _ _ (CEN.out _ KW.out) (fun hHeld => ?_)
            clear hK K
            try simp only [Act.put, List.setIfInBounds_toArray, List.set_cons_zero, List.set_cons_succ]
            refine wpAnyH_take (i := 12) (oi := ⟨some 17, Op.assign (Operand.tmp 124), 25, _, _, none⟩) (v := ?v12n1k11) rfl (by kernel_rfl) (by kernel_rfl) (by kernel_rfl) (fun _ _ _ h => h) (Or.inl ⟨by rfl, ?y12n1k11⟩) hHeld ?z12n1k11
            case y12n1k11 => intro w hSw; (try dsimp only at hSw); go_simp <;> rfl
            try simp only [Act.put, List.setIfInBounds_toArray, List.set_cons_zero, List.set_cons_succ]
            refine wpAnyH_take (i := 13) (oi := ⟨some 15, Op.assign (Operand.tmp 129), 3, _, _, none⟩) (v := ?v13n1k12) rfl (by kernel_rfl) (by kernel_rfl) (by kernel_rfl) (fun _ _ _ h => h) (Or.inl ⟨by rfl, ?y13n1k12⟩) hHeld ?z13n1k12
            case y13n1k12 => intro w hSw; (try dsimp only at hSw); go_simp <;> rfl
            try simp only [Act.put, List.setIfInBounds_toArray, List.set_cons_zero, List.set_cons_succ]
            refine wpAnyH_done (by kernel_rfl) ?_ _
            refine NoPanic.normal ?_
            clear hHeld
            have HKL9 : Hid (k + 1 = (ds ++ [x]).length) := by unfold Hid; rw [List.length_append, HKL.out]; rfl
            have HO9 : Hid (u9.ownsRow w9.heap.size 37 4 (.slice A9 (k + 1) c9) (k + 1) (refCells (ds ++ [x]))) := by unfold Hid; rw [refCells_append]; exact NX.out.1
            have KE := Lib.hid NX.out.2
            clear NX KW
            go_wp2
            go_roundw
            case rel => exact ⟨k + 1, u + 1, x.to_, ds ++ [x], A9, c9, by omega, by omega, hc9, rfl, rfl, HDL9, HKL9, HO9, KE⟩
            case measure => simp [intOf]; omega
          | none =>
            have hall := HDL.out.done (fun t y hy => HFD.out t y (Nat.zero_le _) hy)
            rw [HQD.out] at hall
            subst hall
            unfold plcI
            simp only at HQP HPI
            obtain ⟨s0, s1⟩ := pair_cells ((K9.out.step K12.out).blk HS3.out (fun h => h))
            have LP1 := Lib.hid (LOP.out w12 (K9.out.step K12.out))
            clear HDL HQD HFD
            go_wp2_with fail
            refine LP1.out.mono ?_
            rintro e w13 ⟨A7, c7, rfl, o13, k13⟩
            have HLP := Lib.hid (Lies.of_rows (F := fun _ => True) o13 (fun _ _ => trivial))
            have K13 := Lib.hid (K9.out.step (K12.out.step k13))
            have LDS := Lib.hid ((Lies.of_rows (F := fun _ => True) O12.out (fun _ _ => trivial)).keep k13 (fun _ _ h => h))
            have HX13 := Lib.hid ((K12.out.step k13).blk HX9.out (fun h => h))
            have HY13 := Lib.hid ((K12.out.step k13).blk HY9.out (fun h => h))
            have HP13 := Lib.hid (HP9.out.keep (K12.out.step k13))
            clear s0 s1 LP1 o13 k13 O12 O11 HK2 K12 K11
            have HEL : Hid ((endsV nl pe).length = pn) := by unfold Hid; rw [endsV_len, HPN.out]
            go_wp2_with fail
            go_loopw [18, 15, 134] (fun v a ixv wr => ∃ (j k2 : Nat) (at2 : Int) (ps : List RefV) (A5' : Option Addr) (c5' : Nat), j ≤ pn ∧ k2 ≤ j ∧ k2 ≤ c5' ∧ v = .slice A5' k2 c5' ∧ a = .int .i64 at2 ∧ ixv = .int .i64 (j : Int) ∧ Hid (((endsV nl pe).take j).foldl (prtS ix) ([], at_) = (ps, at2)) ∧ Hid (k2 = ps.length) ∧ Hid (wr.ownsRow w13.heap.size 37 4 (.slice A5' k2 c5') k2 (refCells ps)) ∧ Hid (Kept noBlock w13 wr)) (fun _ _ ixv _ => pn - (intOf ixv).toNat)
            case atStart => exact ⟨0, 0, at_, [], none, 0, by omega, by omega, by omega, rfl, rfl, rfl, rfl, rfl, World.ownsRow_nil _ _ _ _, Kept.refl _ _⟩
            case round =>
              obtain ⟨j, k2, at2, ps, A8, c8, hjp, hk2j, hk2c, rfl, rfl, rfl, HF, HKL2, HO2, HK3⟩ := hrel
              by_cases hlt : j < pn
              · obtain ⟨x, hx⟩ : ∃ x, pe[j]? = some x := ⟨_, List.getElem?_eq_getElem (by have := HPN.out; omega)⟩
                obtain ⟨g, oo, rfl, _, cc⟩ := (HLP.out.keep HK3.out (fun _ _ h => h)).elem (enc := RefV.cells) ref_len (by omega) hx
                have e0 := cc 0 _ rfl
                have e1 := cc 1 _ rfl
                have e2 := cc 2 _ rfl
                have e3 := cc 3 _ rfl
                rw [Nat.add_zero] at e0
                obtain ⟨en, hen⟩ : ∃ en, en = if j + 1 = pe.length then max x.to_ nl else x.to_ := ⟨_, rfl⟩
                have hat := endsV_at nl pe j x hx
                rw [← hen] at hat
                have ST := Lib.hid (fold_step (prtS ix) ([], at_) hat)
                clear hx cc hat
                go_upto_region 25 with (fail)
                have k3 := Kept.alloc noBlock wr (.cells #[.string x.name, .int .i64 x.kind, .int .i64 x.from_, .int .i64 x.to_] 37)
                have b3 := heap_alloc_new wr (.cells #[.string x.name, .int .i64 x.kind, .int .i64 x.from_, .int .i64 x.to_] 37)
                generalize wr.alloc (.cells #[.string x.name, .int .i64 x.kind, .int .i64 x.from_, .int .i64 x.to_] 37) = w14 at k3 b3 ⊢
                obtain ⟨y0, y1, y2, y3⟩ := ref_cells b3
                have K14 := Lib.hid (HK3.out.step k3)
                have O14 := Lib.hid (own_keep HO2.out k3 (fun _ _ h => h))
                clear e0 e1 e2 e3 k3 b3 HO2 HK3
                obtain ⟨gt, hgt⟩ : ∃ gt : Bool, gt = decide (j + 1 = pn ∧ x.to_ < nl) := ⟨_, rfl⟩
                have HGT := Lib.hid hgt
                have HEN : Hid (en = if gt = true then (nl : Int) else x.to_) := by
                  unfold Hid
                  rw [hen, HGT.out, HPN.out]
                  by_cases h3 : j + 1 = pe.length
                  · rw [if_pos h3]
                    by_cases h4 : x.to_ < nl
                    · rw [if_pos (decide_eq_true ⟨h3, h4⟩)]; omega
                    · rw [if_neg (fun h => h4 (of_decide_eq_true h).2)]; omega
                  · rw [if_neg h3, if_neg (fun h => h3 (of_decide_eq_true h).1)]
                obtain ⟨w14, hw14⟩ : ∃ w, w = w14 := ⟨_, rfl⟩
                rw [← hw14] at y0 y1 y2 y3 K14 O14 ⊢
                clear hen hgt hw14
                go_upto_region 26 with (fail)
                go_cut [150] (fun y wc => y = .bool gt ∧ w14 = wc)
                case first =>
                  have hgv := HGT.out
                  by_cases h3 : j + 1 = pn
                  · have hjb : ((j : Int) == (pn : Int) - 1) = true := by simpa using (by omega : (j : Int) = (pn : Int) - 1)
                    have hgv2 : gt = decide (x.to_ < nl) := by rw [hgv]; simp [h3]
                    clear h3 hgv
                    by_cases h4 : x.to_ < nl
                    · have hgt : gt = true := by rw [hgv2]; exact decide_eq_true h4
                      subst hgt
                      clear hgv2
                      go_wp2_with fail
                      go_meet
                      exact ⟨by first | rfl | simp, rfl⟩
                    · have hgt : gt = false := by rw [hgv2]; exact decide_eq_false h4
                      subst hgt
                      clear hgv2
                      go_wp2_with fail
                      go_meet
                      exact ⟨by first | rfl | simp, rfl⟩
                  · have hjb : ((j : Int) == (pn : Int) - 1) = false := by simpa using (by omega : (j : Int) ≠ (pn : Int) - 1)
                    have hgt : gt = false := by rw [hgv]; simp [h3]
                    subst hgt
                    clear h3 hgv
                    go_wp2_with fail
                    go_meet
                    exact ⟨by first | rfl | simp, rfl⟩
                case rest =>
                 obtain ⟨rfl, rfl⟩ := hcut
                 go_upto_if 150 with (fail)
                 go_cut [25] (fun y wc => y = .int .i64 en ∧ w14 = wc)
                 case first =>
                  cases gt with
                  | true =>
                    have hev : Hid (en = (nl : Int)) := HEN.out
                    go_wp2_with fail
                    go_meet
                    exact ⟨by rw [hev.out], rfl⟩
                  | false =>
                    have hev : Hid (en = x.to_) := HEN.out
                    go_wp2_with fail
                    go_meet
                    exact ⟨by rw [hev.out], rfl⟩
                 case rest =>
                  obtain ⟨rfl, rfl⟩ := hcut
                  clear HEN
                  obtain ⟨gp, hgp⟩ : ∃ gp : Bool, gp = decide (at2 < ix ∧ x.from_ ≤ at2 ∧ at2 < en) := ⟨_, rfl⟩
                  have HGP := Lib.hid hgp
                  clear hgp
                  go_upto_region 28 with (fail)
                  go_cut [165] (fun y wc => y = .bool gp ∧ w14 = wc)
                  case first =>
                    have hgv := HGP.out
                    by_cases c1 : at2 < ix
                    · by_cases c2 : x.from_ ≤ at2
                      · by_cases c3 : at2 < en
                        · have hgt : gp = true := by rw [hgv]; exact decide_eq_true ⟨c1, c2, c3⟩
                          subst hgt
                          clear hgv
                          go_wp2_with fail
                          go_meet
                          exact ⟨by first | rfl | simp, rfl⟩
                        · have hgt : gp = false := by rw [hgv]; exact decide_eq_false (fun h => c3 h.2.2)
                          subst hgt
                          clear hgv
                          go_wp2_with fail
                          go_meet
                          exact ⟨by first | rfl | simp, rfl⟩
                      · have hgt : gp = false := by rw [hgv]; exact decide_eq_false (fun h => c2 h.2.1)
                        subst hgt
                        clear hgv
                        go_wp2_with fail
                        go_meet
                        exact ⟨by first | rfl | simp, rfl⟩
                    · have hgt : gp = false := by rw [hgv]; exact decide_eq_false (fun h => c1 h.1)
                      subst hgt
                      clear hgv
                      go_wp2_with fail
                      go_meet
                      exact ⟨by first | rfl | simp, rfl⟩
                  case rest =>
                    obtain ⟨rfl, rfl⟩ := hcut
                    cases gp with
                    | false =>
                      have hno := of_decide_eq_false HGP.out.symm
                      have HF9 : Hid (((endsV nl pe).take (j + 1)).foldl (prtS ix) ([], at_) = (ps, at2)) := by
                        unfold Hid
                        rw [ST.out, HF.out]
                        exact if_neg hno
                      clear hno ST HF
                      go_wp2
                      go_roundw
                      case rel => exact ⟨j + 1, k2, at2, ps, A8, c8, by omega, by omega, hk2c, rfl, rfl, by go_num, HF9, HKL2, O14, K14⟩
                      case measure => simp [intOf]; omega
                    | true =>
                      have hye := of_decide_eq_true HGP.out.symm
                      have HF9 : Hid (((endsV nl pe).take (j + 1)).foldl (prtS ix) ([], at_) = (ps ++ [x], en)) := by
                        unfold Hid
                        rw [ST.out, HF.out]
                        exact if_pos hye
                      clear hye ST HF
                      go_wp2_with (at_builtin; refine wpList_append_src rfl _ _ 25 25 rfl 37 noRef.val 4 40 Try.underlying25 Try.infoRef rfl (.slice A8 k2 c8) k2 (refCells ps) rfl (own_base (own_keep O14.out (Kept.alloc noBlock _ _) (fun _ _ h => h)) (fun _ _ => Nat.zero_le _)) _ 1 (refCells [x]) rfl (src_ref x (heap_alloc_new _ _)) ?c3 ?c4 ?_)
                      case c3 => unfold maxLen; omega
                      case c4 => omega
                      intro A9 c9 u9 o9 k9 a9
                      have ka := Kept.alloc noBlock w14 (.cells #[.string x.name, .int .i64 x.kind, .int .i64 x.from_, .int .i64 x.to_] 37)
                      have NX := Lib.hid (own_next (K14.out.step ka) (own_keep O14.out ka (fun _ _ h => h)) o9 k9 a9)
                      have hc9 : k2 + 1 ≤ c9 := by
                        obtain ⟨_, _, e9, hle9⟩ := own_form o9
                        injection e9 with _ _ e9
                        omega
                      have HKL9 : Hid (k2 + 1 = (ps ++ [x]).length) := by unfold Hid; rw [List.length_append, HKL2.out]; rfl
                      have HO9 : Hid (u9.ownsRow w13.heap.size 37 4 (.slice A9 (k2 + 1) c9) (k2 + 1) (refCells (ps ++ [x]))) := by unfold Hid; rw [refCells_append]; exact NX.out.1
                      have KE := Lib.hid NX.out.2
                      clear y0 y1 y2 y3 o9 k9 a9 ka NX O14 K14
                      go_wp2
                      go_roundw
                      case rel => exact ⟨j + 1, k2 + 1, en, ps ++ [x], A9, c9, by omega, by omega, hc9, rfl, rfl, by go_num, HF9, HKL9, HO9, KE⟩
                      case measure => simp [intOf]; omega
              · obtain rfl : j = pn := by omega
                have hf := HF.out
                rw [List.take_of_length_le (by have := HEL.out; omega)] at hf
                have hqp : prtV pe at_ nl ix = (ps, at2) := hf
                rw [HQP.out] at hqp
                subst hqp
                simp only at HPI
                obtain ⟨w15, hw15⟩ : ∃ w15, w15 = wr := ⟨_, rfl⟩
                rw [← hw15] at HO2 HK3 ⊢
                have HX15 := Lib.hid (HK3.out.blk HX13.out (fun h => h))
                have HY15 := Lib.hid (HK3.out.blk HY13.out (fun h => h))
                have HP15 := Lib.hid (HP13.out.keep HK3.out)
                have LDS15 := Lib.hid (LDS.out.keep HK3.out (fun _ _ h => h))
                have LPS15 := Lib.hid (Lies.of_rows (F := fun _ => True) HO2.out (fun _ _ => trivial))
                have K15 := Lib.hid (K3.out.step (K13.out.step HK3.out))
                clear hf hw15 HF HK3 HO2 HX13 HY13 HP13 LDS
                by_cases hlt2 : at2 < ix
                · have hpl := HPI.out.1 (by omega)
                  simp only [noPln, Prod.mk.injEq, PlnV.mk.injEq] at hpl
                  obtain ⟨⟨rfl, rfl, rfl⟩, rfl⟩ := hpl
                  obtain rfl : d1 = 0 := HD1.out
                  obtain rfl : p = none := HP15.out.full
                  obtain ⟨x0, x1, x2⟩ := tri_cells HX15.out
                  go_wp2
                  go_ret
                  exact ⟨by first | rfl | simp, K15.out⟩
                · have hpl := HPI.out.2 (by omega)
                  simp only [Prod.mk.injEq, PlnV.mk.injEq] at hpl
                  obtain ⟨⟨hpo, rfl, rfl⟩, rfl⟩ := hpl
                  have hpf := HP15.out.full
                  simp only at hpf
                  rw [hpo] at hpf
                  have hk1 : d1 = k := by have := HD1.out; have := HKL.out; omega
                  have hk2 : d2 = k2 := by have := HD2.out; have := HKL2.out; omega
                  subst hk1
                  subst hk2
                  have R1 := Lib.hid (fun u (q : Kept noBlock w15 u) => refs_any (fun _ => True) (fun _ => True) A1 A5 d1 c1 d1 c5 pd pd u (HP15.out.lies1.1.keep q (fun _ _ h => h)) (LDS15.out.keep q (fun _ _ h => h)) HD1.out.symm HD1.out.symm (by omega) (by have := HP15.out.lies1.2; simp only at this; have := HD1.out; omega) hkc)
                  have R2 := Lib.hid (fun u (q : Kept noBlock w15 u) => refs_any (fun _ => True) (fun _ => True) A2 A8 d2 c2 d2 c8 pp pp u (HP15.out.lies2.1.keep q (fun _ _ h => h)) (LPS15.out.keep q (fun _ _ h => h)) HD2.out.symm HD2.out.symm (by omega) (by have := HP15.out.lies2.2; simp only at this; have := HD2.out; omega) hk2c)
                  rw [decide_eq_true rfl] at R1 R2
                  have HPF := Lib.hid hpf
                  clear hpf hpo HPI HP15
                  cases o with
                  | none =>
                    obtain rfl : p = none := HPF.out
                    obtain rfl : hs = false := HHS.out
                    have CE : Hid (∀ u, Kept noBlock w15 u → u.cell? ⟨X, 0, none⟩ = some (.pointer none) ∧ u.cell? ⟨X, 1, none⟩ = some (.slice A1 d1 c1) ∧ u.cell? ⟨X, 2, none⟩ = some (.slice A2 d2 c2)) := fun u ku => tri_cells (ku.blk HX15.out (fun h => h))
                    have KC : Hid (Kept noBlock w15 w15.drew) := Kept.drew _ _
                    go_upto_region 33 with (fail)
                    refine wp_region_noPanic ?_
                    refine wp_region_held_drew (S := fun u => u.cell? ⟨X, 0, none⟩ = some (.pointer none) ∧ u.cell? ⟨X, 1, none⟩ = some (.slice A1 d1 c1) ∧ u.cell? ⟨X, 2, none⟩ = some (.slice A2 d2 c2)) (by kernel_rfl) (CE.out _ KC.out) (fun hHeld => ?_)
                    refine wpAnyH_take (i := 0) (oi := ⟨some 188, Op.move (Operand.tmp 13), 32, _, _, none⟩) (v := ?v0n2k1) rfl (by kernel_rfl) (by kernel_rfl) (by kernel_rfl) (fun _ _ _ h => h) (Or.inl ⟨by rfl, ?y0n2k1⟩) hHeld ?z0n2k1
                    case y0n2k1 => intro w hSw; (try dsimp only at hSw); go_simp <;> rfl
                    try simp only [Act.put, List.setIfInBounds_toArray, List.set_cons_zero, List.set_cons_succ]
                    refine wpAnyH_take (i := 1) (oi := ⟨some 189, Op.binOp BinOp.eql 32 (Operand.tmp 188) (Operand.const (Value.int IntKind.i64 0)) 32, 4, _, _, none⟩) (v := ?v1n2k2) rfl (by kernel_rfl) (by kernel_rfl) (by kernel_rfl) (fun _ _ _ h => h) (Or.inl ⟨by rfl, ?y1n2k2⟩) hHeld ?z1n2k2
                    case y1n2k2 => intro w hSw; (try dsimp only at hSw); go_simp <;> rfl
                    try simp only [Act.put, List.setIfInBounds_toArray, List.set_cons_zero, List.set_cons_succ]
                    refine wpAnyH_take (i := 2) (oi := ⟨some 190, Op.move (Operand.tmp 189), 4, _, _, none⟩) (v := ?v2n2k3) rfl (by kernel_rfl) (by kernel_rfl) (by kernel_rfl) (fun _ _ _ h => h) (Or.inl ⟨by rfl, ?y2n2k3⟩) hHeld ?z2n2k3
                    case y2n2k3 => intro w hSw; (try dsimp only at hSw); go_simp <;> rfl
                    try simp only [Act.put, List.setIfInBounds_toArray, List.set_cons_zero, List.set_cons_succ]
                    refine wpAnyH_take (i := 3) (oi := ⟨some 191, Op.fieldAddr 31 (Operand.tmp 12) 0, 0, _, _, some (2, true)⟩) (v := ?v3n2k4) rfl (by kernel_rfl) (by kernel_rfl) (by kernel_rfl) (fun _ _ _ h => h) (Or.inl ⟨by rfl, ?y3n2k4⟩) hHeld ?z3n2k4
                    case y3n2k4 => intro w hSw; (try dsimp only at hSw); go_simp <;> rfl
                    try simp only [Act.put, List.setIfInBounds_toArray, List.set_cons_zero, List.set_cons_succ]
                    refine wpAnyH_take (i := 4) (oi := ⟨some 192, Op.load 29 (Operand.tmp 191), 29, _, _, some (2, true)⟩) (v := ?v4n2k5) rfl (by kernel_rfl) (by kernel_rfl) (by kernel_rfl) (fun _ _ _ h => h) (Or.inl ⟨by rfl, ?y4n2k5⟩) hHeld ?z4n2k5
                    case y4n2k5 => intro w hSw; (try dsimp only at hSw); go_simp <;> rfl
                    try simp only [Act.put, List.setIfInBounds_toArray, List.set_cons_zero, List.set_cons_succ]
                    refine wpAnyH_take (i := 5) (oi := ⟨some 193, Op.binOp BinOp.neq 29 (Operand.tmp 192) (Operand.const (Value.pointer none)) 29, 4, _, _, some (2, true)⟩) (v := ?v5n2k6) rfl (by kernel_rfl) (by kernel_rfl) (by kernel_rfl) (fun _ _ _ h => h) (Or.inl ⟨by rfl, ?y5n2k6⟩) hHeld ?z5n2k6
                    case y5n2k6 => intro w hSw; (try dsimp only at hSw); go_simp <;> rfl
                    try simp only [Act.put, List.setIfInBounds_toArray, List.set_cons_zero, List.set_cons_succ]
                    refine wpAnyH_take (i := 6) (oi := ⟨some 194, Op.move (Operand.tmp 16), 4, _, _, some (2, true)⟩) (v := ?v6n2k7) rfl (by kernel_rfl) (by kernel_rfl) (by kernel_rfl) (fun _ _ _ h => h) (Or.inl ⟨by rfl, ?y6n2k7⟩) hHeld ?z6n2k7
                    case y6n2k7 => intro w hSw; (try dsimp only at hSw); go_simp <;> rfl
                    try simp only [Act.put, List.setIfInBounds_toArray, List.set_cons_zero, List.set_cons_succ]
                    refine wpAnyH_take (i := 7) (oi := ⟨some 195, Op.binOp BinOp.eql 4 (Operand.tmp 193) (Operand.tmp 194) 4, 4, _, _, some (2, true)⟩) (v := ?v7n2k8) rfl (by kernel_rfl) (by kernel_rfl) (by kernel_rfl) (fun _ _ _ h => h) (Or.inl ⟨by rfl, ?y7n2k8⟩) hHeld ?z7n2k8
                    case y7n2k8 => intro w hSw; (try dsimp only at hSw); go_simp <;> rfl
                    try simp only [Act.put, List.setIfInBounds_toArray, List.set_cons_zero, List.set_cons_succ]
                    refine wpAnyH_take (i := 8) (oi := ⟨some 196, Op.pick (Operand.tmp 190) (Operand.tmp 195) (Operand.const (Value.bool false)), 4, _, _, none⟩) (v := ?v8n2k9) rfl (by kernel_rfl) (by kernel_rfl) (by kernel_rfl) (fun _ _ _ h => h) (Or.inl ⟨by rfl, ?y8n2k9⟩) hHeld ?z8n2k9
                    case y8n2k9 => intro w hSw; (try dsimp only at hSw); go_simp <;> rfl
                    try simp only [Act.put, List.setIfInBounds_toArray, List.set_cons_zero, List.set_cons_succ]
                    refine wpAnyH_take (i := 9) (oi := ⟨some 197, Op.move (Operand.tmp 196), 4, _, _, none⟩) (v := ?v9n2k10) rfl (by kernel_rfl) (by kernel_rfl) (by kernel_rfl) (fun _ _ _ h => h) (Or.inl ⟨by rfl, ?y9n2k10⟩) hHeld ?z9n2k10
                    case y9n2k10 => intro w hSw; (try dsimp only at hSw); go_simp <;> rfl
                    try simp only [Act.put, List.setIfInBounds_toArray, List.set_cons_zero, List.set_cons_succ]
                    refine wpAnyH_take (i := 10) (oi := ⟨some 198, Op.move (Operand.tmp 16), 4, _, _, some (9, true)⟩) (v := ?v10n2k11) rfl (by kernel_rfl) (by kernel_rfl) (by kernel_rfl) (fun _ _ _ h => h) (Or.inl ⟨by rfl, ?y10n2k11⟩) hHeld ?z10n2k11
                    case y10n2k11 => intro w hSw; (try dsimp only at hSw); go_simp <;> rfl
                    try simp only [Act.put, List.setIfInBounds_toArray, List.set_cons_zero, List.set_cons_succ]
                    refine wpAnyH_take (i := 11) (oi := ⟨some 199, Op.unOp UnOp.not 4 (Operand.tmp 198), 4, _, _, some (9, true)⟩) (v := ?v11n2k12) rfl (by kernel_rfl) (by kernel_rfl) (by kernel_rfl) (fun _ _ _ h => h) (Or.inl ⟨by rfl, ?y11n2k12⟩) hHeld ?z11n2k12
                    case y11n2k12 => intro w hSw; (try dsimp only at hSw); go_simp <;> rfl
                    try simp only [Act.put, List.setIfInBounds_toArray, List.set_cons_zero, List.set_cons_succ]
                    refine wpAnyH_take (i := 12) (oi := ⟨some 200, Op.move (Operand.tmp 199), 4, _, _, some (9, true)⟩) (v := ?v12n2k13) rfl (by kernel_rfl) (by kernel_rfl) (by kernel_rfl) (fun _ _ _ h => h) (Or.inl ⟨by rfl, ?y12n2k13⟩) hHeld ?z12n2k13
                    case y12n2k13 => intro w hSw; (try dsimp only at hSw); go_simp <;> rfl
                    try simp only [Act.put, List.setIfInBounds_toArray, List.set_cons_zero, List.set_cons_succ]
                    refine wpAnyH_take (i := 13) (oi := ⟨some 201, Op.fieldAddr 31 (Operand.tmp 12) 0, 0, _, _, some (12, false)⟩) (v := undef) rfl (by kernel_rfl) (by kernel_rfl) (by kernel_rfl) (fun _ _ _ h => h) (Or.inr ⟨by rfl, rfl⟩) hHeld ?z13n2k14
                    try simp only [Act.put, List.setIfInBounds_toArray, List.set_cons_zero, List.set_cons_succ]
                    refine wpAnyH_take (i := 14) (oi := ⟨some 202, Op.load 29 (Operand.tmp 201), 29, _, _, some (12, false)⟩) (v := undef) rfl (by kernel_rfl) (by kernel_rfl) (by kernel_rfl) (fun _ _ _ h => h) (Or.inr ⟨by rfl, rfl⟩) hHeld ?z14n2k15
                    try simp only [Act.put, List.setIfInBounds_toArray, List.set_cons_zero, List.set_cons_succ]
                    refine wpAnyH_take (i := 15) (oi := ⟨some 203, Op.nilCheck (Operand.tmp 202), 0, _, _, some (12, false)⟩) (v := undef) rfl (by kernel_rfl) (by kernel_rfl) (by kernel_rfl) (fun _ _ _ h => h) (Or.inr ⟨by rfl, rfl⟩) hHeld ?z15n2k16
                    try simp only [Act.put, List.setIfInBounds_toArray, List.set_cons_zero, List.set_cons_succ]
                    refine wpAnyH_take (i := 16) (oi := ⟨some 204, Op.load 37 (Operand.tmp 203), 37, _, _, some (12, false)⟩) (v := undef) rfl (by kernel_rfl) (by kernel_rfl) (by kernel_rfl) (fun _ _ _ h => h) (Or.inr ⟨by rfl, rfl⟩) hHeld ?z16n2k17
                    try simp only [Act.put, List.setIfInBounds_toArray, List.set_cons_zero, List.set_cons_succ]
                    refine wpAnyH_take (i := 17) (oi := ⟨some 205, Op.load 37 (Operand.tmp 14), 37, _, _, some (12, false)⟩) (v := undef) rfl (by kernel_rfl) (by kernel_rfl) (by kernel_rfl) (fun _ _ _ h => h) (Or.inr ⟨by rfl, rfl⟩) hHeld ?z17n2k18
                    try simp only [Act.put, List.setIfInBounds_toArray, List.set_cons_zero, List.set_cons_succ]
                    refine wpAnyH_take (i := 18) (oi := ⟨some 206, Op.binOp BinOp.eql 37 (Operand.tmp 204) (Operand.tmp 205) 37, 4, _, _, some (12, false)⟩) (v := undef) rfl (by kernel_rfl) (by kernel_rfl) (by kernel_rfl) (fun _ _ _ h => h) (Or.inr ⟨by rfl, rfl⟩) hHeld ?z18n2k19
                    try simp only [Act.put, List.setIfInBounds_toArray, List.set_cons_zero, List.set_cons_succ]
                    refine wpAnyH_take (i := 19) (oi := ⟨some 207, Op.pick (Operand.tmp 200) (Operand.const (Value.bool true)) (Operand.tmp 206), 4, _, _, some (9, true)⟩) (v := ?v19n2k20) rfl (by kernel_rfl) (by kernel_rfl) (by kernel_rfl) (fun _ _ _ h => h) (Or.inl ⟨by rfl, ?y19n2k20⟩) hHeld ?z19n2k20
                    case y19n2k20 => intro w hSw; (try dsimp only at hSw); go_simp <;> rfl
                    try simp only [Act.put, List.setIfInBounds_toArray, List.set_cons_zero, List.set_cons_succ]
                    refine wpAnyH_take (i := 20) (oi := ⟨some 208, Op.pick (Operand.tmp 197) (Operand.tmp 207) (Operand.const (Value.bool false)), 4, _, _, none⟩) (v := ?v20n2k21) rfl (by kernel_rfl) (by kernel_rfl) (by kernel_rfl) (fun _ _ _ h => h) (Or.inl ⟨by rfl, ?y20n2k21⟩) hHeld ?z20n2k21
                    case y20n2k21 => intro w hSw; (try dsimp only at hSw); go_simp <;> rfl
                    try simp only [Act.put, List.setIfInBounds_toArray, List.set_cons_zero, List.set_cons_succ]
                    refine wpAnyH_take (i := 21) (oi := ⟨some 209, Op.move (Operand.tmp 208), 4, _, _, none⟩) (v := ?v21n2k22) rfl (by kernel_rfl) (by kernel_rfl) (by kernel_rfl) (fun _ _ _ h => h) (Or.inl ⟨by rfl, ?y21n2k22⟩) hHeld ?z21n2k22
                    case y21n2k22 => intro w hSw; (try dsimp only at hSw); go_simp <;> rfl
                    try simp only [Act.put, List.setIfInBounds_toArray, List.set_cons_zero, List.set_cons_succ]
                    refine wpAnyH_take (i := 22) (oi := ⟨some 210, Op.fieldAddr 31 (Operand.tmp 12) 1, 0, _, _, some (21, true)⟩) (v := ?v22n2k23) rfl (by kernel_rfl) (by kernel_rfl) (by kernel_rfl) (fun _ _ _ h => h) (Or.inl ⟨by rfl, ?y22n2k23⟩) hHeld ?z22n2k23
                    case y22n2k23 => intro w hSw; (try dsimp only at hSw); go_simp <;> rfl
                    try simp only [Act.put, List.setIfInBounds_toArray, List.set_cons_zero, List.set_cons_succ]
                    refine wpAnyH_take (i := 23) (oi := ⟨some 211, Op.load 25 (Operand.tmp 210), 25, _, _, some (21, true)⟩) (v := ?v23n2k24) rfl (by kernel_rfl) (by kernel_rfl) (by kernel_rfl) (fun _ _ _ h => h) (Or.inl ⟨by rfl, ?y23n2k24⟩) hHeld ?z23n2k24
                    case y23n2k24 => intro w hSw; (try dsimp only at hSw); go_simp <;> rfl
                    try simp only [Act.put, List.setIfInBounds_toArray, List.set_cons_zero, List.set_cons_succ]
                    refine wpAnyH_take (i := 24) (oi := ⟨some 212, Op.move (Operand.tmp 17), 25, _, _, some (21, true)⟩) (v := ?v24n2k25) rfl (by kernel_rfl) (by kernel_rfl) (by kernel_rfl) (fun _ _ _ h => h) (Or.inl ⟨by rfl, ?y24n2k25⟩) hHeld ?z24n2k25
                    case y24n2k25 => intro w hSw; (try dsimp only at hSw); go_simp <;> rfl
                    try simp only [Act.put, List.setIfInBounds_toArray, List.set_cons_zero, List.set_cons_succ]
                    refine wpAnyH_ready (rs := [25]) (by kernel_rfl) (by simp) ?_
                    refine AllReadyH.cons (o := ⟨some 213, Op.call { callee := Callee.value (Operand.func 15), args := #[Operand.tmp 211, Operand.tmp 212], argTypes := #[25, 25] }, 4, _, _, some (21, true)⟩) rfl (fun K hK => ?_) AllReadyH.nil
                    go_simp
                    refine (R1.out _ KC.out).mono ?_
                    rintro en u5 ⟨rfl, k5⟩
                    replace KC := Lib.hid (KC.out.step k5)
                    clear k5
                    refine hK.out _ _ (CE.out _ KC.out) (fun hHeld => ?_)
                    clear hK K
                    try simp only [Act.put, List.setIfInBounds_toArray, List.set_cons_zero, List.set_cons_succ]
                    refine wpAnyH_take (i := 26) (oi := ⟨some 214, Op.pick (Operand.tmp 209) (Operand.tmp 213) (Operand.const (Value.bool false)), 4, _, _, none⟩) (v := ?v26n2k26) rfl (by kernel_rfl) (by kernel_rfl) (by kernel_rfl) (fun _ _ _ h => h) (Or.inl ⟨by rfl, ?y26n2k26⟩) hHeld ?z26n2k26
                    case y26n2k26 => intro w hSw; (try dsimp only at hSw); go_simp <;> rfl
                    try simp only [Act.put, List.setIfInBounds_toArray, List.set_cons_zero, List.set_cons_succ]
                    refine wpAnyH_take (i := 27) (oi := ⟨some 215, Op.move (Operand.tmp 214), 4, _, _, none⟩) (v := ?v27n2k27) rfl (by kernel_rfl) (by kernel_rfl) (by kernel_rfl) (fun _ _ _ h => h) (Or.inl ⟨by rfl, ?y27n2k27⟩) hHeld ?z27n2k27
                    case y27n2k27 => intro w hSw; (try dsimp only at hSw); go_simp <;> rfl
                    try simp only [Act.put, List.setIfInBounds_toArray, List.set_cons_zero, List.set_cons_succ]
                    refine wpAnyH_take (i := 28) (oi := ⟨some 216, Op.fieldAddr 31 (Operand.tmp 12) 2, 0, _, _, some (27, true)⟩) (v := ?v28n2k28) rfl (by kernel_rfl) (by kernel_rfl) (by kernel_rfl) (fun _ _ _ h => h) (Or.inl ⟨by rfl, ?y28n2k28⟩) hHeld ?z28n2k28
                    case y28n2k28 => intro w hSw; (try dsimp only at hSw); go_simp <;> rfl
                    try simp only [Act.put, List.setIfInBounds_toArray, List.set_cons_zero, List.set_cons_succ]
                    refine wpAnyH_take (i := 29) (oi := ⟨some 217, Op.load 25 (Operand.tmp 216), 25, _, _, some (27, true)⟩) (v := ?v29n2k29) rfl (by kernel_rfl) (by kernel_rfl) (by kernel_rfl) (fun _ _ _ h => h) (Or.inl ⟨by rfl, ?y29n2k29⟩) hHeld ?z29n2k29
                    case y29n2k29 => intro w hSw; (try dsimp only at hSw); go_simp <;> rfl
                    try simp only [Act.put, List.setIfInBounds_toArray, List.set_cons_zero, List.set_cons_succ]
                    refine wpAnyH_take (i := 30) (oi := ⟨some 218, Op.move (Operand.tmp 18), 25, _, _, some (27, true)⟩) (v := ?v30n2k30) rfl (by kernel_rfl) (by kernel_rfl) (by kernel_rfl) (fun _ _ _ h => h) (Or.inl ⟨by rfl, ?y30n2k30⟩) hHeld ?z30n2k30
                    case y30n2k30 => intro w hSw; (try dsimp only at hSw); go_simp <;> rfl
                    try simp only [Act.put, List.setIfInBounds_toArray, List.set_cons_zero, List.set_cons_succ]
                    refine wpAnyH_ready (rs := [31]) (by kernel_rfl) (by simp) ?_
                    refine AllReadyH.cons (o := ⟨some 219, Op.call { callee := Callee.value (Operand.func 15), args := #[Operand.tmp 217, Operand.tmp 218], argTypes := #[25, 25] }, 4, _, _, some (27, true)⟩) rfl (fun K hK => ?_) AllReadyH.nil
                    go_simp
                    refine (R2.out _ KC.out).mono ?_
                    rintro en u5 ⟨rfl, k5⟩
                    replace KC := Lib.hid (KC.out.step k5)
                    clear k5
                    refine hK.out _ _ (CE.out _ KC.out) (fun hHeld => ?_)
                    clear hK K
                    try simp only [Act.put, List.setIfInBounds_toArray, List.set_cons_zero, List.set_cons_succ]
                    refine wpAnyH_take (i := 32) (oi := ⟨some 220, Op.pick (Operand.tmp 215) (Operand.tmp 219) (Operand.const (Value.bool false)), 4, _, _, none⟩) (v := ?v32n2k31) rfl (by kernel_rfl) (by kernel_rfl) (by kernel_rfl) (fun _ _ _ h => h) (Or.inl ⟨by rfl, ?y32n2k31⟩) hHeld ?z32n2k31
                    case y32n2k31 => intro w hSw; (try dsimp only at hSw); go_simp <;> rfl
                    try simp only [Act.put, List.setIfInBounds_toArray, List.set_cons_zero, List.set_cons_succ]
                    refine wpAnyH_take (i := 33) (oi := ⟨some 8, Op.assign (Operand.tmp 220), 4, _, _, none⟩) (v := ?v33n2k32) rfl (by kernel_rfl) (by kernel_rfl) (by kernel_rfl) (fun _ _ _ h => h) (Or.inl ⟨by rfl, ?y33n2k32⟩) hHeld ?z33n2k32
                    case y33n2k32 => intro w hSw; (try dsimp only at hSw); go_simp <;> rfl
                    try simp only [Act.put, List.setIfInBounds_toArray, List.set_cons_zero, List.set_cons_succ]
                    refine wpAnyH_done (by kernel_rfl) ?_ _
                    refine NoPanic.normal ?_
                    clear hHeld
                    have KE := Lib.hid (K15.out.step KC.out)
                    go_wp2
                    go_ret
                    exact ⟨by first | rfl | simp, KE.out⟩
                  | some r =>
                    obtain ⟨C, rfl, _, hcc⟩ := HPF.out
                    obtain rfl : hs = true := HHS.out
                    obtain rfl : bo = r := HBO.out
                    obtain ⟨r, hrr⟩ : ∃ r, r = bo := ⟨_, rfl⟩
                    rw [← hrr] at hcc HY15
                    have HCC := Lib.hid hcc
                    clear hcc hrr
                    have CE : Hid (∀ u, Kept noBlock w15 u → (u.cell? ⟨X, 0, none⟩ = some (.pointer (some ⟨C, 0, none⟩)) ∧ u.cell? ⟨X, 1, none⟩ = some (.slice A1 d1 c1) ∧ u.cell? ⟨X, 2, none⟩ = some (.slice A2 d2 c2)) ∧ (u.cell? ⟨C, 0, none⟩ = some (.string r.name) ∧ u.cell? ⟨C, 1, none⟩ = some (.int .i64 r.kind) ∧ u.cell? ⟨C, 2, none⟩ = some (.int .i64 r.from_) ∧ u.cell? ⟨C, 3, none⟩ = some (.int .i64 r.to_)) ∧ (u.cell? ⟨Y, 0, none⟩ = some (.string r.name) ∧ u.cell? ⟨Y, 1, none⟩ = some (.int .i64 r.kind) ∧ u.cell? ⟨Y, 2, none⟩ = some (.int .i64 r.from_) ∧ u.cell? ⟨Y, 3, none⟩ = some (.int .i64 r.to_))) := fun u ku => ⟨tri_cells (ku.blk HX15.out (fun h => h)), ref_cells (ku.blk HCC.out (fun h => h)), ref_cells (ku.blk HY15.out (fun h => h))⟩
                    have KC : Hid (Kept noBlock w15 w15.drew) := Kept.drew _ _
                    have EQ := fun u => ref_eql u r r
                    rw [decide_eq_true rfl] at EQ
                    unfold RefV.val at EQ
                    go_upto_region 33 with (fail)
                    refine wp_region_noPanic ?_
                    refine wp_region_held_drew (S := fun u => (u.cell? ⟨X, 0, none⟩ = some (.pointer (some ⟨C, 0, none⟩)) ∧ u.cell? ⟨X, 1, none⟩ = some (.slice A1 d1 c1) ∧ u.cell? ⟨X, 2, none⟩ = some (.slice A2 d2 c2)) ∧ (u.cell? ⟨C, 0, none⟩ = some (.string r.name) ∧ u.cell? ⟨C, 1, none⟩ = some (.int .i64 r.kind) ∧ u.cell? ⟨C, 2, none⟩ = some (.int .i64 r.from_) ∧ u.cell? ⟨C, 3, none⟩ = some (.int .i64 r.to_)) ∧ (u.cell? ⟨Y, 0, none⟩ = some (.string r.name) ∧ u.cell? ⟨Y, 1, none⟩ = some (.int .i64 r.kind) ∧ u.cell? ⟨Y, 2, none⟩ = some (.int .i64 r.from_) ∧ u.cell? ⟨Y, 3, none⟩ = some (.int .i64 r.to_))) (by kernel_rfl) (CE.out _ KC.out) (fun hHeld => ?_)
                    refine wpAnyH_take (i := 0) (oi := ⟨some 188, Op.move (Operand.tmp 13), 32, _, _, none⟩) (v := ?v0n3k1) rfl (by kernel_rfl) (by kernel_rfl) (by kernel_rfl) (fun _ _ _ h => h) (Or.inl ⟨by rfl, ?y0n3k1⟩) hHeld ?z0n3k1
                    case y0n3k1 => intro w hSw; (try dsimp only at hSw); go_simp <;> rfl
                    try simp only [Act.put, List.setIfInBounds_toArray, List.set_cons_zero, List.set_cons_succ]
                    refine wpAnyH_take (i := 1) (oi := ⟨some 189, Op.binOp BinOp.eql 32 (Operand.tmp 188) (Operand.const (Value.int IntKind.i64 0)) 32, 4, _, _, none⟩) (v := ?v1n3k2) rfl (by kernel_rfl) (by kernel_rfl) (by kernel_rfl) (fun _ _ _ h => h) (Or.inl ⟨by rfl, ?y1n3k2⟩) hHeld ?z1n3k2
                    case y1n3k2 => intro w hSw; (try dsimp only at hSw); go_simp <;> rfl
                    try simp only [Act.put, List.setIfInBounds_toArray, List.set_cons_zero, List.set_cons_succ]
                    refine wpAnyH_take (i := 2) (oi := ⟨some 190, Op.move (Operand.tmp 189), 4, _, _, none⟩) (v := ?v2n3k3) rfl (by kernel_rfl) (by kernel_rfl) (by kernel_rfl) (fun _ _ _ h => h) (Or.inl ⟨by rfl, ?y2n3k3⟩) hHeld ?z2n3k3
                    case y2n3k3 => intro w hSw; (try dsimp only at hSw); go_simp <;> rfl
                    try simp only [Act.put, List.setIfInBounds_toArray, List.set_cons_zero, List.set_cons_succ]
                    refine wpAnyH_take (i := 3) (oi := ⟨some 191, Op.fieldAddr 31 (Operand.tmp 12) 0, 0, _, _, some (2, true)⟩) (v := ?v3n3k4) rfl (by kernel_rfl) (by kernel_rfl) (by kernel_rfl) (fun _ _ _ h => h) (Or.inl ⟨by rfl, ?y3n3k4⟩) hHeld ?z3n3k4
                    case y3n3k4 => intro w hSw; (try dsimp only at hSw); go_simp <;> rfl
                    try simp only [Act.put, List.setIfInBounds_toArray, List.set_cons_zero, List.set_cons_succ]
                    refine wpAnyH_take (i := 4) (oi := ⟨some 192, Op.load 29 (Operand.tmp 191), 29, _, _, some (2, true)⟩) (v := ?v4n3k5) rfl (by kernel_rfl) (by kernel_rfl) (by kernel_rfl) (fun _ _ _ h => h) (Or.inl ⟨by rfl, ?y4n3k5⟩) hHeld ?z4n3k5
                    case y4n3k5 => intro w hSw; (try dsimp only at hSw); go_simp <;> rfl
                    try simp only [Act.put, List.setIfInBounds_toArray, List.set_cons_zero, List.set_cons_succ]
                    refine wpAnyH_take (i := 5) (oi := ⟨some 193, Op.binOp BinOp.neq 29 (Operand.tmp 192) (Operand.const (Value.pointer none)) 29, 4, _, _, some (2, true)⟩) (v := ?v5n3k6) rfl (by kernel_rfl) (by kernel_rfl) (by kernel_rfl) (fun _ _ _ h => h) (Or.inl ⟨by rfl, ?y5n3k6⟩) hHeld ?z5n3k6
                    case y5n3k6 => intro w hSw; (try dsimp only at hSw); go_simp <;> rfl
                    try simp only [Act.put, List.setIfInBounds_toArray, List.set_cons_zero, List.set_cons_succ]
                    refine wpAnyH_take (i := 6) (oi := ⟨some 194, Op.move (Operand.tmp 16), 4, _, _, some (2, true)⟩) (v := ?v6n3k7) rfl (by kernel_rfl) (by kernel_rfl) (by kernel_rfl) (fun _ _ _ h => h) (Or.inl ⟨by rfl, ?y6n3k7⟩) hHeld ?z6n3k7
                    case y6n3k7 => intro w hSw; (try dsimp only at hSw); go_simp <;> rfl
                    try simp only [Act.put, List.setIfInBounds_toArray, List.set_cons_zero, List.set_cons_succ]
                    refine wpAnyH_take (i := 7) (oi := ⟨some 195, Op.binOp BinOp.eql 4 (Operand.tmp 193) (Operand.tmp 194) 4, 4, _, _, some (2, true)⟩) (v := ?v7n3k8) rfl (by kernel_rfl) (by kernel_rfl) (by kernel_rfl) (fun _ _ _ h => h) (Or.inl ⟨by rfl, ?y7n3k8⟩) hHeld ?z7n3k8
                    case y7n3k8 => intro w hSw; (try dsimp only at hSw); go_simp <;> rfl
                    try simp only [Act.put, List.setIfInBounds_toArray, List.set_cons_zero, List.set_cons_succ]
                    refine wpAnyH_take (i := 8) (oi := ⟨some 196, Op.pick (Operand.tmp 190) (Operand.tmp 195) (Operand.const (Value.bool false)), 4, _, _, none⟩) (v := ?v8n3k9) rfl (by kernel_rfl) (by kernel_rfl) (by kernel_rfl) (fun _ _ _ h => h) (Or.inl ⟨by rfl, ?y8n3k9⟩) hHeld ?z8n3k9
                    case y8n3k9 => intro w hSw; (try dsimp only at hSw); go_simp <;> rfl
                    try simp only [Act.put, List.setIfInBounds_toArray, List.set_cons_zero, List.set_cons_succ]
                    refine wpAnyH_take (i := 9) (oi := ⟨some 197, Op.move (Operand.tmp 196), 4, _, _, none⟩) (v := ?v9n3k10) rfl (by kernel_rfl) (by kernel_rfl) (by kernel_rfl) (fun _ _ _ h => h) (Or.inl ⟨by rfl, ?y9n3k10⟩) hHeld ?z9n3k10
                    case y9n3k10 => intro w hSw; (try dsimp only at hSw); go_simp <;> rfl
                    try simp only [Act.put, List.setIfInBounds_toArray, List.set_cons_zero, List.set_cons_succ]
                    refine wpAnyH_take (i := 10) (oi := ⟨some 198, Op.move (Operand.tmp 16), 4, _, _, some (9, true)⟩) (v := ?v10n3k11) rfl (by kernel_rfl) (by kernel_rfl) (by kernel_rfl) (fun _ _ _ h => h) (Or.inl ⟨by rfl, ?y10n3k11⟩) hHeld ?z10n3k11
                    case y10n3k11 => intro w hSw; (try dsimp only at hSw); go_simp <;> rfl
                    try simp only [Act.put, List.setIfInBounds_toArray, List.set_cons_zero, List.set_cons_succ]
                    refine wpAnyH_take (i := 11) (oi := ⟨some 199, Op.unOp UnOp.not 4 (Operand.tmp 198), 4, _, _, some (9, true)⟩) (v := ?v11n3k12) rfl (by kernel_rfl) (by kernel_rfl) (by kernel_rfl) (fun _ _ _ h => h) (Or.inl ⟨by rfl, ?y11n3k12⟩) hHeld ?z11n3k12
                    case y11n3k12 => intro w hSw; (try dsimp only at hSw); go_simp <;> rfl
                    try simp only [Act.put, List.setIfInBounds_toArray, List.set_cons_zero, List.set_cons_succ]
                    refine wpAnyH_take (i := 12) (oi := ⟨some 200, Op.move (Operand.tmp 199), 4, _, _, some (9, true)⟩) (v := ?v12n3k13) rfl (by kernel_rfl) (by kernel_rfl) (by kernel_rfl) (fun _ _ _ h => h) (Or.inl ⟨by rfl, ?y12n3k13⟩) hHeld ?z12n3k13
                    case y12n3k13 => intro w hSw; (try dsimp only at hSw); go_simp <;> rfl
                    try simp only [Act.put, List.setIfInBounds_toArray, List.set_cons_zero, List.set_cons_succ]
                    refine wpAnyH_take (i := 13) (oi := ⟨some 201, Op.fieldAddr 31 (Operand.tmp 12) 0, 0, _, _, some (12, false)⟩) (v := ?v13n3k14) rfl (by kernel_rfl) (by kernel_rfl) (by kernel_rfl) (fun _ _ _ h => h) (Or.inl ⟨by rfl, ?y13n3k14⟩) hHeld ?z13n3k14
                    case y13n3k14 => intro w hSw; (try dsimp only at hSw); go_simp <;> rfl
                    try simp only [Act.put, List.setIfInBounds_toArray, List.set_cons_zero, List.set_cons_succ]
                    refine wpAnyH_take (i := 14) (oi := ⟨some 202, Op.load 29 (Operand.tmp 201), 29, _, _, some (12, false)⟩) (v := ?v14n3k15) rfl (by kernel_rfl) (by kernel_rfl) (by kernel_rfl) (fun _ _ _ h => h) (Or.inl ⟨by rfl, ?y14n3k15⟩) hHeld ?z14n3k15
                    case y14n3k15 => intro w hSw; (try dsimp only at hSw); go_simp <;> rfl
                    try simp only [Act.put, List.setIfInBounds_toArray, List.set_cons_zero, List.set_cons_succ]
                    refine wpAnyH_take (i := 15) (oi := ⟨some 203, Op.nilCheck (Operand.tmp 202), 0, _, _, some (12, false)⟩) (v := ?v15n3k16) rfl (by kernel_rfl) (by kernel_rfl) (by kernel_rfl) (fun _ _ _ h => h) (Or.inl ⟨by rfl, ?y15n3k16⟩) hHeld ?z15n3k16
                    case y15n3k16 => intro w hSw; (try dsimp only at hSw); go_simp <;> rfl
                    try simp only [Act.put, List.setIfInBounds_toArray, List.set_cons_zero, List.set_cons_succ]
                    refine wpAnyH_take (i := 16) (oi := ⟨some 204, Op.load 37 (Operand.tmp 203), 37, _, _, some (12, false)⟩) (v := ?v16n3k17) rfl (by kernel_rfl) (by kernel_rfl) (by kernel_rfl) (fun _ _ _ h => h) (Or.inl ⟨by rfl, ?y16n3k17⟩) hHeld ?z16n3k17
                    case y16n3k17 => intro w hSw; (try dsimp only at hSw); go_simp <;> rfl
                    try simp only [Act.put, List.setIfInBounds_toArray, List.set_cons_zero, List.set_cons_succ]
                    refine wpAnyH_take (i := 17) (oi := ⟨some 205, Op.load 37 (Operand.tmp 14), 37, _, _, some (12, false)⟩) (v := ?v17n3k18) rfl (by kernel_rfl) (by kernel_rfl) (by kernel_rfl) (fun _ _ _ h => h) (Or.inl ⟨by rfl, ?y17n3k18⟩) hHeld ?z17n3k18
                    case y17n3k18 => intro w hSw; (try dsimp only at hSw); go_simp <;> rfl
                    try simp only [Act.put, List.setIfInBounds_toArray, List.set_cons_zero, List.set_cons_succ]
                    refine wpAnyH_take (i := 18) (oi := ⟨some 206, Op.binOp BinOp.eql 37 (Operand.tmp 204) (Operand.tmp 205) 37, 4, _, _, some (12, false)⟩) (v := ?v18n3k19) rfl (by kernel_rfl) (by kernel_rfl) (by kernel_rfl) (fun _ _ _ h => h) (Or.inl ⟨by rfl, ?y18n3k19⟩) hHeld ?z18n3k19
                    case y18n3k19 => intro w hSw; (try dsimp only at hSw); go_simp <;> rfl
                    try simp only [Act.put, List.setIfInBounds_toArray, List.set_cons_zero, List.set_cons_succ]
                    refine wpAnyH_take (i := 19) (oi := ⟨some 207, Op.pick (Operand.tmp 200) (Operand.const (Value.bool true)) (Operand.tmp 206), 4, _, _, some (9, true)⟩) (v := ?v19n3k20) rfl (by kernel_rfl) (by kernel_rfl) (by kernel_rfl) (fun _ _ _ h => h) (Or.inl ⟨by rfl, ?y19n3k20⟩) hHeld ?z19n3k20
                    case y19n3k20 => intro w hSw; (try dsimp only at hSw); go_simp <;> rfl
                    try simp only [Act.put, List.setIfInBounds_toArray, List.set_cons_zero, List.set_cons_succ]
                    refine wpAnyH_take (i := 20) (oi := ⟨some 208, Op.pick (Operand.tmp 197) (Operand.tmp 207) (Operand.const (Value.bool false)), 4, _, _, none⟩) (v := ?v20n3k21) rfl (by kernel_rfl) (by kernel_rfl) (by kernel_rfl) (fun _ _ _ h => h) (Or.inl ⟨by rfl, ?y20n3k21⟩) hHeld ?z20n3k21
                    case y20n3k21 => intro w hSw; (try dsimp only at hSw); go_simp <;> rfl
                    try simp only [Act.put, List.setIfInBounds_toArray, List.set_cons_zero, List.set_cons_succ]
                    refine wpAnyH_take (i := 21) (oi := ⟨some 209, Op.move (Operand.tmp 208), 4, _, _, none⟩) (v := ?v21n3k22) rfl (by kernel_rfl) (by kernel_rfl) (by kernel_rfl) (fun _ _ _ h => h) (Or.inl ⟨by rfl, ?y21n3k22⟩) hHeld ?z21n3k22
                    case y21n3k22 => intro w hSw; (try dsimp only at hSw); go_simp <;> rfl
                    try simp only [Act.put, List.setIfInBounds_toArray, List.set_cons_zero, List.set_cons_succ]
                    refine wpAnyH_take (i := 22) (oi := ⟨some 210, Op.fieldAddr 31 (Operand.tmp 12) 1, 0, _, _, some (21, true)⟩) (v := ?v22n3k23) rfl (by kernel_rfl) (by kernel_rfl) (by kernel_rfl) (fun _ _ _ h => h) (Or.inl ⟨by rfl, ?y22n3k23⟩) hHeld ?z22n3k23
                    case y22n3k23 => intro w hSw; (try dsimp only at hSw); go_simp <;> rfl
                    try simp only [Act.put, List.setIfInBounds_toArray, List.set_cons_zero, List.set_cons_succ]
                    refine wpAnyH_take (i := 23) (oi := ⟨some 211, Op.load 25 (Operand.tmp 210), 25, _, _, some (21, true)⟩) (v := ?v23n3k24) rfl (by kernel_rfl) (by kernel_rfl) (by kernel_rfl) (fun _ _ _ h => h) (Or.inl ⟨by rfl, ?y23n3k24⟩) hHeld ?z23n3k24
                    case y23n3k24 => intro w hSw; (try dsimp only at hSw); go_simp <;> rfl
                    try simp only [Act.put, List.setIfInBounds_toArray, List.set_cons_zero, List.set_cons_succ]
                    refine wpAnyH_take (i := 24) (oi := ⟨some 212, Op.move (Operand.tmp 17), 25, _, _, some (21, true)⟩) (v := ?v24n3k25) rfl (by kernel_rfl) (by kernel_rfl) (by kernel_rfl) (fun _ _ _ h => h) (Or.inl ⟨by rfl, ?y24n3k25⟩) hHeld ?z24n3k25
                    case y24n3k25 => intro w hSw; (try dsimp only at hSw); go_simp <;> rfl
                    try simp only [Act.put, List.setIfInBounds_toArray, List.set_cons_zero, List.set_cons_succ]
                    refine wpAnyH_ready (rs := [25]) (by kernel_rfl) (by simp) ?_
                    refine AllReadyH.cons (o := ⟨some 213, Op.call { callee := Callee.value (Operand.func 15), args := #[Operand.tmp 211, Operand.tmp 212], argTypes := #[25, 25] }, 4, _, _, some (21, true)⟩) rfl (fun K hK => ?_) AllReadyH.nil
                    go_simp
                    refine (R1.out _ KC.out).mono ?_
                    rintro en u5 ⟨rfl, k5⟩
                    replace KC := Lib.hid (KC.out.step k5)
                    clear k5
                    refine hK.out _ _ (CE.out _ KC.out) (fun hHeld => ?_)
                    clear hK K
                    try simp only [Act.put, List.setIfInBounds_toArray, List.set_cons_zero, List.set_cons_succ]
                    refine wpAnyH_take (i := 26) (oi := ⟨some 214, Op.pick (Operand.tmp 209) (Operand.tmp 213) (Operand.const (Value.bool false)), 4, _, _, none⟩) (v := ?v26n3k26) rfl (by kernel_rfl) (by kernel_rfl) (by kernel_rfl) (fun _ _ _ h => h) (Or.inl ⟨by rfl, ?y26n3k26⟩) hHeld ?z26n3k26
                    case y26n3k26 => intro w hSw; (try dsimp only at hSw); go_simp <;> rfl
                    try simp only [Act.put, List.setIfInBounds_toArray, List.set_cons_zero, List.set_cons_succ]
                    refine wpAnyH_take (i := 27) (oi := ⟨some 215, Op.move (Operand.tmp 214), 4, _, _, none⟩) (v := ?v27n3k27) rfl (by kernel_rfl) (by kernel_rfl) (by kernel_rfl) (fun _ _ _ h => h) (Or.inl ⟨by rfl, ?y27n3k27⟩) hHeld ?z27n3k27
                    case y27n3k27 => intro w hSw; (try dsimp only at hSw); go_simp <;> rfl
                    try simp only [Act.put, List.setIfInBounds_toArray, List.set_cons_zero, List.set_cons_succ]
                    refine wpAnyH_take (i := 28) (oi := ⟨some 216, Op.fieldAddr 31 (Operand.tmp 12) 2, 0, _, _, some (27, true)⟩) (v := ?v28n3k28) rfl (by kernel_rfl) (by kernel_rfl) (by kernel_rfl) (fun _ _ _ h => h) (Or.inl ⟨by rfl, ?y28n3k28⟩) hHeld ?z28n3k28
                    case y28n3k28 => intro w hSw; (try dsimp only at hSw); go_simp <;> rfl
                    try simp only [Act.put, List.setIfInBounds_toArray, List.set_cons_zero, List.set_cons_succ]
                    refine wpAnyH_take (i := 29) (oi := ⟨some 217, Op.load 25 (Operand.tmp 216), 25, _, _, some (27, true)⟩) (v := ?v29n3k29) rfl (by kernel_rfl) (by kernel_rfl) (by kernel_rfl) (fun _ _ _ h => h) (Or.inl ⟨by rfl, ?y29n3k29⟩) hHeld ?z29n3k29
                    case y29n3k29 => intro w hSw; (try dsimp only at hSw); go_simp <;> rfl
                    try simp only [Act.put, List.setIfInBounds_toArray, List.set_cons_zero, List.set_cons_succ]
                    refine wpAnyH_take (i := 30) (oi := ⟨some 218, Op.move (Operand.tmp 18), 25, _, _, some (27, true)⟩) (v := ?v30n3k30) rfl (by kernel_rfl) (by kernel_rfl) (by kernel_rfl) (fun _ _ _ h => h) (Or.inl ⟨by rfl, ?y30n3k30⟩) hHeld ?z30n3k30
                    case y30n3k30 => intro w hSw; (try dsimp only at hSw); go_simp <;> rfl
                    try simp only [Act.put, List.setIfInBounds_toArray, List.set_cons_zero, List.set_cons_succ]
                    refine wpAnyH_ready (rs := [31]) (by kernel_rfl) (by simp) ?_
                    refine AllReadyH.cons (o := ⟨some 219, Op.call { callee := Callee.value (Operand.func 15), args := #[Operand.tmp 217, Operand.tmp 218], argTypes := #[25, 25] }, 4, _, _, some (27, true)⟩) rfl (fun K hK => ?_) AllReadyH.nil
                    go_simp
                    refine (R2.out _ KC.out).mono ?_
                    rintro en u5 ⟨rfl, k5⟩
                    replace KC := Lib.hid (KC.out.step k5)
                    clear k5
                    refine hK.out _ _ (CE.out _ KC.out) (fun hHeld => ?_)
                    clear hK K
                    try simp only [Act.put, List.setIfInBounds_toArray, List.set_cons_zero, List.set_cons_succ]
                    refine wpAnyH_take (i := 32) (oi := ⟨some 220, Op.pick (Operand.tmp 215) (Operand.tmp 219) (Operand.const (Value.bool false)), 4, _, _, none⟩) (v := ?v32n3k31) rfl (by kernel_rfl) (by kernel_rfl) (by kernel_rfl) (fun _ _ _ h => h) (Or.inl ⟨by rfl, ?y32n3k31⟩) hHeld ?z32n3k31
                    case y32n3k31 => intro w hSw; (try dsimp only at hSw); go_simp <;> rfl
                    try simp only [Act.put, List.setIfInBounds_toArray, List.set_cons_zero, List.set_cons_succ]
                    refine wpAnyH_take (i := 33) (oi := ⟨some 8, Op.assign (Operand.tmp 220), 4, _, _, none⟩) (v := ?v33n3k32) rfl (by kernel_rfl) (by kernel_rfl) (by kernel_rfl) (fun _ _ _ h => h) (Or.inl ⟨by rfl, ?y33n3k32⟩) hHeld ?z33n3k32
                    case y33n3k32 => intro w hSw; (try dsimp only at hSw); go_simp <;> rfl
                    try simp only [Act.put, List.setIfInBounds_toArray, List.set_cons_zero, List.set_cons_succ]
                    refine wpAnyH_done (by kernel_rfl) ?_ _
                    refine NoPanic.normal ?_
                    clear hHeld
                    have KE := Lib.hid (K15.out.step KC.out)
                    go_wp2
                    go_ret
                    exact ⟨by first | rfl | simp, KE.out⟩
end Go.Proofs.Ytollmkkbeeeccaa
