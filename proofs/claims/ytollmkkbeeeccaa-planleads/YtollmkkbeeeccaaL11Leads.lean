/-
  The walk of PlanLeads. No statement is proved here.
-/
import Derived.Test.YtollmkkbeeeccaaL11Use
import Derived.Test.YtollmkkbeeeccaaP11Pl
namespace Go.Proofs.Ytollmkkbeeeccaa
open Go.RowKit Tot

set_option maxRecDepth 100000 in
set_option maxHeartbeats 2000000 in
theorem leads_any (F : Nat → Prop) (A : Option Addr) (n c : Nat) (rs : List RfN) (fl la : UInt8) (ix : Int) (w : World) (h : Lies w F A (rfCells rs)) (hl : n = rs.length) (hnc : n ≤ c) (hc : c ≤ 9223372036854775807) (hix : -128 ≤ ix ∧ ix ≤ 127) :
    Calls Try.prog 4 #[.slice A n c, .int .u8 (fl.toNat : Int), .int .u8 (la.toNat : Int), .int .i8 ix] w fun e w' => e = .returned (.bool true) ∧ Kept noBlock w w' := by
  have AW := Lib.hid (awake_any w)
  have SE := Lib.hid (fun u (k : Kept noBlock w u) => set_any F A n c rs fl u (h.keep k (fun _ _ h => h)) hl hnc hc)
  obtain ⟨f, hf, _, hf12⟩ := rem_num fl 12 (by omega)
  obtain ⟨L, hL⟩ : ∃ L, L = setS rs := ⟨_, rfl⟩
  have hL14 : L.length ≤ 14 := by rw [hL]; exact setS_len rs
  rw [← hL, ← hf] at SE
  obtain ⟨m, hm⟩ : ∃ m, m = L.length := ⟨_, rfl⟩
  rw [← hm] at SE hL14
  have HM := Lib.hid hm
  clear h hl hnc hc hf hL hm
  obtain ⟨nl, hnl, t1, hnl32⟩ := rem_num la 32 (by omega)
  have t1 : ((la.toNat : Int)).tmod 32 = (nl : Int) := t1
  obtain ⟨hx1, hx2⟩ := hix
  clear hnl
  go_enter Try.func4, Try.ntmps4
  go_wp2_with fail
  refine AW.out.mono ?_
  rintro e w1 ⟨rfl, k1⟩
  have K1 := Lib.hid k1
  clear k1 AW
  go_wp2_with fail
  refine (SE.out _ K1.out).mono ?_
  rintro e w2 ⟨A', c', rfl, o2, k2⟩
  have ka := Kept.alloc noBlock w2 (.cells #[.slice A' m c', .int .i64 (f : Int)] 27)
  have ha := heap_alloc_new w2 (.cells #[.slice A' m c', .int .i64 (f : Int)] 27)
  go_upto_region 5 with (fail)
  obtain ⟨S, hS⟩ : ∃ S, S = w2.heap.size := ⟨_, rfl⟩
  rw [← hS] at ha ⊢
  generalize w2.alloc (.cells #[.slice A' m c', .int .i64 (f : Int)] 27) = w3 at ka ha ⊢
  have K3 := Lib.hid (K1.out.step (k2.step ka))
  have HS3 := Lib.hid ha
  have HLI := Lib.hid ((Lies.of_rows (F := fun _ => True) o2 (fun _ _ => trivial)).keep ka (fun _ _ h => h))
  clear k2 ka ha o2 SE hS
  obtain ⟨s0, s1⟩ := pair_cells HS3.out
  have O1 := Lib.hid (ofs_any A' m c' f nl ix L w3 HLI.out HM.out.symm (by omega))
  have FEW := Lib.hid (planV_few (L := L) (f := f) (n := nl) (i := ix))
  rcases planV_cases L f nl ix with hP | ⟨hfi, hin, hpos, hP⟩
  · rw [hP] at O1
    unfold plnv noPln at O1
    simp only [List.length_nil] at O1
    clear hP t1
    go_wp2_with fail
    refine O1.out.mono ?_
    rintro e w6 ⟨p, A1, c1, A2, c2, rfl, hp, k6⟩
    have ka := Kept.alloc noBlock w6 (.cells #[.pointer p, .slice A1 0 c1, .slice A2 0 c2] 31)
    go_upto_region 6 with (fail)
    generalize w6.alloc (.cells #[.pointer p, .slice A1 0 c1, .slice A2 0 c2] 31) = w7 at ka ⊢
    have K7 := Lib.hid (K3.out.step (k6.step ka))
    clear s0 s1 k6 ka hp O1
    go_wp2
    go_ret
    exact ⟨by first | rfl | simp, K7.out⟩
  · rw [hP] at O1 FEW
    have hi0 : 0 ≤ ix := by omega
    have GD := Lib.hid (dltG (ordK 1 L) (posF L ix) ix (posF_le hi0))
    obtain ⟨o, ho⟩ : ∃ o, o = fullV (ordK 0 L) ix := ⟨_, rfl⟩
    obtain ⟨q0, hq0⟩ : ∃ q0, q0 = posF L ix := ⟨_, rfl⟩
    have hq0o : q0 = toV o := by rw [hq0, ho]; rfl
    obtain ⟨ds, hds⟩ : ∃ ds, ds = (posD L ix).1 := ⟨_, rfl⟩
    obtain ⟨q, hq⟩ : ∃ q, q = (posD L ix).2 := ⟨_, rfl⟩
    obtain ⟨ps, hps⟩ : ∃ ps, ps = (posP L nl ix).1 := ⟨_, rfl⟩
    have hgd : DltG (ordK 1 L) q0 ix ds q := by
      have := GD.out
      rw [hq0, hds, hq]
      exact this
    have hgp : ∀ (k : Nat) (r : RefV), ps[k]? = some r → r ∈ ordK 2 L ∧ r.from_ ≤ runM q (ps.take k) ∧ (k + 1 < ps.length → runM q (ps.take k) < r.to_) := by
      rw [hps, hq]
      exact prt_link (ordK 2 L) (posD L ix).2 nl ix
    have hem : ps = [] → ix ≤ q := by
      rw [hps, hq]
      intro he
      have := prtV_empty (l := ordK 2 L) (q := (posD L ix).2) (n := nl) (i := ix) he
      have h2 : (posP L nl ix).2 = (posD L ix).2 := this
      omega
    rw [← ho, ← hds, ← hps] at O1 FEW
    have HGD := Lib.hid hgd
    have HGP := Lib.hid hgp
    have HEM := Lib.hid hem
    have HQO := Lib.hid hq0o
    simp only at FEW
    unfold plnv at O1
    simp only at O1
    obtain ⟨d1, hd1⟩ : ∃ d, d = ds.length := ⟨_, rfl⟩
    obtain ⟨d2, hd2⟩ : ∃ d, d = ps.length := ⟨_, rfl⟩
    rw [← hd1, ← hd2] at O1 FEW
    have HD1 := Lib.hid hd1
    have HD2 := Lib.hid hd2
    have hd1m : d1 ≤ m := by have := FEW.out.1; have := HM.out; omega
    have hd2m : d2 ≤ m := by have := FEW.out.2; have := HM.out; omega
    clear hP ho hq0 hq0o hds hq hps hgd hgp hem GD hd1 hd2 hpos FEW
    go_wp2_with fail
    refine O1.out.mono ?_
    rintro e w6 ⟨p, A1, c1, A2, c2, rfl, hp, k6⟩
    have ka := Kept.alloc noBlock w6 (.cells #[.pointer p, .slice A1 d1 c1, .slice A2 d2 c2] 31)
    have ha := heap_alloc_new w6 (.cells #[.pointer p, .slice A1 d1 c1, .slice A2 d2 c2] 31)
    go_upto_region 6 with (fail)
    obtain ⟨X, hX⟩ : ∃ X, X = w6.heap.size := ⟨_, rfl⟩
    rw [← hX] at ha ⊢
    generalize w6.alloc (.cells #[.pointer p, .slice A1 d1 c1, .slice A2 d2 c2] 31) = w7 at ka ha ⊢
    have K7 := Lib.hid (K3.out.step (k6.step ka))
    have HX7 := Lib.hid ha
    have hp7 := hp.keep ka
    have HPF := Lib.hid hp7.full
    have HL1 := Lib.hid hp7.lies1.1
    have HL2 := Lib.hid hp7.lies2.1
    clear s0 s1 k6 ka hp hp7 O1 ha hX t1
    obtain ⟨x0, x1, x2⟩ := tri_cells HX7.out
    go_upto_if 40 with (fail)
    go_cut [13] (fun x wc => x = .int .i64 q0 ∧ w7 = wc)
    case first =>
      cases o with
      | none =>
        obtain rfl : p = none := HPF.out
        go_wp2_with fail
        go_meet
        exact ⟨by rw [HQO.out]; rfl, rfl⟩
      | some r =>
        obtain ⟨C, rfl, _, hcc⟩ := HPF.out
        obtain ⟨e0, e1, e2, e3⟩ := ref_cells hcc
        clear hcc
        go_wp2_with fail
        go_meet
        exact ⟨by rw [HQO.out]; rfl, rfl⟩
    case rest =>
      obtain ⟨rfl, rfl⟩ := hcut
      have hne : ∀ a : Int, (a != a) = false := fun a => by simp
      have HNE := Lib.hid hne
      clear hne
      go_wp2_with fail
      go_loopw [13, 49] (fun v i wr => ∃ (j : Nat) (at_ : Int), j ≤ d1 ∧ v = .int .i64 at_ ∧ i = .int .i64 (j : Int) ∧ Hid (runTo q0 (ds.take j) = at_) ∧ Hid (Kept noBlock w7 wr)) (fun _ i _ => d1 - (intOf i).toNat)
      case atStart => exact ⟨0, q0, by omega, rfl, rfl, rfl, Kept.refl _ _⟩
      case round =>
        obtain ⟨j, at_, hjd, rfl, rfl, HA, HK⟩ := hrel
        by_cases hlt : j < d1
        · obtain ⟨x, hx⟩ : ∃ x, ds[j]? = some x := ⟨_, List.getElem?_eq_getElem (by have := HD1.out; omega)⟩
          obtain ⟨g, oo, rfl, _, cc⟩ := (HL1.out.keep HK.out (fun _ _ h => h)).elem (enc := RefV.cells) ref_len (by omega) hx
          have e0 := cc 0 _ rfl
          have e1 := cc 1 _ rfl
          have e2 := cc 2 _ rfl
          have e3 := cc 3 _ rfl
          rw [Nat.add_zero] at e0
          have hkd : x.kind = 1 := (mem_ordK.1 (HGD.out.mem x (List.mem_of_getElem? hx))).2
          have hli := HGD.out.link j x hx
          rw [HA.out] at hli
          have hkb : (x.kind != 1) = false := by rw [hkd]; rfl
          have hfb : (x.from_ != at_) = false := by rw [hli.1]; exact HNE.out _
          have htb : ¬ x.to_ ≤ at_ := by omega
          have HA9 := Lib.hid (runTo_step (p := q0) hx)
          clear cc hx hkd hli
          go_upto_region 14 with (fail)
          have k3 := Kept.alloc noBlock wr (.cells #[.string x.name, .int .i64 x.kind, .int .i64 x.from_, .int .i64 x.to_] 37)
          have b3 := heap_alloc_new wr (.cells #[.string x.name, .int .i64 x.kind, .int .i64 x.from_, .int .i64 x.to_] 37)
          generalize wr.alloc (.cells #[.string x.name, .int .i64 x.kind, .int .i64 x.from_, .int .i64 x.to_] 37) = w8 at k3 b3 ⊢
          obtain ⟨y0, y1, y2, y3⟩ := ref_cells b3
          have K8 := Lib.hid (HK.out.step k3)
          clear e0 e1 e2 e3 k3 b3
          go_wp2
          go_roundw
          case rel => exact ⟨j + 1, x.to_, by omega, rfl, by go_num, HA9, K8⟩
          case measure => simp [intOf]; omega
        · obtain rfl : j = d1 := by omega
          have hA := HA.out
          rw [List.take_of_length_le (by have := HD1.out; omega), HGD.out.run] at hA
          subst hA
          have hqi : q ≤ ix := HGD.out.le
          obtain ⟨w9, hw9⟩ : ∃ w9, w9 = wr := ⟨_, rfl⟩
          have HK9 : Hid (Kept noBlock w7 w9) := by rw [hw9]; exact HK.out
          rw [← hw9]
          have HX9 := Lib.hid (HK9.out.blk HX7.out (fun h => h))
          obtain ⟨x0, x1, x2⟩ := tri_cells HX9.out
          clear HA HK hw9
          go_wp2_with fail
          go_loopw [13, 78] (fun v i wr2 => ∃ (k : Nat) (at_ : Int), k ≤ d2 ∧ v = .int .i64 at_ ∧ i = .int .i64 (k : Int) ∧ Hid (runM q (ps.take k) = at_) ∧ Hid (Kept noBlock w9 wr2)) (fun _ i _ => d2 - (intOf i).toNat)
          case atStart => exact ⟨0, q, by omega, rfl, rfl, rfl, Kept.refl _ _⟩
          case round =>
            obtain ⟨k, at_, hkd, rfl, rfl, HA, HK⟩ := hrel
            obtain ⟨x0, x1, x2⟩ := tri_cells (HK.out.blk HX9.out (fun h => h))
            by_cases hlt : k < d2
            · obtain ⟨x, hx⟩ : ∃ x, ps[k]? = some x := ⟨_, List.getElem?_eq_getElem (by have := HD2.out; omega)⟩
              obtain ⟨g, oo, rfl, _, cc⟩ := (HL2.out.keep (HK9.out.step HK.out) (fun _ _ h => h)).elem (enc := RefV.cells) ref_len (by omega) hx
              have e0 := cc 0 _ rfl
              have e1 := cc 1 _ rfl
              have e2 := cc 2 _ rfl
              have e3 := cc 3 _ rfl
              rw [Nat.add_zero] at e0
              obtain ⟨hme, hfr, hto⟩ := HGP.out k x hx
              have hkd2 : x.kind = 2 := (mem_ordK.1 hme).2
              rw [HA.out] at hfr hto
              have hkb : (x.kind != 2) = false := by rw [hkd2]; rfl
              obtain ⟨mx, hmx⟩ : ∃ mx, mx = max at_ x.to_ := ⟨_, rfl⟩
              have HA9 : Hid (runM q (ps.take (k + 1)) = mx) := by unfold Hid; rw [runM_step hx, HA.out, hmx]
              have hmx2 : max at_ x.to_ = mx := hmx.symm
              have hll : d2 = ps.length := HD2.out
              clear cc hx hkd2 hme hmx
              go_upto_region 23 with (fail)
              have k3 := Kept.alloc noBlock wr (.cells #[.string x.name, .int .i64 x.kind, .int .i64 x.from_, .int .i64 x.to_] 37)
              have b3 := heap_alloc_new wr (.cells #[.string x.name, .int .i64 x.kind, .int .i64 x.from_, .int .i64 x.to_] 37)
              generalize wr.alloc (.cells #[.string x.name, .int .i64 x.kind, .int .i64 x.from_, .int .i64 x.to_] 37) = w8 at k3 b3 ⊢
              obtain ⟨y0, y1, y2, y3⟩ := ref_cells b3
              obtain ⟨x0, x1, x2⟩ := tri_cells ((HK.out.step k3).blk HX9.out (fun h => h))
              have K8 := Lib.hid (HK.out.step k3)
              clear e0 e1 e2 e3 k3 b3
              by_cases hkl : k + 1 < ps.length
              · have hto := hto hkl
                have htb : ¬ x.to_ ≤ at_ := by omega
                have hk1 : (k : Int) < (d2 : Int) - 1 := by omega
                clear hll hkl hto
                go_wp2
                go_roundw
                case rel => exact ⟨k + 1, mx, by omega, rfl, by go_num, HA9, K8⟩
                case measure => simp [intOf]; omega
              · have hk1 : ¬ (k : Int) < (d2 : Int) - 1 := by omega
                clear hll hkl hto
                go_wp2
                go_roundw
                case rel => exact ⟨k + 1, mx, by omega, rfl, by go_num, HA9, K8⟩
                case measure => simp [intOf]; omega
            · obtain rfl : k = d2 := by omega
              have hA := HA.out
              rw [List.take_of_length_le (by have := HD2.out; omega)] at hA
              have hlast : ix ≤ at_ ∨ 0 < k := by
                rcases Nat.eq_zero_or_pos k with h0 | h0
                · have hnil : ps = [] := List.eq_nil_of_length_eq_zero (by rw [← HD2.out]; exact h0)
                  have h1 := HEM.out hnil
                  rw [hnil] at hA
                  have h2 : q = at_ := hA
                  exact .inl (by omega)
                · exact .inr h0
              have KF := Lib.hid (K7.out.step (HK9.out.step HK.out))
              clear hA HA HK
              by_cases hge : ix ≤ at_
              · clear hlast
                go_wp2
                go_ret
                exact ⟨by first | rfl | simp, KF.out⟩
              · have hk0 : (0 : Int) < (k : Int) := by rcases hlast with h | h; exact absurd h hge; omega
                clear hlast
                go_wp2
                go_ret
                exact ⟨by first | rfl | (simp; omega), KF.out⟩
end Go.Proofs.Ytollmkkbeeeccaa
