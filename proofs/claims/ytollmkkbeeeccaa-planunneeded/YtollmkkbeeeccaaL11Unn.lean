/-
  The walk of PlanUnneeded. No statement is proved here.
-/
import Derived.Test.YtollmkkbeeeccaaL11UnPl
namespace Go.Proofs.Ytollmkkbeeeccaa
open Go.RowKit Tot

set_option maxRecDepth 100000 in
set_option maxHeartbeats 2000000 in
theorem lunn_any (F : Nat → Prop) (A : Option Addr) (n c : Nat) (rs : List RfN) (fl at_ : UInt8) (w : World) (h : Lies w F A (rfCells rs)) (hl : n = rs.length) (hnc : n ≤ c) (hc : c ≤ 9223372036854775807) :
    Calls Try.prog 5 #[.slice A n c, .int .u8 (fl.toNat : Int), .int .u8 (at_.toNat : Int)] w fun e w' => e = .returned (.bool true) ∧ Kept noBlock w w' := by
  have AW := Lib.hid (awake_any w)
  have SE := Lib.hid (fun u (k : Kept noBlock w u) => set_any F A n c rs fl u (h.keep k (fun _ _ h => h)) hl hnc hc)
  obtain ⟨f, hf, _, hf12⟩ := rem_num fl 12 (by omega)
  obtain ⟨L, hL⟩ : ∃ L, L = setS rs := ⟨_, rfl⟩
  have hL14 : L.length ≤ 14 := by rw [hL]; exact setS_len rs
  rw [← hL, ← hf] at SE
  have HLS := Lib.hid hL
  have hgood : ∀ r ∈ L, r.kind = 0 → r.from_ = r.to_ := fun r hr => (setS_good (by rw [hL] at hr; exact hr)).2.2.2.2.2.2.2
  obtain ⟨m, hm⟩ : ∃ m, m = L.length := ⟨_, rfl⟩
  rw [← hm] at SE hL14
  have HM := Lib.hid hm
  clear h hl hnc hc hf hL hm
  obtain ⟨q, hq, t1, hq30⟩ := rem_num at_ 30 (by omega)
  have t1 : ((at_.toNat : Int)).tmod 30 = (q : Int) := t1
  have HBS := Lib.hid (base_same (n := (q : Int)) hgood)
  clear hq hgood
  go_enter Try.func5, Try.ntmps5
  go_wp2_with fail
  refine AW.out.mono ?_
  rintro e w1 ⟨rfl, k1⟩
  have K1 := Lib.hid k1
  clear k1 AW
  go_wp2_with fail
  refine (SE.out _ K1.out).mono ?_
  rintro e w2 ⟨A', c', rfl, o2, k2⟩
  have ka := Kept.alloc noBlock w2 (.cells #[.slice A' m c', .int .i64 (f : Int)] 27)
  have ha := heap_alloc_new w2 (.cells #[.slice A' m c', .int .i64 (f : Int)] 27)
  go_upto_region 5 with (fail)
  obtain ⟨S, hS⟩ : ∃ S, S = w2.heap.size := ⟨_, rfl⟩
  rw [← hS] at ha ⊢
  generalize w2.alloc (.cells #[.slice A' m c', .int .i64 (f : Int)] 27) = w3 at ka ha ⊢
  have K3 := Lib.hid (K1.out.step (k2.step ka))
  have HS3 := Lib.hid ha
  have HLI := Lib.hid ((Lies.of_rows (F := fun _ => True) o2 (fun _ _ => trivial)).keep ka (fun _ _ h => h))
  have HSW : Hid (w.heap.size ≤ S) := by unfold Hid; rw [hS]; exact (K1.out.step k2).size
  clear k2 ka ha o2 SE hS
  obtain ⟨s0, s1⟩ := pair_cells HS3.out
  have FU := Lib.hid (lfl_any (fun _ => True) A' m c' f q L w3 HLI.out HM.out.symm (by omega))
  have LO := Lib.hid (fun u (k : Kept noBlock w3 u) => lof_any (fun _ => True) A' m c' f 2 L u (HLI.out.keep k (fun _ _ h => h)) HM.out.symm (by omega))
  have UN := Lib.hid (fun u (k : Kept noBlock w3 u) => unn_any (fun _ => True) A' m c' f q L u (HLI.out.keep k (fun _ _ h => h)) HM.out.symm (by omega))
  obtain ⟨b, hb⟩ : ∃ b, b = baseV L q := ⟨_, rfl⟩
  rw [HBS.out, ← hb] at FU
  obtain ⟨wn, hwn⟩ : ∃ wn, wn = unnV L q := ⟨_, rfl⟩
  have HWN : Hid (wn = unnL (plcO (lastV L)) b L) := by unfold Hid; rw [hwn, unnV_eq, hb]
  rw [← hwn] at UN
  obtain ⟨z, hz⟩ : ∃ z, z = bestB (fullV (ordK 0 L) q) := ⟨_, rfl⟩
  rw [← hz] at FU
  obtain ⟨es, hes⟩ : ∃ es, es = ordK 2 L := ⟨_, rfl⟩
  obtain ⟨d, hd⟩ : ∃ d, d = es.length := ⟨_, rfl⟩
  have hdm : d ≤ m := by rw [hd, hes]; unfold ordK; rw [ordV_len]; have := ofK_len 2 L; have := HM.out; omega
  obtain ⟨lst, hlst⟩ : ∃ lst, lst = (lastV L).map (·.2) := ⟨_, rfl⟩
  have HLA : Hid (∀ j, j + 1 = d → es[j]? = lst) := by intro j hj; rw [hes, hlst]; exact last_same L j (by rw [← hes, ← hd]; exact hj)
  have HLN : Hid (d = 0 ↔ lst = none) := by unfold Hid; rw [hd, hes, hlst, last_none]; cases lastV L <;> simp
  have HWS : Hid (∀ (j : Nat) (x : RefV), L[j]? = some x → unnL (plcO (lastV L)) b (L.take (j + 1)) = unnL (plcO (lastV L)) b (L.take j) ++ if wantB lst b x = true then [x.name] else []) := by
    intro j x hx
    rw [unnL_step hx, hlst]
    congr 1
    simp only [want_same HLS.out hx]
  obtain ⟨ul, hul⟩ : ∃ ul : List RefV → List ByteArray, ul = unnL (plcO (lastV L)) b := ⟨_, rfl⟩
  have HU0 : Hid (ul [] = []) := by unfold Hid; rw [hul]; rfl
  rw [← hul] at HWN HWS
  rw [← hes, ← hd] at LO
  have HD := Lib.hid hd
  clear hb hwn hz hes hd hlst hul HBS
  unfold RefV.val at FU
  go_wp2_with fail
  refine FU.out.mono ?_
  rintro e w4 ⟨rfl, k4⟩
  have ka := Kept.alloc noBlock w4 (.cells #[.string z.name, .int .i64 z.kind, .int .i64 z.from_, .int .i64 z.to_] 37)
  go_upto_region 6 with (fail)
  generalize w4.alloc (.cells #[.string z.name, .int .i64 z.kind, .int .i64 z.from_, .int .i64 z.to_] 37) = w5 at ka ⊢
  have K5 := Lib.hid (k4.step ka)
  obtain ⟨s0, s1⟩ := pair_cells (K5.out.blk HS3.out (fun h => h))
  clear k4 ka FU t1
  go_wp2_with fail
  refine (LO.out _ K5.out).mono ?_
  rintro e w6 ⟨A1, c1, rfl, o6, k6⟩
  have K6 := Lib.hid (K5.out.step k6)
  have HLE := Lib.hid (Lies.of_rows (F := fun _ => True) o6 (fun _ _ => trivial))
  have hdc : d ≤ c1 := by
    obtain ⟨_, _, e9, hle9⟩ := own_form o6
    injection e9 with _ _ e9
    omega
  clear k6 o6 LO s0 s1 K5
  obtain ⟨s0, s1⟩ := pair_cells (K6.out.blk HS3.out (fun h => h))
  go_wp2_with fail
  clear s0 s1
  go_loopw [12, 37] (fun v i wr => ∃ (j k : Nat) (A5 : Option Addr) (c5 : Nat), j ≤ m ∧ k ≤ j ∧ k ≤ c5 ∧ v = .slice A5 k c5 ∧ i = .int .i64 (j : Int) ∧ Hid (k = (ul (L.take j)).length) ∧ Hid (wr.ownsRow w6.heap.size 9 1 (.slice A5 k c5) k (nmCells (ul (L.take j)))) ∧ Hid (Kept noBlock w6 wr)) (fun _ i _ => m - (intOf i).toNat)
  case atStart => exact ⟨0, 0, none, 0, by omega, by omega, by omega, rfl, rfl, Lib.hid (by rw [List.take_zero, HU0.out]; rfl), Lib.hid (by rw [List.take_zero, HU0.out]; exact World.ownsRow_nil _ _ _ _), Kept.refl _ _⟩
  case round =>
    obtain ⟨j, k, A5, c5, hjm, hkj, hkc, rfl, rfl, HKL, HO, HK⟩ := hrel
    by_cases hlt : j < m
    · obtain ⟨x, hx⟩ : ∃ x, L[j]? = some x := ⟨_, List.getElem?_eq_getElem (by have := HM.out; omega)⟩
      obtain ⟨g, o, rfl, _, cc⟩ := (HLI.out.keep (K6.out.step HK.out) (fun _ _ h => h)).elem (enc := RefV.cells) ref_len (by omega) hx
      have e0 := cc 0 _ rfl
      have e1 := cc 1 _ rfl
      have e2 := cc 2 _ rfl
      have e3 := cc 3 _ rfl
      rw [Nat.add_zero] at e0
      have ST := Lib.hid (HWS.out j x hx)
      clear hx cc
      go_upto_region 11 with (fail)
      have k3 := Kept.alloc noBlock wr (.cells #[.string x.name, .int .i64 x.kind, .int .i64 x.from_, .int .i64 x.to_] 37)
      have b3 := heap_alloc_new wr (.cells #[.string x.name, .int .i64 x.kind, .int .i64 x.from_, .int .i64 x.to_] 37)
      obtain ⟨C, hC⟩ : ∃ C, C = wr.heap.size := ⟨_, rfl⟩
      rw [← hC] at b3 ⊢
      generalize wr.alloc (.cells #[.string x.name, .int .i64 x.kind, .int .i64 x.from_, .int .i64 x.to_] 37) = w8 at k3 b3 ⊢
      obtain ⟨d0, d1, d2, d3⟩ := ref_cells b3
      have HB8 := Lib.hid b3
      have K8 := Lib.hid (HK.out.step k3)
      have OL := Lib.hid (own_keep HO.out k3 (fun _ _ h => h))
      obtain ⟨gl, hgl⟩ : ∃ gl : Bool, gl = decide (lst = some x) := ⟨_, rfl⟩
      have HGL := Lib.hid hgl
      clear e0 e1 e2 e3 k3 b3 hC hgl HO HK
      go_cut [15] (fun y wc => y = .bool gl ∧ Kept noBlock w8 wc)
      case first =>
        by_cases hd0 : d = 0
        · have hgf : gl = false := by rw [HGL.out, HLN.out.1 hd0]; simp
          subst hgf
          subst hd0
          have hg0 : decide ((0 : Int) < ((0 : Nat) : Int)) = false := rfl
          go_quiet (fail)
          go_wp2_with fail
          go_meet
          exact ⟨by first | rfl | simp, Kept.drewN _ _ _⟩
        · obtain ⟨r, rfl⟩ : ∃ r, d = r + 1 := ⟨d - 1, by omega⟩
          obtain ⟨y, hy⟩ : ∃ y, es[r]? = some y := ⟨_, List.getElem?_eq_getElem (by have := HD.out; omega)⟩
          have hly : lst = some y := by rw [← HLA.out r rfl, hy]
          have hgv : gl = decide (y = x) := by rw [HGL.out, hly]; simp
          obtain ⟨g2, o2, rfl, _, cc⟩ := (HLE.out.keep K8.out (fun _ _ h => h)).elem (enc := RefV.cells) ref_len (by omega) hy
          have z0 := cc 0 _ rfl
          have z1 := cc 1 _ rfl
          have z2 := cc 2 _ rfl
          have z3 := cc 3 _ rfl
          rw [Nat.add_zero] at z0
          have EQ := fun u => ref_eql u y x
          rw [← hgv] at EQ
          unfold RefV.val at EQ
          have hpos : decide ((0 : Int) < ((r + 1 : Nat) : Int)) = true := decide_eq_true (by omega)
          have hq1 : ((r + 1 : Nat) : Int) - 1 = (r : Int) := by omega
          clear cc hy hly hgv
          go_quiet (fail)
          go_wp2_with fail
          go_meet
          exact ⟨by first | rfl | simp, Kept.drewN _ _ _⟩
      case rest =>
        obtain ⟨rfl, kc⟩ := hcut
        have K9 := Lib.hid (K8.out.step kc)
        have OL9 := Lib.hid (own_keep OL.out kc (fun _ _ h => h))
        have HB9 := Lib.hid (kc.blk HB8.out (fun h => h))
        obtain ⟨w9, hw9⟩ : ∃ w9, w9 = wc := ⟨_, rfl⟩
        rw [← hw9] at K9 OL9 HB9 ⊢
        clear kc hw9 d0 d1 d2 d3 K8 OL HB8
        obtain ⟨d0, d1, d2, d3⟩ := ref_cells HB9.out
        obtain ⟨gw, hgw⟩ : ∃ gw : Bool, gw = wantB lst b x := ⟨_, rfl⟩
        have HGW := Lib.hid hgw
        rw [← hgw] at ST
        clear hgw
        go_upto_region 12 with (fail)
        go_cut [83] (fun y wc => y = .bool gw ∧ w9 = wc)
        case first =>
          by_cases h0 : x.kind = 0
          · have hb1 : (x.kind == 0) = true := by simpa using h0
            have hb2 : (x.kind != 0) = false := by simpa using h0
            have hgv : gw = decide (x.to_ < b) := by rw [HGW.out, wantB, if_pos h0]
            clear h0
            by_cases h1 : x.to_ < b
            · have hgt : gw = true := by rw [hgv, decide_eq_true h1]
              subst hgt
              clear hgv
              go_wp2_with fail
              go_meet
              exact ⟨by first | rfl | simp, rfl⟩
            · have hgt : gw = false := by rw [hgv, decide_eq_false h1]
              subst hgt
              clear hgv
              go_wp2_with fail
              go_meet
              exact ⟨by first | rfl | simp, rfl⟩
          · have hb1 : (x.kind == 0) = false := by simpa using h0
            have hb2 : (x.kind != 0) = true := by simpa using h0
            have hgv : gw = (!gl && (decide (x.to_ ≤ b) && decide (x.from_ < b))) := by rw [HGW.out, wantB, if_neg h0, HGL.out]; simp
            clear h0
            cases gl with
            | true =>
              have hgt : gw = false := by rw [hgv]; rfl
              subst hgt
              clear hgv
              go_wp2_with fail
              go_meet
              exact ⟨by first | rfl | simp, rfl⟩
            | false =>
              by_cases h1 : x.to_ ≤ b
              · by_cases h2 : x.from_ < b
                · have hgt : gw = true := by rw [hgv, decide_eq_true h1, decide_eq_true h2]; rfl
                  subst hgt
                  clear hgv
                  go_wp2_with fail
                  go_meet
                  exact ⟨by first | rfl | simp, rfl⟩
                · have hgt : gw = false := by rw [hgv, decide_eq_true h1, decide_eq_false h2]; rfl
                  subst hgt
                  clear hgv
                  go_wp2_with fail
                  go_meet
                  exact ⟨by first | rfl | simp, rfl⟩
              · have hgt : gw = false := by rw [hgv, decide_eq_false h1]; rfl
                subst hgt
                clear hgv
                go_wp2_with fail
                go_meet
                exact ⟨by first | rfl | simp, rfl⟩
        case rest =>
          obtain ⟨rfl, rfl⟩ := hcut
          cases gw with
          | false =>
            have HS : Hid (ul (L.take (j + 1)) = ul (L.take j)) := by unfold Hid; rw [ST.out, if_neg (by simp), List.append_nil]
            clear ST
            go_wp2
            go_roundw
            case rel => exact ⟨j + 1, k, A5, c5, by omega, by omega, hkc, rfl, by go_num, Lib.hid (by rw [HS.out, HKL.out]), Lib.hid (by rw [HS.out]; exact OL9.out), K9⟩
            case measure => simp [intOf]; omega
          | true =>
            have HS : Hid (ul (L.take (j + 1)) = ul (L.take j) ++ [x.name]) := by unfold Hid; rw [ST.out, if_pos rfl]
            obtain ⟨ns, hns⟩ : ∃ ns, ns = ul (L.take j) := ⟨_, rfl⟩
            rw [← hns] at OL9 HKL HS
            clear hns ST
            go_wp2_with (at_builtin; refine wpList_append_src rfl _ _ 43 43 rfl 9 (.string ⟨#[]⟩) 1 16 Try.underlying43 Try.infoStrU rfl (.slice A5 k c5) k (nmCells ns) rfl (own_base (own_keep OL9.out (Kept.alloc noBlock _ _) (fun _ _ h => h)) (fun _ _ => Nat.zero_le _)) _ 1 [.string x.name] rfl (src_new Try.underlying43 _ rfl (heap_alloc_new _ _)) ?c3 ?c4 ?_)
            case c3 => unfold maxLen; omega
            case c4 => omega
            intro A9 c9 u9 o9 k9 a9
            have ka := Kept.alloc noBlock w9 (.cells #[.string x.name] 9)
            have NX := Lib.hid (own_next (K9.out.step ka) (own_keep OL9.out ka (fun _ _ h => h)) o9 k9 a9)
            have hc9 : k + 1 ≤ c9 := by
              obtain ⟨_, _, e9, hle9⟩ := own_form o9
              injection e9 with _ _ e9
              omega
            clear d0 d1 d2 d3 o9 k9 a9 ka
            go_wp2
            go_roundw
            case rel => exact ⟨j + 1, k + 1, A9, c9, by omega, by omega, hc9, rfl, by go_num, Lib.hid (by rw [HS.out, List.length_append, HKL.out]; rfl), Lib.hid (by rw [HS.out]; unfold nmCells; rw [List.map_append]; exact NX.out.1), Lib.hid NX.out.2⟩
            case measure => simp [intOf]; omega
    · obtain rfl : j = m := by omega
      have htk : L.take j = L := List.take_of_length_le (by have := HM.out; omega)
      rw [htk, ← HWN.out] at HKL HO
      have HLW := Lib.hid (Lies.of_own (F := fun _ => True) HO.out (fun _ _ => trivial))
      obtain ⟨s0, s1⟩ := pair_cells ((K6.out.step HK.out).blk HS3.out (fun h => h))
      have UN1 := Lib.hid (UN.out wr (K6.out.step HK.out))
      have hkl := HKL.out
      rw [← hkl] at UN1
      clear htk hkl UN HO
      go_wp2_with fail
      refine UN1.out.mono ?_
      rintro e w10 ⟨A7, c7, rfl, o10, k10⟩
      have HL7 := Lib.hid (Lies.of_own (F := fun _ => True) o10 (fun _ _ => trivial))
      have hkc7 : k ≤ c7 := by
        obtain ⟨_, _, e9, hle9⟩ := own_form o10
        injection e9 with _ _ e9
        omega
      have HL5 := Lib.hid (HLW.out.keep k10 (fun _ _ h => h))
      have K10 := Lib.hid (K3.out.step (K6.out.step (HK.out.step k10)))
      have hbk : ((k : Int) != (k : Int)) = false := by simp
      clear s0 s1 UN1 o10 k10 HK HLW
      go_wp2_with fail
      go_loopw [100] (fun i wr => ∃ t : Nat, t ≤ k ∧ i = .int .i64 (t : Int) ∧ Hid (Kept noBlock w10 wr)) (fun i _ => k - (intOf i).toNat)
      case atStart => exact ⟨0, by omega, rfl, Kept.refl _ _⟩
      case round =>
        obtain ⟨t, htk, rfl, HK⟩ := hrel
        by_cases hlt2 : t < k
        · obtain ⟨s, hs⟩ : ∃ s, wn[t]? = some s := ⟨_, List.getElem?_eq_getElem (by have := HKL.out; omega)⟩
          have hsc : (nmCells wn)[t]? = some (.string s) := by unfold nmCells; rw [List.getElem?_map, hs]; rfl
          obtain ⟨ad1, rfl, _, y1⟩ := (HL5.out.keep HK.out (fun _ _ h => h)).at_ hsc
          obtain ⟨ad2, rfl, _, y2⟩ := (HL7.out.keep HK.out (fun _ _ h => h)).at_ hsc
          have hbs : (s.toList == s.toList) = true := by simp
          clear hs hsc
          go_upto_region 21 with (fail)
          go_quiet (fail)
          have K5 := Lib.hid (HK.out.step (Kept.drewN noBlock wr nq))
          generalize wr.drewN nq = w11 at K5 ⊢
          go_wp2
          go_roundw
          case rel => exact ⟨t + 1, by omega, by go_num, K5⟩
          case measure => simp [intOf]; omega
        · obtain rfl : t = k := by omega
          have KE := Lib.hid (K10.out.step HK.out)
          go_wp2
          go_ret
          exact ⟨by first | rfl | simp, KE.out⟩
end Go.Proofs.Ytollmkkbeeeccaa
