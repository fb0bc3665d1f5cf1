/-
  The walk of PlanStill. No statement is proved here.
-/
import Derived.Test.YtollmkkbeeeccaaL11StDo
namespace Go.Proofs.Ytollmkkbeeeccaa
open Go.RowKit Tot

set_option maxRecDepth 100000 in
set_option maxHeartbeats 2000000 in
theorem still_any (F : Nat → Prop) (A : Option Addr) (n c : Nat) (rs : List RfN) (la at_ mo : UInt8) (w : World) (h : Lies w F A (rfCells rs)) (hl : n = rs.length) (hnc : n ≤ c) (hc : c ≤ 9223372036854775807) :
    Calls Try.prog 6 #[.slice A n c, .int .u8 (la.toNat : Int), .int .u8 (at_.toNat : Int), .int .u8 (mo.toNat : Int)] w fun e w' => e = .returned (.bool true) ∧ Kept noBlock w w' := by
  have AW := Lib.hid (awake_any w)
  have SE := Lib.hid (fun u (k : Kept noBlock w u) => set_any F A n c rs 0 u (h.keep k (fun _ _ h => h)) hl hnc hc)
  obtain ⟨f, hf, _, hf12⟩ := rem_num 0 12 (by omega)
  obtain ⟨L, hL⟩ : ∃ L, L = setS rs := ⟨_, rfl⟩
  have hL14 : L.length ≤ 14 := by rw [hL]; exact setS_len rs
  rw [← hL, ← hf] at SE
  obtain ⟨m, hm⟩ : ∃ m, m = L.length := ⟨_, rfl⟩
  rw [← hm] at SE hL14
  have HM := Lib.hid hm
  have HLS := Lib.hid hL
  obtain rfl : f = 0 := hf
  have e0 : ((0 : UInt8).toNat : Int) = 0 := rfl
  rw [e0] at SE
  clear h hl hnc hc hL hm e0
  obtain ⟨lr, hlr, t1, hlr9⟩ := rem_num la 9 (by omega)
  have t1 : ((la.toNat : Int)).tmod 9 = (lr : Int) := t1
  obtain ⟨nn, hnn⟩ : ∃ nn, nn = 24 + lr := ⟨_, rfl⟩
  have hn32 : nn ≤ 32 := by omega
  have en : (24 : Int) + (lr : Int) = (nn : Int) := by omega
  obtain ⟨fq, hfq⟩ : ∃ fq, fq = at_.toNat % (nn + 1) := ⟨_, rfl⟩
  have hfn : fq ≤ nn := by have := Nat.mod_lt at_.toNat (show 0 < nn + 1 by omega); omega
  have t2 : ((at_.toNat : Int)).tmod ((nn : Int) + 1) = (fq : Int) := by
    rw [hfq, Int.tmod_eq_emod_of_nonneg (by omega)]
    push_cast
    rfl
  have hat256 := at_.toNat_lt
  have hla256 := la.toNat_lt
  clear hlr hnn hfq
  go_enter Try.func6, Try.ntmps6
  go_wp2_with fail
  refine AW.out.mono ?_
  rintro e w1 ⟨rfl, k1⟩
  have K1 := Lib.hid k1
  clear k1 AW
  go_wp2_with fail
  refine (SE.out _ K1.out).mono ?_
  rintro e w2 ⟨A', c', rfl, o2, k2⟩
  have ka := Kept.alloc noBlock w2 (.cells #[.slice A' m c', .int .i64 0] 27)
  have ha := heap_alloc_new w2 (.cells #[.slice A' m c', .int .i64 0] 27)
  go_upto_region 5 with (fail)
  obtain ⟨S, hS⟩ : ∃ S, S = w2.heap.size := ⟨_, rfl⟩
  rw [← hS] at ha ⊢
  generalize w2.alloc (.cells #[.slice A' m c', .int .i64 0] 27) = w3 at ka ha ⊢
  have K3 := Lib.hid (K1.out.step (k2.step ka))
  have HS3 := Lib.hid ha
  have HLI := Lib.hid ((Lies.of_rows (F := fun _ => True) o2 (fun _ _ => trivial)).keep ka (fun _ _ h => h))
  have HSW : Hid (w.heap.size ≤ S) := by unfold Hid; rw [hS]; exact (K1.out.step k2).size
  clear k2 ka ha o2 SE hS
  obtain ⟨s0, s1⟩ := pair_cells HS3.out
  go_wp2_with fail
  go_loopw [10, 30] (fun v i wr => ∃ (j k : Nat) (A5 : Option Addr) (c5 : Nat), j ≤ m ∧ k ≤ j ∧ v = .slice A5 k c5 ∧ i = .int .i64 (j : Int) ∧ Hid (k = (noPart (L.take j)).length) ∧ Hid (wr.ownsRow w3.heap.size 37 4 (.slice A5 k c5) k (refCells (noPart (L.take j)))) ∧ Hid (Kept noBlock w3 wr)) (fun _ i _ => m - (intOf i).toNat)
  case atStart => exact ⟨0, 0, none, 0, by omega, by omega, rfl, rfl, rfl, World.ownsRow_nil _ _ _ _, Kept.refl _ _⟩
  case round =>
    obtain ⟨j, k, A5, c5, hjm, hkj, rfl, rfl, HKL, HO, HK⟩ := hrel
    by_cases hlt : j < m
    · obtain ⟨x, hx⟩ : ∃ x, L[j]? = some x := ⟨_, List.getElem?_eq_getElem (by have := HM.out; omega)⟩
      obtain ⟨g, o, rfl, _, cc⟩ := (HLI.out.keep HK.out (fun _ _ h => h)).elem (enc := RefV.cells) ref_len (by omega) hx
      have e0 := cc 0 _ rfl
      have e1 := cc 1 _ rfl
      have e2 := cc 2 _ rfl
      have e3 := cc 3 _ rfl
      rw [Nat.add_zero] at e0
      have ST := Lib.hid (noPart_step hx)
      clear hx cc
      go_upto_region 8 with (fail)
      have k3 := Kept.alloc noBlock wr (.cells #[.string x.name, .int .i64 x.kind, .int .i64 x.from_, .int .i64 x.to_] 37)
      have b3 := heap_alloc_new wr (.cells #[.string x.name, .int .i64 x.kind, .int .i64 x.from_, .int .i64 x.to_] 37)
      generalize wr.alloc (.cells #[.string x.name, .int .i64 x.kind, .int .i64 x.from_, .int .i64 x.to_] 37) = w8 at k3 b3 ⊢
      obtain ⟨d0, d1, d2, d3⟩ := ref_cells b3
      have K8 := Lib.hid (HK.out.step k3)
      have OL := Lib.hid (own_keep HO.out k3 (fun _ _ h => h))
      clear e0 e1 e2 e3 k3 b3
      by_cases hkd : x.kind = 2
      · have hbq : (x.kind != 2) = false := by simpa using hkd
        have HS : Hid (noPart (L.take (j + 1)) = noPart (L.take j)) := by unfold Hid; rw [ST.out, if_neg (fun h => h hkd), List.append_nil]
        clear hkd HO HK
        go_wp2
        go_roundw
        case rel => exact ⟨j + 1, k, A5, c5, by omega, by omega, rfl, by go_num, Lib.hid (by rw [HS.out, HKL.out]), Lib.hid (by rw [HS.out]; exact OL.out), K8⟩
        case measure => simp [intOf]; omega
      · have hbq : (x.kind != 2) = true := by simpa using hkd
        have HS : Hid (noPart (L.take (j + 1)) = noPart (L.take j) ++ [x]) := by unfold Hid; rw [ST.out, if_pos hkd]
        obtain ⟨es, hes⟩ : ∃ es, es = noPart (L.take j) := ⟨_, rfl⟩
        rw [← hes] at HO HKL HS OL
        clear hkd hes
        go_wp2_with (at_builtin; refine wpList_append_src rfl _ _ 25 25 rfl 37 noRef.val 4 40 Try.underlying25 Try.infoRef rfl (.slice A5 k c5) k (refCells es) rfl (own_base (own_keep OL.out (Kept.alloc noBlock _ _) (fun _ _ h => h)) (fun _ _ => Nat.zero_le _)) _ 1 (refCells [x]) rfl (src_ref x (heap_alloc_new _ _)) ?c3 ?c4 ?_)
        case c3 => unfold maxLen; omega
        case c4 => omega
        intro A9 c9 u9 o9 k9 a9
        have ka := Kept.alloc noBlock w8 (.cells #[.string x.name, .int .i64 x.kind, .int .i64 x.from_, .int .i64 x.to_] 37)
        have NX := Lib.hid (own_next (K8.out.step ka) (own_keep OL.out ka (fun _ _ h => h)) o9 k9 a9)
        clear d0 d1 d2 d3 o9 k9 a9 ka hbq
        go_wp2
        go_roundw
        case rel => exact ⟨j + 1, k + 1, A9, c9, by omega, by omega, rfl, by go_num, Lib.hid (by rw [HS.out, List.length_append, HKL.out]; rfl), Lib.hid (by rw [HS.out, refCells_append]; exact NX.out.1), Lib.hid NX.out.2⟩
        case measure => simp [intOf]; omega
    · obtain rfl : j = m := by omega
      have htk : L.take j = L := List.take_of_length_le (by have := HM.out; omega)
      rw [htk] at HKL HO
      obtain ⟨B, hB⟩ : ∃ B, B = noPart L := ⟨_, rfl⟩
      have HBE : Hid (stillS rs = B ++ parts4) := by unfold Hid stillS; rw [hB, HLS.out]
      rw [← hB] at HKL HO
      obtain ⟨w4, hw4⟩ : ∃ w4, w4 = wr := ⟨_, rfl⟩
      rw [← hw4] at HO HK ⊢
      clear htk hw4 hB
      go_wp2_with fail
      go_loopw [10, 13] (fun v i wr => ∃ (q k2 : Nat) (A6 : Option Addr) (c6 : Nat), q ≤ 4 ∧ k2 = k + q ∧ k2 ≤ c6 ∧ v = .slice A6 k2 c6 ∧ i = .int .i64 (q : Int) ∧ Hid (wr.ownsRow w3.heap.size 37 4 (.slice A6 k2 c6) k2 (refCells (B ++ parts4.take q))) ∧ Hid (Kept noBlock w3 wr)) (fun _ i _ => 4 - (intOf i).toNat)
      case atStart => exact ⟨0, k, A5, c5, by omega, by omega, by obtain ⟨_, _, e9, hle9⟩ := own_form HO.out; injection e9 with _ _ e9; omega, rfl, rfl, Lib.hid (by rw [List.take_zero, List.append_nil]; exact HO.out), HK⟩
      case round =>
        obtain ⟨q, k2, A6, c6, hq4, hk2, hkc6, rfl, rfl, HO2, HK2⟩ := hrel
        have HQE := Lib.hid hk2
        have hkb0 : k2 ≤ 18 := by omega
        clear hk2
        by_cases hlt2 : q < 4
        · obtain ⟨w5, hw5⟩ : ∃ w5, w5 = wr := ⟨_, rfl⟩
          rw [← hw5] at HO2 HK2 ⊢
          obtain ⟨nm, hnm⟩ : ∃ nm, nm = str [112, UInt8.ofNat (48 + q)] := ⟨_, rfl⟩
          have hcv : ∀ c', (convert 46 9 (.slice (some ⟨w5.heap.size, 0, none⟩) 2 c')).run Try.prog (w5.alloc (.cells #[.int .u8 112, .int .u8 (48 + (q : Int))] 5)) = .ok (.string nm) (w5.alloc (.cells #[.int .u8 112, .int .u8 (48 + (q : Int))] 5)) := fun c' => by
            rw [hnm]
            exact strS_two (y := 112) (z := UInt8.ofNat (48 + q)) rfl (by have : (UInt8.ofNat (48 + q)).toNat = (48 + q) % 256 := by simp
                                                                          omega) (heap_alloc_new _ _) c'
          have HPE := Lib.hid (pP_eq q nm hnm)
          obtain ⟨es, hes⟩ : ∃ es, es = B ++ parts4.take q := ⟨_, rfl⟩
          have HSE : Hid (B ++ parts4.take (q + 1) = es ++ [pP q]) := by unfold Hid; rw [parts_step hlt2, hes, List.append_assoc]
          rw [← hes] at HO2
          have ka := Kept.alloc noBlock w5 (.cells #[.int .u8 112, .int .u8 (48 + (q : Int))] 5)
          have OL := Lib.hid (own_keep HO2.out ka (fun _ _ h => h))
          have KA := Lib.hid (HK2.out.step ka)
          obtain ⟨wa, hwa⟩ : ∃ wa, wa = w5.alloc (.cells #[.int .u8 112, .int .u8 (48 + (q : Int))] 5) := ⟨_, rfl⟩
          rw [← hwa] at OL KA
          have HWA := Lib.hid hwa
          have HWS : Hid (w5.heap.size + 1 = wa.heap.size) := by unfold Hid; rw [hwa]; exact (Array.size_push _).symm
          have hkb : k2 ≤ 40 := by omega
          clear hw5 hnm hes ka hwa
          go_wp2_with (at_builtin; rw [← HWA.out]; refine wpList_append_src rfl _ _ 25 25 rfl 37 noRef.val 4 40 Try.underlying25 Try.infoRef rfl (.slice A6 k2 c6) k2 (refCells es) rfl (own_base (own_keep OL.out (Kept.alloc noBlock _ _) (fun _ _ h => h)) (fun _ _ => Nat.zero_le _)) _ 1 (refCells [⟨nm, 2, 8 * (q : Int), 8 * (q : Int) + 8⟩]) rfl (src_ref _ (by rw [HWS.out]; exact heap_alloc_new _ _)) ?c3 ?c4 ?_)
          case c3 => unfold maxLen; omega
          case c4 => omega
          intro A9 c9 u9 o9 k9 a9
          have kb := Kept.alloc noBlock wa (.cells (RefV.cells ⟨nm, 2, 8 * (q : Int), 8 * (q : Int) + 8⟩).toArray 37)
          have NX := Lib.hid (own_next (KA.out.step kb) (own_keep OL.out kb (fun _ _ h => h)) o9 k9 a9)
          have hc9 : k2 + 1 ≤ c9 := by
            obtain ⟨_, _, e9, hle9⟩ := own_form o9
            injection e9 with _ _ e9
            omega
          have HO9 : Hid (u9.ownsRow w3.heap.size 37 4 (.slice A9 (k2 + 1) c9) (k2 + 1) (refCells (B ++ parts4.take (q + 1)))) := by
            unfold Hid
            rw [HSE.out, refCells_append, ← HPE.out]
            exact NX.out.1
          have KE := Lib.hid NX.out.2
          clear o9 k9 a9 kb NX hcv
          go_wp2
          go_roundw
          case rel => exact ⟨q + 1, k2 + 1, A9, c9, by omega, by have := HQE.out; omega, hc9, rfl, by go_num, HO9, KE⟩
          case measure => simp [intOf]; omega
        · have hq44 : q = 4 := by omega
          have hge4 : ¬ ((q : Int) < 4) := by omega
          have ho2 := HO2.out
          rw [hq44, show B ++ parts4.take 4 = stillS rs from HBE.out.symm] at ho2
          obtain ⟨T, hT⟩ : ∃ T, T = stillS rs := ⟨_, rfl⟩
          rw [← hT] at ho2
          have HTE := Lib.hid hT
          have HTL : Hid (T.length = k2) := by
            have := ho2.1
            rw [refCells_length] at this
            unfold Hid
            omega
          have hk18 : k2 ≤ 18 := by have := still_len rs; rw [← hT] at this; have := HTL.out; omega
          obtain ⟨w5, hw5⟩ : ∃ w5, w5 = wr := ⟨_, rfl⟩
          rw [← hw5] at ho2 HK2 ⊢
          clear hq44
          have hsb := HK2.out.blk HS3.out (fun h => h)
          obtain ⟨s0, s1⟩ := pair_cells hsb
          have f0 : w5.frozen? ⟨S, 0, none⟩ = false := frozen_of_row _ _ _ _ _ hsb
          have kz : Kept (fun i => i = S) w5 (w5.setCell ⟨S, 0, none⟩ (.slice A6 k2 c6)) := Kept.setCell w5 (by rfl) _
          have hz := heap_setCell_same w5 S 0 _ 27 (.slice A6 k2 c6) hsb
          have HS6 : Hid ((w5.setCell ⟨S, 0, none⟩ (.slice A6 k2 c6)).heap[S]? = some (.cells #[.slice A6 k2 c6, .int .i64 0] 27 (0, 0))) := by unfold Hid; simpa using hz
          have HLT := Lib.hid (Lies.of_rows (F := fun _ => True) (own_keep ho2 kz (fun i hi e => by have := (ho2.lt i hi).1; have := lt_of_blk HS3.out; omega)) (fun _ _ => trivial))
          have KZ := Lib.hid kz
          clear ho2 hT hw5 hsb kz hz HO2 HBE
          go_upto_region 16 with (fail)
          generalize w5.setCell ⟨S, 0, none⟩ (.slice A6 k2 c6) = w6 at HS6 HLT KZ ⊢
          have K6 : Hid (Kept noBlock w w6) := (K3.out.step HK2.out).trans KZ.out (fun i hi e => by have := HSW.out; omega)
          clear s0 s1 f0 HK2
          obtain ⟨T', hT'⟩ : ∃ T', T' = T.filter (keepU T (fq : Int)) := ⟨_, rfl⟩
          obtain ⟨d8, hd8⟩ : ∃ d8, d8 = T'.length := ⟨_, rfl⟩
          have hd818 : d8 ≤ 18 := by
            have h1 : T'.length ≤ T.length := by rw [hT']; exact List.length_filter_le _ _
            have := HTL.out
            omega
          obtain ⟨wn, hwn⟩ : ∃ wn, wn = unnV T (fq : Int) := ⟨_, rfl⟩
          obtain ⟨d, hd⟩ : ∃ d, d = wn.length := ⟨_, rfl⟩
          have DO := Lib.hid (fun u A7 c7 (h6 : Lies u (fun _ => True) A6 (refCells T)) (h7 : Lies u (fun _ => True) A7 (nmCells wn)) (hc7 : d ≤ c7) => still_do HTE.out hT' hwn HTL.out hd hd8 (by omega) hkc6 u A7 c7 h6 h7 hc7)
          have UN := Lib.hid (fun u (q : Kept noBlock w6 u) => unn_any (fun _ => True) A6 k2 c6 0 fq T u (HLT.out.keep q (fun _ _ h => h)) HTL.out (by omega))
          rw [← hwn, ← hd] at UN
          have HT8 := Lib.hid hT'
          have HD8 := Lib.hid hd8
          clear hT' hd8 hwn hd
          have CE : Hid (∀ v, Kept noBlock w6 v → v.cell? ⟨S, 0, none⟩ = some (.slice A6 k2 c6) ∧ v.cell? ⟨S, 1, none⟩ = some (.int .i64 0)) := fun v q => pair_cells (q.blk HS6.out (fun h => h))
          go_upto_region 18 with (fail)
          go_cut [16, 17] (fun p q wc => ∃ X A8 c8, p = .pointer (some ⟨X, 0, none⟩) ∧ q = .int .i64 0 ∧ Hid (wc.heap[X]? = some (.cells #[.slice A8 d8 c8, .int .i64 (fq : Int)] 27 (0, 0))) ∧ Hid (Lies wc (fun _ => True) A8 (refCells T')) ∧ Hid (Kept noBlock w6 wc))
          case first =>
            have KC : Hid (Kept noBlock w6 w6.drew) := Kept.drew _ _
            refine wp_region_noPanic ?_
            refine wp_region_held_drew (S := fun v => v.cell? ⟨S, 0, none⟩ = some (.slice A6 k2 c6) ∧ v.cell? ⟨S, 1, none⟩ = some (.int .i64 0)) (by kernel_rfl) (CE.out _ KC.out) (fun hHeld => ?_)
            refine wpAnyH_take (i := 0) (oi := ⟨some 72, Op.load 27 (Operand.tmp 9), 27, _, _, none⟩) (v := ?v0n1k1) rfl (by kernel_rfl) (by kernel_rfl) (by kernel_rfl) (fun _ _ _ h => h) (Or.inl ⟨by rfl, ?y0n1k1⟩) hHeld ?z0n1k1
            case y0n1k1 => intro w hSw; (try dsimp only at hSw); go_simp <;> rfl
            try simp only [Act.put, List.setIfInBounds_toArray, List.set_cons_zero, List.set_cons_succ]
            refine wpAnyH_take (i := 1) (oi := ⟨some 73, Op.load 27 (Operand.tmp 9), 27, _, _, none⟩) (v := ?v1n1k2) rfl (by kernel_rfl) (by kernel_rfl) (by kernel_rfl) (fun _ _ _ h => h) (Or.inl ⟨by rfl, ?y1n1k2⟩) hHeld ?z1n1k2
            case y1n1k2 => intro w hSw; (try dsimp only at hSw); go_simp <;> rfl
            try simp only [Act.put, List.setIfInBounds_toArray, List.set_cons_zero, List.set_cons_succ]
            refine wpAnyH_take (i := 2) (oi := ⟨some 74, Op.move (Operand.tmp 15), 3, _, _, none⟩) (v := ?v2n1k3) rfl (by kernel_rfl) (by kernel_rfl) (by kernel_rfl) (fun _ _ _ h => h) (Or.inl ⟨by rfl, ?y2n1k3⟩) hHeld ?z2n1k3
            case y2n1k3 => intro w hSw; (try dsimp only at hSw); go_simp <;> rfl
            try simp only [Act.put, List.setIfInBounds_toArray, List.set_cons_zero, List.set_cons_succ]
            refine wpAnyH_take (i := 4) (oi := ⟨some 76, Op.move (Operand.tmp 15), 3, _, _, none⟩) (v := ?v4n1k4) rfl (by kernel_rfl) (by kernel_rfl) (by kernel_rfl) (fun _ _ _ h => h) (Or.inl ⟨by rfl, ?y4n1k4⟩) hHeld ?z4n1k4
            case y4n1k4 => intro w hSw; (try dsimp only at hSw); go_simp <;> rfl
            try simp only [Act.put, List.setIfInBounds_toArray, List.set_cons_zero, List.set_cons_succ]
            refine wpAnyH_ready (rs := [3, 10]) (by kernel_rfl) (by simp) ?_
            refine (AllReadyH.cons (o := ⟨some 75, Op.call { callee := Callee.value (Operand.func 16), args := #[Operand.tmp 73, Operand.tmp 74], argTypes := #[27, 3] }, 43, _, _, none⟩) rfl (fun K hK => ?b3n1k6) (AllReadyH.cons (o := ⟨some 16, Op.alloc 27, 0, _, _, none⟩) rfl (fun K hK => ?b10n1k5) AllReadyH.nil))
            case b3n1k6 =>
              go_simp
              refine (UN.out _ KC.out).mono ?_
              rintro en u2 ⟨A7, c7, rfl, o7, kU⟩
              have H7 := Lib.hid (Lies.of_own (F := fun _ => True) o7 (fun _ _ => trivial))
              have hc7 : d ≤ c7 := by
                obtain ⟨_, _, e9, hle9⟩ := own_form o7
                injection e9 with _ _ e9
                omega
              try have HX2 := Lib.hid (kU.blk HB.out (fun h => h))
              try clear HB
              try have HB := HX2
              try clear HX2
              replace KC := Lib.hid (KC.out.step kU)
              clear o7 kU
              dsimp only
              refine hK.out _ _ (CE.out _ KC.out) (fun hHeld => ?_)
              clear hK K
              try simp only [Act.put, List.setIfInBounds_toArray, List.set_cons_zero, List.set_cons_succ]
              refine wpAnyH_take (i := 5) (oi := ⟨some 77, Op.build 50 #[(1, Operand.tmp 75), (2, Operand.tmp 76)], 50, _, _, none⟩) (v := ?v5n1k7) rfl (by kernel_rfl) (by kernel_rfl) (by kernel_rfl) (fun _ _ _ h => h) (Or.inl ⟨by rfl, ?y5n1k7⟩) hHeld ?z5n1k7
              case y5n1k7 => intro w hSw; (try dsimp only at hSw); go_simp <;> rfl
              try simp only [Act.put, List.setIfInBounds_toArray, List.set_cons_zero, List.set_cons_succ]
              refine wpAnyH_ready (rs := [6, 10]) (by kernel_rfl) (by simp) ?_
              refine (AllReadyH.cons (o := ⟨some 78, Op.call { callee := Callee.value (Operand.func 17), args := #[Operand.tmp 72, Operand.tmp 77], argTypes := #[27, 50] }, 47, _, _, none⟩) rfl (fun K hK => ?b6n1k9) (AllReadyH.cons (o := ⟨some 16, Op.alloc 27, 0, _, _, none⟩) rfl (fun K hK => ?b10n1k8) AllReadyH.nil))
              case b6n1k9 =>
                go_simp
                refine (DO.out _ A7 c7 (HLT.out.keep KC.out (fun _ _ h => h)) H7.out hc7).mono ?_
                rintro en u4 ⟨A8, c8, rfl, l8, k4⟩
                first
                  | have SW := Lib.hid (l8.mono (G := fun i => i ≠ X) (fun i hi => by have h1 := hi.1; have h2 := lt_of_blk HB.out; omega))
                  | have SW := Lib.hid (l8.mono (G := fun i => i < u4.heap.size) (fun i hi => hi.2))
                try have HX2 := Lib.hid (k4.blk HB.out (fun h => h))
                try clear HB
                try have HB := HX2
                try clear HX2
                replace KC := Lib.hid (KC.out.step k4)
                clear l8 k4
                dsimp only
                refine hK.out _ _ (CE.out _ KC.out) (fun hHeld => ?_)
                clear hK K
                try simp only [Act.put, List.setIfInBounds_toArray, List.set_cons_zero, List.set_cons_succ]
                refine wpAnyH_take (i := 7) (oi := ⟨some 71, Op.move (Operand.tmp 78), 47, _, _, none⟩) (v := ?v7n1k10) rfl (by kernel_rfl) (by kernel_rfl) (by kernel_rfl) (fun _ _ _ h => h) (Or.inl ⟨by rfl, ?y7n1k10⟩) hHeld ?z7n1k10
                case y7n1k10 => intro w hSw; (try dsimp only at hSw); go_simp <;> rfl
                try simp only [Act.put, List.setIfInBounds_toArray, List.set_cons_zero, List.set_cons_succ]
                refine wpAnyH_take (i := 8) (oi := ⟨some 79, Op.extract (Operand.tmp 71) 0, 27, _, _, none⟩) (v := ?v8n1k11) rfl (by kernel_rfl) (by kernel_rfl) (by kernel_rfl) (fun _ _ _ h => h) (Or.inl ⟨by rfl, ?y8n1k11⟩) hHeld ?z8n1k11
                case y8n1k11 => intro w hSw; (try dsimp only at hSw); go_simp <;> rfl
                try simp only [Act.put, List.setIfInBounds_toArray, List.set_cons_zero, List.set_cons_succ]
                refine wpAnyH_take (i := 9) (oi := ⟨some 80, Op.extract (Operand.tmp 71) 1, 32, _, _, none⟩) (v := ?v9n1k12) rfl (by kernel_rfl) (by kernel_rfl) (by kernel_rfl) (fun _ _ _ h => h) (Or.inl ⟨by rfl, ?y9n1k12⟩) hHeld ?z9n1k12
                case y9n1k12 => intro w hSw; (try dsimp only at hSw); go_simp <;> rfl
                try simp only [Act.put, List.setIfInBounds_toArray, List.set_cons_zero, List.set_cons_succ]
                refine wpAnyH_ready (rs := [10]) (by kernel_rfl) (by simp) ?_
                refine AllReadyH.cons (o := ⟨some 16, Op.alloc 27, 0, _, _, none⟩) rfl (fun K hK => ?_) AllReadyH.nil
                refine step_allocS ?_
                intro X u9 k9 hX9 hx9
                have HB := Lib.hid hx9
                have LX : Hid (w6.heap.size ≤ X) := Nat.le_trans KC.out.size hX9
                replace KC := Lib.hid (KC.out.step k9)
                try have H75 := Lib.hid (H7.out.keep k9 (fun _ _ h => h))
                try clear H7
                try have H7 := H75
                try clear H75
                try have SW9 := Lib.hid ((SW.out.keep k9 (fun _ _ h => h)).mono (G := fun i => i ≠ X) (fun i hi => by omega))
                try clear SW
                try have SW := SW9
                try clear SW9
                clear k9 hX9 hx9
                refine hK.out _ _ (CE.out _ KC.out) (fun hHeld => ?_)
                clear hK K
                try simp only [Act.put, List.setIfInBounds_toArray, List.set_cons_zero, List.set_cons_succ]
                refine wpAnyH_ready (rs := [11]) (by kernel_rfl) (by simp) ?_
                refine AllReadyH.cons (o := ⟨none, Op.store 27 (Operand.tmp 16) (Operand.tmp 79), 0, _, _, none⟩) rfl (fun K hK => ?_) AllReadyH.nil
                refine step_storeS rfl rfl HB.out ?_
                have R := Lib.hid (still_end (n := d8) (c := c8) (f := (fq : Int)) HB.out SW.out KC.out LX.out)
                replace KC := Lib.hid (KC.out.trans (two_set (x0 := .slice A8 d8 c8) (x1 := .int .i64 (fq : Int)) HB.out).2 (fun i hi e => by have := LX.out; omega))
                refine hK.out _ _ (CE.out _ KC.out) (fun hHeld => ?_)
                clear hK K
                try simp only [Act.put, List.setIfInBounds_toArray, List.set_cons_zero, List.set_cons_succ]
                refine wpAnyH_take (i := 12) (oi := ⟨some 17, Op.assign (Operand.tmp 80), 32, _, _, none⟩) (v := ?v12n1k13) rfl (by kernel_rfl) (by kernel_rfl) (by kernel_rfl) (fun _ _ _ h => h) (Or.inl ⟨by rfl, ?y12n1k13⟩) hHeld ?z12n1k13
                case y12n1k13 => intro w hSw; (try dsimp only at hSw); go_simp <;> rfl
                try simp only [Act.put, List.setIfInBounds_toArray, List.set_cons_zero, List.set_cons_succ]
                refine wpAnyH_done (by kernel_rfl) ?_ _
                refine NoPanic.normal ?_
                clear hHeld
                go_wp2
                go_meet
                case rel =>
                  obtain ⟨X', A', c', h1, h2, h3, h4⟩ := R.out
                  exact ⟨X', A', c', h1, rfl, h2, h3, h4⟩
              case b10n1k8 =>
                refine step_allocS ?_
                intro X u9 k9 hX9 hx9
                have HB := Lib.hid hx9
                have LX : Hid (w6.heap.size ≤ X) := Nat.le_trans KC.out.size hX9
                replace KC := Lib.hid (KC.out.step k9)
                try have H75 := Lib.hid (H7.out.keep k9 (fun _ _ h => h))
                try clear H7
                try have H7 := H75
                try clear H75
                try have SW9 := Lib.hid ((SW.out.keep k9 (fun _ _ h => h)).mono (G := fun i => i ≠ X) (fun i hi => by omega))
                try clear SW
                try have SW := SW9
                try clear SW9
                clear k9 hX9 hx9
                refine hK.out _ _ (CE.out _ KC.out) (fun hHeld => ?_)
                clear hK K
                try simp only [Act.put, List.setIfInBounds_toArray, List.set_cons_zero, List.set_cons_succ]
                refine wpAnyH_ready (rs := [6]) (by kernel_rfl) (by simp) ?_
                refine AllReadyH.cons (o := ⟨some 78, Op.call { callee := Callee.value (Operand.func 17), args := #[Operand.tmp 72, Operand.tmp 77], argTypes := #[27, 50] }, 47, _, _, none⟩) rfl (fun K hK => ?_) AllReadyH.nil
                go_simp
                refine (DO.out _ A7 c7 (HLT.out.keep KC.out (fun _ _ h => h)) H7.out hc7).mono ?_
                rintro en u4 ⟨A8, c8, rfl, l8, k4⟩
                first
                  | have SW := Lib.hid (l8.mono (G := fun i => i ≠ X) (fun i hi => by have h1 := hi.1; have h2 := lt_of_blk HB.out; omega))
                  | have SW := Lib.hid (l8.mono (G := fun i => i < u4.heap.size) (fun i hi => hi.2))
                try have HX2 := Lib.hid (k4.blk HB.out (fun h => h))
                try clear HB
                try have HB := HX2
                try clear HX2
                replace KC := Lib.hid (KC.out.step k4)
                clear l8 k4
                dsimp only
                refine hK.out _ _ (CE.out _ KC.out) (fun hHeld => ?_)
                clear hK K
                try simp only [Act.put, List.setIfInBounds_toArray, List.set_cons_zero, List.set_cons_succ]
                refine wpAnyH_take (i := 7) (oi := ⟨some 71, Op.move (Operand.tmp 78), 47, _, _, none⟩) (v := ?v7n1k14) rfl (by kernel_rfl) (by kernel_rfl) (by kernel_rfl) (fun _ _ _ h => h) (Or.inl ⟨by rfl, ?y7n1k14⟩) hHeld ?z7n1k14
                case y7n1k14 => intro w hSw; (try dsimp only at hSw); go_simp <;> rfl
                try simp only [Act.put, List.setIfInBounds_toArray, List.set_cons_zero, List.set_cons_succ]
                refine wpAnyH_take (i := 8) (oi := ⟨some 79, Op.extract (Operand.tmp 71) 0, 27, _, _, none⟩) (v := ?v8n1k15) rfl (by kernel_rfl) (by kernel_rfl) (by kernel_rfl) (fun _ _ _ h => h) (Or.inl ⟨by rfl, ?y8n1k15⟩) hHeld ?z8n1k15
                case y8n1k15 => intro w hSw; (try dsimp only at hSw); go_simp <;> rfl
                try simp only [Act.put, List.setIfInBounds_toArray, List.set_cons_zero, List.set_cons_succ]
                refine wpAnyH_take (i := 9) (oi := ⟨some 80, Op.extract (Operand.tmp 71) 1, 32, _, _, none⟩) (v := ?v9n1k16) rfl (by kernel_rfl) (by kernel_rfl) (by kernel_rfl) (fun _ _ _ h => h) (Or.inl ⟨by rfl, ?y9n1k16⟩) hHeld ?z9n1k16
                case y9n1k16 => intro w hSw; (try dsimp only at hSw); go_simp <;> rfl
                try simp only [Act.put, List.setIfInBounds_toArray, List.set_cons_zero, List.set_cons_succ]
                refine wpAnyH_ready (rs := [11]) (by kernel_rfl) (by simp) ?_
                refine AllReadyH.cons (o := ⟨none, Op.store 27 (Operand.tmp 16) (Operand.tmp 79), 0, _, _, none⟩) rfl (fun K hK => ?_) AllReadyH.nil
                refine step_storeS rfl rfl HB.out ?_
                have R := Lib.hid (still_end (n := d8) (c := c8) (f := (fq : Int)) HB.out SW.out KC.out LX.out)
                replace KC := Lib.hid (KC.out.trans (two_set (x0 := .slice A8 d8 c8) (x1 := .int .i64 (fq : Int)) HB.out).2 (fun i hi e => by have := LX.out; omega))
                refine hK.out _ _ (CE.out _ KC.out) (fun hHeld => ?_)
                clear hK K
                try simp only [Act.put, List.setIfInBounds_toArray, List.set_cons_zero, List.set_cons_succ]
                refine wpAnyH_take (i := 12) (oi := ⟨some 17, Op.assign (Operand.tmp 80), 32, _, _, none⟩) (v := ?v12n1k17) rfl (by kernel_rfl) (by kernel_rfl) (by kernel_rfl) (fun _ _ _ h => h) (Or.inl ⟨by rfl, ?y12n1k17⟩) hHeld ?z12n1k17
                case y12n1k17 => intro w hSw; (try dsimp only at hSw); go_simp <;> rfl
                try simp only [Act.put, List.setIfInBounds_toArray, List.set_cons_zero, List.set_cons_succ]
                refine wpAnyH_done (by kernel_rfl) ?_ _
                refine NoPanic.normal ?_
                clear hHeld
                go_wp2
                go_meet
                case rel =>
                  obtain ⟨X', A', c', h1, h2, h3, h4⟩ := R.out
                  exact ⟨X', A', c', h1, rfl, h2, h3, h4⟩
            case b10n1k5 =>
              refine step_allocS ?_
              intro X u9 k9 hX9 hx9
              have HB := Lib.hid hx9
              have LX : Hid (w6.heap.size ≤ X) := Nat.le_trans KC.out.size hX9
              replace KC := Lib.hid (KC.out.step k9)
              try have H75 := Lib.hid (H7.out.keep k9 (fun _ _ h => h))
              try clear H7
              try have H7 := H75
              try clear H75
              try have SW9 := Lib.hid ((SW.out.keep k9 (fun _ _ h => h)).mono (G := fun i => i ≠ X) (fun i hi => by omega))
              try clear SW
              try have SW := SW9
              try clear SW9
              clear k9 hX9 hx9
              refine hK.out _ _ (CE.out _ KC.out) (fun hHeld => ?_)
              clear hK K
              try simp only [Act.put, List.setIfInBounds_toArray, List.set_cons_zero, List.set_cons_succ]
              refine wpAnyH_ready (rs := [3]) (by kernel_rfl) (by simp) ?_
              refine AllReadyH.cons (o := ⟨some 75, Op.call { callee := Callee.value (Operand.func 16), args := #[Operand.tmp 73, Operand.tmp 74], argTypes := #[27, 3] }, 43, _, _, none⟩) rfl (fun K hK => ?_) AllReadyH.nil
              go_simp
              refine (UN.out _ KC.out).mono ?_
              rintro en u2 ⟨A7, c7, rfl, o7, kU⟩
              have H7 := Lib.hid (Lies.of_own (F := fun _ => True) o7 (fun _ _ => trivial))
              have hc7 : d ≤ c7 := by
                obtain ⟨_, _, e9, hle9⟩ := own_form o7
                injection e9 with _ _ e9
                omega
              try have HX2 := Lib.hid (kU.blk HB.out (fun h => h))
              try clear HB
              try have HB := HX2
              try clear HX2
              replace KC := Lib.hid (KC.out.step kU)
              clear o7 kU
              dsimp only
              refine hK.out _ _ (CE.out _ KC.out) (fun hHeld => ?_)
              clear hK K
              try simp only [Act.put, List.setIfInBounds_toArray, List.set_cons_zero, List.set_cons_succ]
              refine wpAnyH_take (i := 5) (oi := ⟨some 77, Op.build 50 #[(1, Operand.tmp 75), (2, Operand.tmp 76)], 50, _, _, none⟩) (v := ?v5n1k18) rfl (by kernel_rfl) (by kernel_rfl) (by kernel_rfl) (fun _ _ _ h => h) (Or.inl ⟨by rfl, ?y5n1k18⟩) hHeld ?z5n1k18
              case y5n1k18 => intro w hSw; (try dsimp only at hSw); go_simp <;> rfl
              try simp only [Act.put, List.setIfInBounds_toArray, List.set_cons_zero, List.set_cons_succ]
              refine wpAnyH_ready (rs := [6]) (by kernel_rfl) (by simp) ?_
              refine AllReadyH.cons (o := ⟨some 78, Op.call { callee := Callee.value (Operand.func 17), args := #[Operand.tmp 72, Operand.tmp 77], argTypes := #[27, 50] }, 47, _, _, none⟩) rfl (fun K hK => ?_) AllReadyH.nil
              go_simp
              refine (DO.out _ A7 c7 (HLT.out.keep KC.out (fun _ _ h => h)) H7.out hc7).mono ?_
              rintro en u4 ⟨A8, c8, rfl, l8, k4⟩
              first
                | have SW := Lib.hid (l8.mono (G := fun i => i ≠ X) (fun i hi => by have h1 := hi.1; have h2 := lt_of_blk HB.out; omega))
                | have SW := Lib.hid (l8.mono (G := fun i => i < u4.heap.size) (fun i hi => hi.2))
              try have HX2 := Lib.hid (k4.blk HB.out (fun h => h))
              try clear HB
              try have HB := HX2
              try clear HX2
              replace KC := Lib.hid (KC.out.step k4)
              clear l8 k4
              dsimp only
              refine hK.out _ _ (CE.out _ KC.out) (fun hHeld => ?_)
              clear hK K
              try simp only [Act.put, List.setIfInBounds_toArray, List.set_cons_zero, List.set_cons_succ]
              refine wpAnyH_take (i := 7) (oi := ⟨some 71, Op.move (Operand.tmp 78), 47, _, _, none⟩) (v := ?v7n1k19) rfl (by kernel_rfl) (by kernel_rfl) (by kernel_rfl) (fun _ _ _ h => h) (Or.inl ⟨by rfl, ?y7n1k19⟩) hHeld ?z7n1k19
              case y7n1k19 => intro w hSw; (try dsimp only at hSw); go_simp <;> rfl
              try simp only [Act.put, List.setIfInBounds_toArray, List.set_cons_zero, List.set_cons_succ]
              refine wpAnyH_take (i := 8) (oi := ⟨some 79, Op.extract (Operand.tmp 71) 0, 27, _, _, none⟩) (v := ?v8n1k20) rfl (by kernel_rfl) (by kernel_rfl) (by kernel_rfl) (fun _ _ _ h => h) (Or.inl ⟨by rfl, ?y8n1k20⟩) hHeld ?z8n1k20
              case y8n1k20 => intro w hSw; (try dsimp only at hSw); go_simp <;> rfl
              try simp only [Act.put, List.setIfInBounds_toArray, List.set_cons_zero, List.set_cons_succ]
              refine wpAnyH_take (i := 9) (oi := ⟨some 80, Op.extract (Operand.tmp 71) 1, 32, _, _, none⟩) (v := ?v9n1k21) rfl (by kernel_rfl) (by kernel_rfl) (by kernel_rfl) (fun _ _ _ h => h) (Or.inl ⟨by rfl, ?y9n1k21⟩) hHeld ?z9n1k21
              case y9n1k21 => intro w hSw; (try dsimp only at hSw); go_simp <;> rfl
              try simp only [Act.put, List.setIfInBounds_toArray, List.set_cons_zero, List.set_cons_succ]
              refine wpAnyH_ready (rs := [11]) (by kernel_rfl) (by simp) ?_
              refine AllReadyH.cons (o := ⟨none, Op.store 27 (Operand.tmp 16) (Operand.tmp 79), 0, _, _, none⟩) rfl (fun K hK => ?_) AllReadyH.nil
              refine step_storeS rfl rfl HB.out ?_
              have R := Lib.hid (still_end (n := d8) (c := c8) (f := (fq : Int)) HB.out SW.out KC.out LX.out)
              replace KC := Lib.hid (KC.out.trans (two_set (x0 := .slice A8 d8 c8) (x1 := .int .i64 (fq : Int)) HB.out).2 (fun i hi e => by have := LX.out; omega))
              refine hK.out _ _ (CE.out _ KC.out) (fun hHeld => ?_)
              clear hK K
              try simp only [Act.put, List.setIfInBounds_toArray, List.set_cons_zero, List.set_cons_succ]
              refine wpAnyH_take (i := 12) (oi := ⟨some 17, Op.assign (Operand.tmp 80), 32, _, _, none⟩) (v := ?v12n1k22) rfl (by kernel_rfl) (by kernel_rfl) (by kernel_rfl) (fun _ _ _ h => h) (Or.inl ⟨by rfl, ?y12n1k22⟩) hHeld ?z12n1k22
              case y12n1k22 => intro w hSw; (try dsimp only at hSw); go_simp <;> rfl
              try simp only [Act.put, List.setIfInBounds_toArray, List.set_cons_zero, List.set_cons_succ]
              refine wpAnyH_done (by kernel_rfl) ?_ _
              refine NoPanic.normal ?_
              clear hHeld
              go_wp2
              go_meet
              case rel =>
                obtain ⟨X', A', c', h1, h2, h3, h4⟩ := R.out
                exact ⟨X', A', c', h1, rfl, h2, h3, h4⟩
          case rest =>
            obtain ⟨X, A8, c8, rfl, rfl, HX, HL8, KC⟩ := hcut
            obtain ⟨w7, hw7⟩ : ∃ w7, w7 = wc := ⟨_, rfl⟩
            rw [← hw7] at HX HL8 KC ⊢
            have OF := Lib.hid (fun (i : Int) u (q : Kept noBlock w7 u) => ofs_any A6 k2 c6 0 nn i T u (HLT.out.keep (KC.out.step q) (fun _ _ h => h)) HTL.out (by omega))
            have OG := Lib.hid (fun (i : Int) u (q : Kept noBlock w7 u) => ofs_any A8 d8 c8 fq nn i T' u (HL8.out.keep q (fun _ _ h => h)) HD8.out.symm (by omega))
            have HST := Lib.hid (fun (i : Nat) (hi : i ≤ nn) => still_plan (rs := rs) (n := (nn : Int)) (i := (i : Int)) (by omega) (by omega) (by omega))
            have HSA := Lib.hid (fun (i : Nat) (hi : i ≤ nn) (hf : fq ≤ i) => still_after (rs := rs) (fl := (fq : Int)) (n := (nn : Int)) (i := (i : Int)) (by omega) (by omega) (by omega) (by omega))
            rw [← HTE.out] at HST HSA
            rw [← HT8.out] at HSA
            clear DO UN CE hw7
            go_wp2_with fail
            go_loopw [18] (fun v wr => ∃ i : Nat, i ≤ nn + 1 ∧ v = .int .i64 (i : Int) ∧ Hid (Kept noBlock w7 wr)) (fun v _ => nn + 1 - (intOf v).toNat)
            case atStart => exact ⟨0, by omega, rfl, Kept.refl _ _⟩
            case round =>
              obtain ⟨i, hin, rfl, HK⟩ := hrel
              by_cases hle : i ≤ nn
              · have hdec : decide ((i : Int) ≤ (nn : Int)) = true := decide_eq_true (by omega)
                obtain ⟨w11, hw11⟩ : ∃ w11, w11 = wr := ⟨_, rfl⟩
                rw [← hw11] at HK ⊢
                have O1 := Lib.hid (OF.out (i : Int) w11 HK.out)
                have hp1 := HST.out i hle
                obtain ⟨P, hP⟩ : ∃ P, P = planV T 0 nn i := ⟨_, rfl⟩
                rw [← hP] at O1 hp1
                obtain ⟨⟨o, ds, ps⟩, er⟩ := P
                have HE1 : Hid (er = 0) := hp1
                obtain ⟨er1, her1⟩ : ∃ e, e = er := ⟨_, rfl⟩
                rw [← her1] at O1 HE1
                clear hp1 her1
                unfold plnv at O1
                obtain ⟨d1, hd1⟩ : ∃ d, d = ds.length := ⟨_, rfl⟩
                obtain ⟨e1, he1⟩ : ∃ e, e = ps.length := ⟨_, rfl⟩
                simp only at O1
                rw [← hd1, ← he1] at O1
                obtain ⟨s0, s1⟩ := pair_cells ((KC.out.step HK.out).blk HS6.out (fun h => h))
                clear hP hw11 hd1 he1
                go_wp2_with fail
                refine O1.out.mono ?_
                rintro e w12 ⟨p, A1, c1, A2, c2, rfl, hp, k12⟩
                have ka := Kept.alloc noBlock w12 (.cells #[.pointer p, .slice A1 d1 c1, .slice A2 e1 c2] 31)
                go_upto_region 25 with (fail)
                generalize w12.alloc (.cells #[.pointer p, .slice A1 d1 c1, .slice A2 e1 c2] 31) = w13 at ka ⊢
                have K13 := Lib.hid (HK.out.step (k12.step ka))
                clear k12 ka hp O1 s0 s1
                obtain ⟨x0, x1⟩ := pair_cells (K13.out.blk HX.out (fun h => h))
                have O2 := Lib.hid (OG.out (i : Int) w13 K13.out)
                have hp2 : (planV T' fq nn i).2 = if i < fq then 9 else 0 := by
                  by_cases hif : i < fq
                  · rw [if_pos hif, planV_out (.inl (by omega))]
                  · rw [if_neg hif]; exact HSA.out i hle (by omega)
                obtain ⟨P, hP⟩ : ∃ P, P = planV T' fq nn i := ⟨_, rfl⟩
                rw [← hP] at O2 hp2
                obtain ⟨⟨o2, ds2, ps2⟩, er⟩ := P
                have HER : Hid (er = if i < fq then 9 else 0) := hp2
                clear hp2
                unfold plnv at O2
                obtain ⟨d2, hd2⟩ : ∃ d, d = ds2.length := ⟨_, rfl⟩
                obtain ⟨e2, he2⟩ : ∃ e, e = ps2.length := ⟨_, rfl⟩
                simp only at O2
                rw [← hd2, ← he2] at O2
                clear hP hd2 he2
                go_wp2_with fail
                refine O2.out.mono ?_
                rintro e w14 ⟨p', A3, c3, A4, c4, rfl, hp, k14⟩
                have ka := Kept.alloc noBlock w14 (.cells #[.pointer p', .slice A3 d2 c3, .slice A4 e2 c4] 31)
                go_upto_region 26 with (fail)
                generalize w14.alloc (.cells #[.pointer p', .slice A3 d2 c3, .slice A4 e2 c4] 31) = w15 at ka ⊢
                have K15 := Lib.hid (K13.out.step (k14.step ka))
                clear k14 ka hp O2 x0 x1
                have HIN := Lib.hid hle
                clear hle hin hdec
                go_cut [121] (fun y wc => y = .bool false ∧ w15 = wc)
                case first =>
                  have hb0 : (er1 != 0) = false := by rw [HE1.out]; rfl
                  by_cases hif : i < fq
                  · have hb4 : (er != 9) = false := by rw [HER.out, if_pos hif]; rfl
                    have hb1 : decide ((i : Int) ≥ (fq : Int)) = false := decide_eq_false (by omega)
                    have hb2 : decide ((fq : Int) ≤ (i : Int)) = false := decide_eq_false (by omega)
                    have hb3 : (i : Int) < (fq : Int) := by omega
                    clear HER hif
                    go_wp2_with fail
                    go_meet
                    exact ⟨by first | rfl | simp, rfl⟩
                  · have hb4 : (er != 0) = false := by rw [HER.out, if_neg hif]; rfl
                    have hb2 : (fq : Int) ≤ (i : Int) := by omega
                    have hb3 : decide ((i : Int) < (fq : Int)) = false := decide_eq_false (by omega)
                    clear HER hif
                    go_wp2_with fail
                    go_meet
                    exact ⟨by first | rfl | simp, rfl⟩
                case rest =>
                  obtain ⟨rfl, rfl⟩ := hcut
                  have hin33 : i ≤ nn := HIN.out
                  clear HER
                  go_wp2
                  go_roundw
                  case rel => exact ⟨i + 1, by have := HIN.out; omega, by go_num, K15⟩
                  case measure => simp [intOf]; have := HIN.out; omega
              · have hdec : decide ((i : Int) ≤ (nn : Int)) = false := decide_eq_false (by omega)
                have KE := Lib.hid (K6.out.step (KC.out.step HK.out))
                go_wp2
                go_ret
                exact ⟨rfl, KE.out⟩
end Go.Proofs.Ytollmkkbeeeccaa
