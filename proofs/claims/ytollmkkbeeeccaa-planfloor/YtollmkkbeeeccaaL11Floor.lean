/-
  The walk of PlanFloor. No statement is proved here.
-/
import Derived.Test.YtollmkkbeeeccaaL11Use
namespace Go.Proofs.Ytollmkkbeeeccaa
open Go.RowKit Tot

set_option maxRecDepth 100000 in
set_option maxHeartbeats 2000000 in
theorem floor_any (F : Nat → Prop) (A : Option Addr) (n c : Nat) (rs : List RfN) (fl la ix mo : UInt8) (w : World) (h : Lies w F A (rfCells rs)) (hl : n = rs.length) (hnc : n ≤ c) (hc : c ≤ 9223372036854775807) :
    Calls Try.prog 9 #[.slice A n c, .int .u8 (fl.toNat : Int), .int .u8 (la.toNat : Int), .int .u8 (ix.toNat : Int), .int .u8 (mo.toNat : Int)] w fun e w' => e = .returned (.bool true) ∧ Kept noBlock w w' := by
  have AW := Lib.hid (awake_any w)
  have SE := Lib.hid (fun u (k : Kept noBlock w u) => set_any F A n c rs fl u (h.keep k (fun _ _ h => h)) hl hnc hc)
  obtain ⟨f, hf, _, hf12⟩ := rem_num fl 12 (by omega)
  obtain ⟨nl, hnl, t1, hnl32⟩ := rem_num la 32 (by omega)
  obtain ⟨i, hi, t2, hi32⟩ := rem_num ix 32 (by omega)
  obtain ⟨mr, hmr, t3, hmr9⟩ := rem_num mo 9 (by omega)
  have t1 : ((la.toNat : Int)).tmod 32 = (nl : Int) := t1
  have t2 : ((ix.toNat : Int)).tmod 32 = (i : Int) := t2
  have t3 : ((mo.toNat : Int)).tmod 9 = (mr : Int) := t3
  obtain ⟨L, hL⟩ : ∃ L, L = setS rs := ⟨_, rfl⟩
  have hL14 : L.length ≤ 14 := by rw [hL]; exact setS_len rs
  rw [← hL, ← hf] at SE
  obtain ⟨m, hm⟩ : ∃ m, m = L.length := ⟨_, rfl⟩
  rw [← hm] at SE hL14
  have HM := Lib.hid hm
  clear h hl hnc hc hf hnl hi hmr hL hm
  go_enter Try.func9, Try.ntmps9
  go_wp2_with fail
  refine AW.out.mono ?_
  rintro e w1 ⟨rfl, k1⟩
  have K1 := Lib.hid k1
  clear k1 AW
  go_wp2_with fail
  refine (SE.out _ K1.out).mono ?_
  rintro e w2 ⟨A', c', rfl, o2, k2⟩
  have ka := Kept.alloc noBlock w2 (.cells #[.slice A' m c', .int .i64 (f : Int)] 27)
  have ha := heap_alloc_new w2 (.cells #[.slice A' m c', .int .i64 (f : Int)] 27)
  go_upto_region 4 with (fail)
  obtain ⟨S, hS⟩ : ∃ S, S = w2.heap.size := ⟨_, rfl⟩
  rw [← hS] at ha ⊢
  generalize w2.alloc (.cells #[.slice A' m c', .int .i64 (f : Int)] 27) = w3 at ka ha ⊢
  have K3 := Lib.hid (K1.out.step (k2.step ka))
  have HS3 := Lib.hid ha
  have HLI := Lib.hid ((Lies.of_rows (F := fun _ => True) o2 (fun _ _ => trivial)).keep ka (fun _ _ h => h))
  clear k2 ka ha o2 SE hS
  obtain ⟨s0, s1⟩ := pair_cells HS3.out
  have ka := Kept.alloc noBlock w3 (.cells #[.slice A' m c', .int .i64 (f : Int)] 27)
  have ha := heap_alloc_new w3 (.cells #[.slice A' m c', .int .i64 (f : Int)] 27)
  go_upto_region 6 with (fail)
  obtain ⟨T, hT⟩ : ∃ T, T = w3.heap.size := ⟨_, rfl⟩
  rw [← hT] at ha ⊢
  generalize w3.alloc (.cells #[.slice A' m c', .int .i64 (f : Int)] 27) = w4 at ka ha ⊢
  obtain ⟨x0, x1⟩ := pair_cells ha
  have f1 : w4.frozen? ⟨T, 1, none⟩ = false := frozen_of_row _ _ _ _ _ ha
  obtain ⟨g, hg⟩ : ∃ g, g = f + mr := ⟨_, rfl⟩
  have e5 : (f : Int) + (mr : Int) = (g : Int) := by omega
  have b6 : g < 21 := by omega
  have hfg : f ≤ g := by omega
  have kz : Kept (fun i => i = T) w4 (w4.setCell ⟨T, 1, none⟩ (.int .i64 (g : Int))) := Kept.setCell w4 (by rfl) _
  have hz := heap_setCell_same w4 T 1 _ 27 (.int .i64 (g : Int)) ha
  have K34 := Lib.hid ka
  have HTS : Hid (S < T) := by unfold Hid; rw [hT]; exact lt_of_blk HS3.out
  have HTW : Hid (w3.heap.size ≤ T) := by unfold Hid; omega
  clear hg hT ka ha s0 s1 hf12 hmr9
  go_upto_region 7 with (fail)
  (try rw [e5])
  generalize w4.setCell ⟨T, 1, none⟩ (.int .i64 (g : Int)) = w5 at kz hz ⊢
  have K35 : Hid (Kept noBlock w3 w5) := K34.out.trans kz (fun i hi e => by have := HTW.out; omega)
  have HT5 : Hid (w5.heap[T]? = some (.cells #[.slice A' m c', .int .i64 (g : Int)] 27 (0, 0))) := by unfold Hid; simpa using hz
  have O1 := Lib.hid (fun u (k : Kept noBlock w3 u) => ofs_any A' m c' f nl i L u (HLI.out.keep k (fun _ _ h => h)) HM.out.symm (by omega))
  have O2 := Lib.hid (fun u (k : Kept noBlock w3 u) => ofs_any A' m c' g nl i L u (HLI.out.keep k (fun _ _ h => h)) HM.out.symm (by omega))
  clear kz hz x0 x1 f1 e5 t1 t2 t3
  obtain ⟨s0, s1⟩ := pair_cells (K35.out.blk HS3.out (fun h => h))
  by_cases hig : i < g
  · have hig' : (i : Int) < (g : Int) := by omega
    rw [planV_out (.inl hig')] at O2
    obtain ⟨P, hP⟩ : ∃ P, P = planV L f nl i := ⟨_, rfl⟩
    rw [← hP] at O1
    obtain ⟨⟨po, ds, ps⟩, er⟩ := P
    unfold plnv noPln at O2
    unfold plnv at O1
    simp only [List.length_nil] at O1 O2
    clear hP hig
    go_wp2_with fail
    refine (O1.out _ K35.out).mono ?_
    rintro e w6 ⟨p, A1, c1, A2, c2, rfl, hp, k6⟩
    have ka := Kept.alloc noBlock w6 (.cells #[.pointer p, .slice A1 ds.length c1, .slice A2 ps.length c2] 31)
    go_upto_region 8 with (fail)
    generalize w6.alloc (.cells #[.pointer p, .slice A1 ds.length c1, .slice A2 ps.length c2] 31) = w7 at ka ⊢
    have K7 := Lib.hid (K35.out.step (k6.step ka))
    obtain ⟨x0, x1⟩ := pair_cells ((k6.step ka).blk HT5.out (fun h => h))
    have HT7 := Lib.hid ((k6.step ka).blk HT5.out (fun h => h))
    clear s0 s1 k6 ka hp O1
    go_wp2_with fail
    refine (O2.out _ K7.out).mono ?_
    rintro e w8 ⟨q, A3, c3, A4, c4, rfl, hq, k8⟩
    have ka := Kept.alloc noBlock w8 (.cells #[.pointer q, .slice A3 0 c3, .slice A4 0 c4] 31)
    go_upto_region 9 with (fail)
    generalize w8.alloc (.cells #[.pointer q, .slice A3 0 c3, .slice A4 0 c4] 31) = w9 at ka ⊢
    have K9 := Lib.hid (K3.out.step (K7.out.step (k8.step ka)))
    obtain ⟨x0, x1⟩ := pair_cells ((k8.step ka).blk HT7.out (fun h => h))
    clear k8 ka hq O2
    go_wp2
    go_ret
    exact ⟨by first | rfl | simp, K9.out⟩
  · have hig' : ¬ (i : Int) < (g : Int) := by omega
    rw [planV_floor (f := (f : Int)) (by omega) hig'] at O2
    have FEW := Lib.hid (planV_few (L := L) (f := f) (n := nl) (i := i))
    obtain ⟨P, hP⟩ : ∃ P, P = planV L f nl i := ⟨_, rfl⟩
    rw [← hP] at O1 O2 FEW
    obtain ⟨⟨po, ds, ps⟩, er⟩ := P
    simp only at FEW
    unfold plnv at O1 O2
    simp only at O1 O2
    obtain ⟨d1, hd1⟩ : ∃ d, d = ds.length := ⟨_, rfl⟩
    obtain ⟨d2, hd2⟩ : ∃ d, d = ps.length := ⟨_, rfl⟩
    rw [← hd1, ← hd2] at O1 O2 FEW
    have HD1 := Lib.hid hd1
    have HD2 := Lib.hid hd2
    have hee : (er == er) = true := by simp
    clear hP hig hd1 hd2
    go_wp2_with fail
    refine (O1.out _ K35.out).mono ?_
    rintro e w6 ⟨p, A1, c1, A2, c2, rfl, hp, k6⟩
    have ka := Kept.alloc noBlock w6 (.cells #[.pointer p, .slice A1 d1 c1, .slice A2 d2 c2] 31)
    have ha := heap_alloc_new w6 (.cells #[.pointer p, .slice A1 d1 c1, .slice A2 d2 c2] 31)
    go_upto_region 8 with (fail)
    obtain ⟨X, hX⟩ : ∃ X, X = w6.heap.size := ⟨_, rfl⟩
    rw [← hX] at ha ⊢
    generalize w6.alloc (.cells #[.pointer p, .slice A1 d1 c1, .slice A2 d2 c2] 31) = w7 at ka ha ⊢
    have K7 := Lib.hid (K35.out.step (k6.step ka))
    have HX7 := Lib.hid ha
    have HP7 := Lib.hid (hp.keep ka)
    obtain ⟨x0, x1⟩ := pair_cells ((k6.step ka).blk HT5.out (fun h => h))
    have HT7 := Lib.hid ((k6.step ka).blk HT5.out (fun h => h))
    clear s0 s1 k6 ka hp O1 ha hX
    go_wp2_with fail
    refine (O2.out _ K7.out).mono ?_
    rintro e w8 ⟨q, A3, c3, A4, c4, rfl, hq, k8⟩
    have ka := Kept.alloc noBlock w8 (.cells #[.pointer q, .slice A3 d1 c3, .slice A4 d2 c4] 31)
    have ha := heap_alloc_new w8 (.cells #[.pointer q, .slice A3 d1 c3, .slice A4 d2 c4] 31)
    go_upto_region 9 with (fail)
    obtain ⟨Y, hY⟩ : ∃ Y, Y = w8.heap.size := ⟨_, rfl⟩
    rw [← hY] at ha ⊢
    generalize w8.alloc (.cells #[.pointer q, .slice A3 d1 c3, .slice A4 d2 c4] 31) = w9 at ka ha ⊢
    have K9 := Lib.hid (K3.out.step (K7.out.step (k8.step ka)))
    have HX9 := Lib.hid ((k8.step ka).blk HX7.out (fun h => h))
    have HY9 := Lib.hid ha
    have HP9 := Lib.hid (HP7.out.keep (k8.step ka))
    have HQ9 := Lib.hid (hq.keep ka)
    have hpn := HP7.out.full.isNone
    have hqn := hq.full.isNone
    have hpq : p.isNone = q.isNone := by rw [hpn, hqn]
    obtain ⟨x0, x1⟩ := pair_cells ((k8.step ka).blk HT7.out (fun h => h))
    obtain ⟨z0, z1, z2⟩ := tri_cells HX9.out
    obtain ⟨v0, v1, v2⟩ := tri_cells HY9.out
    have R1 := Lib.hid (fun u (k : Kept noBlock w9 u) => refs_any (fun _ => True) (fun _ => True) A1 A3 d1 c1 d1 c3 ds ds u (HP9.out.lies1.1.keep k (fun _ _ h => h)) (HQ9.out.lies1.1.keep k (fun _ _ h => h)) HD1.out.symm HD1.out.symm (by have := FEW.out.1; have := HM.out; omega) (by have := HP9.out.lies1.2; simp only at this; have := HD1.out; omega) (by have := HQ9.out.lies1.2; simp only at this; have := HD1.out; omega))
    have R2 := Lib.hid (fun u (k : Kept noBlock w9 u) => refs_any (fun _ => True) (fun _ => True) A2 A4 d2 c2 d2 c4 ps ps u (HP9.out.lies2.1.keep k (fun _ _ h => h)) (HQ9.out.lies2.1.keep k (fun _ _ h => h)) HD2.out.symm HD2.out.symm (by have := FEW.out.2; have := HM.out; omega) (by have := HP9.out.lies2.2; simp only at this; have := HD2.out; omega) (by have := HQ9.out.lies2.2; simp only at this; have := HD2.out; omega))
    rw [decide_eq_true rfl] at R1 R2
    clear k8 ka hq O2 ha hY hpn hqn
    go_wp2_with fail
    refine (R1.out _ (Kept.refl _ _)).mono ?_
    rintro e w10 ⟨rfl, k10⟩
    obtain ⟨z0, z1, z2⟩ := tri_cells (k10.blk HX9.out (fun h => h))
    obtain ⟨v0, v1, v2⟩ := tri_cells (k10.blk HY9.out (fun h => h))
    have K10 := Lib.hid k10
    clear k10 x0 x1
    go_wp2_with fail
    refine (R2.out _ K10.out).mono ?_
    rintro e w11 ⟨rfl, k11⟩
    obtain ⟨z0, z1, z2⟩ := tri_cells ((K10.out.step k11).blk HX9.out (fun h => h))
    obtain ⟨v0, v1, v2⟩ := tri_cells ((K10.out.step k11).blk HY9.out (fun h => h))
    have K11 := Lib.hid (K9.out.step (K10.out.step k11))
    clear k11 R1 R2
    cases p with
    | none =>
      cases q with
      | none =>
        go_wp2
        go_ret
        exact ⟨by first | rfl | simp, K11.out⟩
      | some b => cases hpq
    | some a =>
      cases q with
      | none => cases hpq
      | some b =>
        go_wp2
        go_ret
        exact ⟨by first | rfl | simp, K11.out⟩
end Go.Proofs.Ytollmkkbeeeccaa
