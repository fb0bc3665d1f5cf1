/-
  The contract of plan.partsBehind. No statement is proved here.
-/
import Derived.Test.YtollmkkbeeeccaaP11Way
namespace Go.Proofs.Ytollmkkbeeeccaa
open Go.RowKit Tot

set_option maxRecDepth 100000 in
set_option maxHeartbeats 1000000 in
theorem pback_any (F : Nat → Prop) (A : Option Addr) (n c : Nat) (f q last i : Int) (L : List RefV) (w : World) (h : Lies w F A (refCells L)) (hl : L.length = n) (hn : n ≤ 1099511627776) (hk : (ofK 2 L).length < 20) :
    Calls Try.prog 21 #[.agg #[.slice A n c, .int .i64 f], .int .i64 q, .int .i64 last, .int .i64 i] w fun e w' => ∃ A' c', e = .returned (.tuple #[.slice A' (prtV (ordK 2 L) q last i).1.length c', .int .i64 (prtV (ordK 2 L) q last i).2]) ∧
      w'.ownsRow w.heap.size 37 4 (.slice A' (prtV (ordK 2 L) q last i).1.length c') (prtV (ordK 2 L) q last i).1.length (refCells (prtV (ordK 2 L) q last i).1) ∧ Kept noBlock w w' := by
  have ka := Kept.alloc noBlock w (.cells #[.slice A n c, .int .i64 f] 27)
  have hb := heap_alloc_new w (.cells #[.slice A n c, .int .i64 f] 27)
  obtain ⟨O, hO⟩ : ∃ O, O = ordK 2 L := ⟨_, rfl⟩
  have K1 := Lib.hid ka
  have ORD := Lib.hid (ord_any F A n c f 2 L _ (h.keep ka (fun _ _ h => h)) hl hn hk)
  have HM0 : Hid (O.length < 20) := by unfold Hid; rw [hO]; unfold ordK; rw [ordV_len]; exact hk
  obtain ⟨c0, c1⟩ := pair_cells hb
  rw [← hO] at ORD ⊢
  clear h hl ka hb hk hO
  go_enter Try.func21, Try.ntmps21
  go_upto_region 2 with (fail)
  generalize w.alloc (.cells #[.slice A n c, .int .i64 f] 27) = w1 at K1 ORD c0 c1 ⊢
  go_wp2_with fail
  refine ORD.out.mono ?_
  rintro e w2 ⟨A', c', rfl, o2, k2⟩
  have H := Lib.hid (Lies.of_rows o2 (fun i _ => (trivial : (fun _ => True) i)))
  have K2 := Lib.hid (K1.out.step k2)
  obtain ⟨m, hm⟩ : ∃ m, m = O.length := ⟨_, rfl⟩
  have HML : Hid (m = O.length) := hm
  rw [← hm] at HM0 ⊢
  have hm20 := HM0.out
  clear o2 k2 hm ORD c0 c1 HM0
  have hbf : ∀ a b : Int, a ≠ b → (a == b) = false := fun a b h => by simpa using h
  have HBF := Lib.hid hbf
  have HEL : Hid ((endsV last O).length = m) := by unfold Hid; rw [endsV_len, HML.out]
  clear hbf
  go_wp2_with fail
  go_loopw [10, 1, 19] (fun v pv ix wr => ∃ (j k : Nat) (p : Int) (ds : List RefV) (A1 : Option Addr) (c1 : Nat), j ≤ m ∧ k ≤ j ∧ v = .slice A1 k c1 ∧ pv = .int .i64 p ∧ ix = .int .i64 (j : Int) ∧ Hid (((endsV last O).take j).foldl (prtS i) ([], q) = (ds, p)) ∧ Hid (k = ds.length) ∧ Hid (wr.ownsRow w2.heap.size 37 4 (.slice A1 k c1) k (refCells ds)) ∧ Hid (Kept noBlock w2 wr)) (fun _ _ ix _ => m - (intOf ix).toNat)
  case atStart => exact ⟨0, 0, q, [], none, 0, by omega, by omega, rfl, rfl, rfl, rfl, rfl, World.ownsRow_nil _ _ _ _, Kept.refl _ _⟩
  case round =>
    obtain ⟨j, k, p, ds, A1, c1, hjm, hkj, rfl, rfl, rfl, HD, HKL, HO, HK1⟩ := hrel
    by_cases hlt : j < m
    · skip
      obtain ⟨x, hx⟩ : ∃ x, O[j]? = some x := ⟨_, List.getElem?_eq_getElem (by have := HML.out; omega)⟩
      obtain ⟨g, o, rfl, _, cc⟩ := (H.out.keep HK1.out (fun _ _ h => h)).elem (enc := RefV.cells) ref_len (by omega) hx
      have e0 := cc 0 _ rfl
      have e1 := cc 1 _ rfl
      have e2 := cc 2 _ rfl
      have e3 := cc 3 _ rfl
      rw [Nat.add_zero] at e0
      have HX := Lib.hid hx
      clear hx cc
      go_upto_region 7 with (fail)
      have k3 := Kept.alloc noBlock wr (.cells #[.string x.name, .int .i64 x.kind, .int .i64 x.from_, .int .i64 x.to_] 37)
      have b3 := heap_alloc_new wr (.cells #[.string x.name, .int .i64 x.kind, .int .i64 x.from_, .int .i64 x.to_] 37)
      obtain ⟨C, hC⟩ : ∃ C, C = wr.heap.size := ⟨_, rfl⟩
      have HC := Lib.hid hC
      rw [← hC] at b3 ⊢
      generalize wr.alloc (.cells #[.string x.name, .int .i64 x.kind, .int .i64 x.from_, .int .i64 x.to_] 37) = w3 at k3 b3 ⊢
      obtain ⟨d0, d1, d2, d3⟩ := ref_cells b3
      have K3 := Lib.hid k3
      have HB3 := Lib.hid b3
      clear e0 e1 e2 e3 k3 b3 hC
      obtain ⟨en, hen⟩ : ∃ en, en = if j + 1 = O.length then max x.to_ last else x.to_ := ⟨_, rfl⟩
      have hat := endsV_at last O j x HX.out
      rw [← hen] at hat
      have ST := Lib.hid (fold_step (prtS i) ([], q) hat)
      have KK := Lib.hid (HK1.out.step K3.out)
      have OL := Lib.hid (own_keep HO.out K3.out (fun _ _ h => h))
      clear hat
      by_cases hj1 : j + 1 = m
      · have hjb : ((j : Int) == (m : Int) - 1) = true := by simpa using (by omega : (j : Int) = (m : Int) - 1)
        rw [if_pos (by have := HML.out; omega)] at hen
        have hm1 : max x.to_ last = en := hen.symm
        clear hen
        go_upto_region 9 with (fail)
        clear hm1 hjb
        by_cases h1 : p < i
        · skip
          by_cases h2 : x.from_ ≤ p
          · skip
            by_cases h3 : p < en
            · have HD9 : Hid (((endsV last O).take (j + 1)).foldl (prtS i) ([], q) = (ds ++ [x], en)) := by
                unfold Hid
                rw [ST.out, HD.out]
                exact if_pos ⟨h1, h2, h3⟩
              clear ST HD HO
              go_wp2_with (at_builtin; refine wpList_append_src rfl _ _ 25 25 rfl 37 noRef.val 4 40 Try.underlying25 Try.infoRef rfl (.slice A1 k c1) k (refCells ds) rfl (own_base (own_keep OL.out (Kept.alloc noBlock _ _) (fun _ _ h => h)) (fun _ _ => Nat.zero_le _)) _ 1 (refCells [x]) rfl (src_ref x (heap_alloc_new _ _)) ?c3 ?c4 ?_)
              case c3 => unfold maxLen; omega
              case c4 => omega
              intro A9 c9 u9 o9 k9 a9
              have ka := Kept.alloc noBlock w3 (.cells #[.string x.name, .int .i64 x.kind, .int .i64 x.from_, .int .i64 x.to_] 37)
              have ol9 := own_keep OL.out ka (fun _ _ h => h)
              have NX := Lib.hid (own_next (KK.out.step ka) ol9 o9 k9 a9)
              clear o9 k9 a9 ka ol9 d0 d1 d2 d3
              go_wp2
              go_roundw
              case rel => exact ⟨j + 1, k + 1, en, ds ++ [x], A9, c9, by omega, by omega, rfl, rfl, by go_num, HD9, Lib.hid (by rw [List.length_append, HKL.out]; rfl), Lib.hid (by rw [refCells_append]; exact NX.out.1), Lib.hid NX.out.2⟩
              case measure => simp [intOf]; omega
            · skip
              have HD9 : Hid (((endsV last O).take (j + 1)).foldl (prtS i) ([], q) = (ds, p)) := by
                unfold Hid
                rw [ST.out, HD.out]
                exact if_neg (fun h => h3 h.2.2)
              clear ST HD HO HK1
              go_wp2
              go_roundw
              case rel => exact ⟨j + 1, k, p, ds, A1, c1, by omega, by omega, rfl, rfl, by go_num, HD9, HKL, OL, KK⟩
              case measure => simp [intOf]; omega
          · skip
            have HD9 : Hid (((endsV last O).take (j + 1)).foldl (prtS i) ([], q) = (ds, p)) := by
              unfold Hid
              rw [ST.out, HD.out]
              exact if_neg (fun h => h2 h.2.1)
            clear ST HD HO HK1
            go_wp2
            go_roundw
            case rel => exact ⟨j + 1, k, p, ds, A1, c1, by omega, by omega, rfl, rfl, by go_num, HD9, HKL, OL, KK⟩
            case measure => simp [intOf]; omega
        · skip
          have HD9 : Hid (((endsV last O).take (j + 1)).foldl (prtS i) ([], q) = (ds, p)) := by
            unfold Hid
            rw [ST.out, HD.out]
            exact if_neg (fun h => h1 h.1)
          clear ST HD HO HK1
          go_wp2
          go_roundw
          case rel => exact ⟨j + 1, k, p, ds, A1, c1, by omega, by omega, rfl, rfl, by go_num, HD9, HKL, OL, KK⟩
          case measure => simp [intOf]; omega
      · have hjb : ((j : Int) == (m : Int) - 1) = false := by simpa using (by omega : (j : Int) ≠ (m : Int) - 1)
        rw [if_neg (by have := HML.out; omega)] at hen
        subst hen
        go_upto_region 9 with (fail)
        clear hjb
        by_cases h1 : p < i
        · skip
          by_cases h2 : x.from_ ≤ p
          · skip
            by_cases h3 : p < x.to_
            · have HD9 : Hid (((endsV last O).take (j + 1)).foldl (prtS i) ([], q) = (ds ++ [x], x.to_)) := by
                unfold Hid
                rw [ST.out, HD.out]
                exact if_pos ⟨h1, h2, h3⟩
              clear ST HD HO
              go_wp2_with (at_builtin; refine wpList_append_src rfl _ _ 25 25 rfl 37 noRef.val 4 40 Try.underlying25 Try.infoRef rfl (.slice A1 k c1) k (refCells ds) rfl (own_base (own_keep OL.out (Kept.alloc noBlock _ _) (fun _ _ h => h)) (fun _ _ => Nat.zero_le _)) _ 1 (refCells [x]) rfl (src_ref x (heap_alloc_new _ _)) ?c3 ?c4 ?_)
              case c3 => unfold maxLen; omega
              case c4 => omega
              intro A9 c9 u9 o9 k9 a9
              have ka := Kept.alloc noBlock w3 (.cells #[.string x.name, .int .i64 x.kind, .int .i64 x.from_, .int .i64 x.to_] 37)
              have ol9 := own_keep OL.out ka (fun _ _ h => h)
              have NX := Lib.hid (own_next (KK.out.step ka) ol9 o9 k9 a9)
              clear o9 k9 a9 ka ol9 d0 d1 d2 d3
              go_wp2
              go_roundw
              case rel => exact ⟨j + 1, k + 1, x.to_, ds ++ [x], A9, c9, by omega, by omega, rfl, rfl, by go_num, HD9, Lib.hid (by rw [List.length_append, HKL.out]; rfl), Lib.hid (by rw [refCells_append]; exact NX.out.1), Lib.hid NX.out.2⟩
              case measure => simp [intOf]; omega
            · skip
              have HD9 : Hid (((endsV last O).take (j + 1)).foldl (prtS i) ([], q) = (ds, p)) := by
                unfold Hid
                rw [ST.out, HD.out]
                exact if_neg (fun h => h3 h.2.2)
              clear ST HD HO HK1
              go_wp2
              go_roundw
              case rel => exact ⟨j + 1, k, p, ds, A1, c1, by omega, by omega, rfl, rfl, by go_num, HD9, HKL, OL, KK⟩
              case measure => simp [intOf]; omega
          · skip
            have HD9 : Hid (((endsV last O).take (j + 1)).foldl (prtS i) ([], q) = (ds, p)) := by
              unfold Hid
              rw [ST.out, HD.out]
              exact if_neg (fun h => h2 h.2.1)
            clear ST HD HO HK1
            go_wp2
            go_roundw
            case rel => exact ⟨j + 1, k, p, ds, A1, c1, by omega, by omega, rfl, rfl, by go_num, HD9, HKL, OL, KK⟩
            case measure => simp [intOf]; omega
        · skip
          have HD9 : Hid (((endsV last O).take (j + 1)).foldl (prtS i) ([], q) = (ds, p)) := by
            unfold Hid
            rw [ST.out, HD.out]
            exact if_neg (fun h => h1 h.1)
          clear ST HD HO HK1
          go_wp2
          go_roundw
          case rel => exact ⟨j + 1, k, p, ds, A1, c1, by omega, by omega, rfl, rfl, by go_num, HD9, HKL, OL, KK⟩
          case measure => simp [intOf]; omega
    · obtain rfl : j = m := by omega
      have htk : (endsV last O).take j = endsV last O := List.take_of_length_le (by have := HEL.out; omega)
      rw [htk] at HD
      have HD9 : Hid (prtV O q last i = (ds, p)) := HD.out
      clear htk HD
      go_wp2
      refine bodyPost_ret (v := .tuple #[.slice A1 k c1, .int .i64 p]) (by simp [results, Try.results21, go_sem]) rfl ?_
      rw [HD9.out]
      have hk := HKL.out
      simp only
      rw [← hk]
      exact ⟨A1, c1, rfl, own_base HO.out (fun i hi => Nat.le_trans K2.out.size (HO.out.lt i hi).1), K2.out.step HK1.out⟩
end Go.Proofs.Ytollmkkbeeeccaa
