/-
  The contracts of plan.lastFull and plan.deltasBehind. No statement is proved here.
-/
import Derived.Test.YtollmkkbeeeccaaP11Ord
namespace Go.Proofs.Ytollmkkbeeeccaa
open Go.RowKit Tot

/-- A pointer to a file, or to none. -/
def PtAt (w : World) (base : Nat) (p : Option Addr) : Option RefV → Prop
  | none => p = none
  | some r => ∃ C, p = some ⟨C, 0, none⟩ ∧ base ≤ C ∧ w.heap[C]? = some (.cells #[.string r.name, .int .i64 r.kind, .int .i64 r.from_, .int .i64 r.to_] 37 (0, 0))
theorem PtAt.keep {w w' : World} {base : Nat} {p : Option Addr} {o : Option RefV} (h : PtAt w base p o) (k : Kept noBlock w w') : PtAt w' base p o := by
  cases o with
  | none => exact h
  | some r =>
    obtain ⟨C, h1, h2, h3⟩ := h
    exact ⟨C, h1, h2, k.blk h3 (fun h => h)⟩
theorem fullV_step {O : List RefV} {i : Int} {j : Nat} {x : RefV} (hx : O[j]? = some x) : fullV (O.take (j + 1)) i = if x.to_ ≤ i then some x else fullV (O.take j) i := by
  unfold fullV
  rw [take_snoc O j x hx, List.foldl_append]
  rfl
theorem fold_step {α β : Type} (f : β → α → β) (b : β) {O : List α} {j : Nat} {x : α} (hx : O[j]? = some x) : (O.take (j + 1)).foldl f b = f ((O.take j).foldl f b) x := by
  rw [take_snoc O j x hx, List.foldl_append]
  rfl

set_option maxRecDepth 100000 in
set_option maxHeartbeats 1000000 in
theorem lfull_any (F : Nat → Prop) (A : Option Addr) (n c : Nat) (f i : Int) (L : List RefV) (w : World) (h : Lies w F A (refCells L)) (hl : L.length = n) (hn : n ≤ 1099511627776) (hk : (ofK 0 L).length < 20) :
    Calls Try.prog 19 #[.agg #[.slice A n c, .int .i64 f], .int .i64 i] w fun e w' => ∃ p, e = .returned (.pointer p) ∧ PtAt w' w.heap.size p (fullV (ordK 0 L) i) ∧ Kept noBlock w w' := by
  have ka := Kept.alloc noBlock w (.cells #[.slice A n c, .int .i64 f] 27)
  have hb := heap_alloc_new w (.cells #[.slice A n c, .int .i64 f] 27)
  obtain ⟨O, hO⟩ : ∃ O, O = ordK 0 L := ⟨_, rfl⟩
  have K1 := Lib.hid ka
  have ORD := Lib.hid (ord_any F A n c f 0 L _ (h.keep ka (fun _ _ h => h)) hl hn hk)
  have HM0 : Hid (O.length < 20) := by unfold Hid; rw [hO]; unfold ordK; rw [ordV_len]; exact hk
  obtain ⟨c0, c1⟩ := pair_cells hb
  rw [← hO] at ORD ⊢
  clear h hl ka hb hk hO
  go_enter Try.func19, Try.ntmps19
  go_upto_region 2 with (fail)
  generalize w.alloc (.cells #[.slice A n c, .int .i64 f] 27) = w1 at K1 ORD c0 c1 ⊢
  go_wp2_with fail
  refine ORD.out.mono ?_
  rintro e w2 ⟨A', c', rfl, o2, k2⟩
  have H := Lib.hid (Lies.of_rows o2 (fun i _ => (trivial : (fun _ => True) i)))
  have K2 := Lib.hid (K1.out.step k2)
  obtain ⟨m, hm⟩ : ∃ m, m = O.length := ⟨_, rfl⟩
  have HML : Hid (m = O.length) := hm
  rw [← hm] at HM0 ⊢
  have hm20 := HM0.out
  clear o2 k2 hm ORD c0 c1 HM0
  go_wp2_with fail
  go_loopw [5, 11] (fun v ix wr => ∃ (j : Nat) (p : Option Addr), j ≤ m ∧ v = .pointer p ∧ ix = .int .i64 (j : Int) ∧ Hid (PtAt wr w.heap.size p (fullV (O.take j) i)) ∧ Hid (Kept noBlock w2 wr)) (fun _ ix _ => m - (intOf ix).toNat)
  case atStart => exact ⟨0, none, by omega, rfl, rfl, rfl, Kept.refl _ _⟩
  case round =>
    obtain ⟨j, p, hjm, rfl, rfl, HP, HK1⟩ := hrel
    by_cases hlt : j < m
    · skip
      obtain ⟨x, hx⟩ : ∃ x, O[j]? = some x := ⟨_, List.getElem?_eq_getElem (by have := HML.out; omega)⟩
      obtain ⟨g, o, rfl, _, cc⟩ := (H.out.keep HK1.out (fun _ _ h => h)).elem (enc := RefV.cells) ref_len (by omega) hx
      have e0 := cc 0 _ rfl
      have e1 := cc 1 _ rfl
      have e2 := cc 2 _ rfl
      have e3 := cc 3 _ rfl
      rw [Nat.add_zero] at e0
      have HX := Lib.hid hx
      clear hx cc
      go_upto_region 5 with (fail)
      have k3 := Kept.alloc noBlock wr (.cells #[.string x.name, .int .i64 x.kind, .int .i64 x.from_, .int .i64 x.to_] 37)
      have b3 := heap_alloc_new wr (.cells #[.string x.name, .int .i64 x.kind, .int .i64 x.from_, .int .i64 x.to_] 37)
      obtain ⟨C, hC⟩ : ∃ C, C = wr.heap.size := ⟨_, rfl⟩
      have HC := Lib.hid hC
      rw [← hC] at b3 ⊢
      generalize wr.alloc (.cells #[.string x.name, .int .i64 x.kind, .int .i64 x.from_, .int .i64 x.to_] 37) = w3 at k3 b3 ⊢
      obtain ⟨d0, d1, d2, d3⟩ := ref_cells b3
      have K3 := Lib.hid k3
      have HB3 := Lib.hid b3
      clear e0 e1 e2 e3 k3 b3 hC
      have ST := Lib.hid (fullV_step (i := i) HX.out)
      have KK := Lib.hid (HK1.out.step K3.out)
      by_cases hle : x.to_ ≤ i
      · have HP9 : Hid (PtAt w3 w.heap.size (some ⟨C, 0, none⟩) (fullV (O.take (j + 1)) i)) := by
          unfold Hid
          rw [ST.out, if_pos hle]
          exact ⟨C, rfl, by have := (K2.out.step HK1.out).size; have := HC.out; omega, HB3.out⟩
        clear ST HP
        go_wp2
        go_roundw
        case rel => exact ⟨j + 1, _, by omega, rfl, by go_num, HP9, KK⟩
        case measure => simp [intOf]; omega
      · have HP9 : Hid (PtAt w3 w.heap.size p (fullV (O.take (j + 1)) i)) := by
          unfold Hid
          rw [ST.out, if_neg hle]
          exact HP.out.keep K3.out
        clear ST HP
        go_wp2
        go_roundw
        case rel => exact ⟨j + 1, p, by omega, rfl, by go_num, HP9, KK⟩
        case measure => simp [intOf]; omega
    · obtain rfl : j = m := by omega
      have htk : O.take j = O := List.take_of_length_le (by have := HML.out; omega)
      rw [htk] at HP
      clear htk
      go_wp2
      go_ret
      exact ⟨p, rfl, HP.out, K2.out.step HK1.out⟩

set_option maxRecDepth 100000 in
set_option maxHeartbeats 1000000 in
theorem dback_any (F : Nat → Prop) (A : Option Addr) (n c : Nat) (f q i : Int) (L : List RefV) (w : World) (h : Lies w F A (refCells L)) (hl : L.length = n) (hn : n ≤ 1099511627776) (hk : (ofK 1 L).length < 20) :
    Calls Try.prog 20 #[.agg #[.slice A n c, .int .i64 f], .int .i64 q, .int .i64 i] w fun e w' => ∃ A' c', e = .returned (.tuple #[.slice A' (dltV (ordK 1 L) q i).1.length c', .int .i64 (dltV (ordK 1 L) q i).2]) ∧
      w'.ownsRow w.heap.size 37 4 (.slice A' (dltV (ordK 1 L) q i).1.length c') (dltV (ordK 1 L) q i).1.length (refCells (dltV (ordK 1 L) q i).1) ∧ Kept noBlock w w' := by
  have ka := Kept.alloc noBlock w (.cells #[.slice A n c, .int .i64 f] 27)
  have hb := heap_alloc_new w (.cells #[.slice A n c, .int .i64 f] 27)
  obtain ⟨O, hO⟩ : ∃ O, O = ordK 1 L := ⟨_, rfl⟩
  have K1 := Lib.hid ka
  have ORD := Lib.hid (ord_any F A n c f 1 L _ (h.keep ka (fun _ _ h => h)) hl hn hk)
  have HM0 : Hid (O.length < 20) := by unfold Hid; rw [hO]; unfold ordK; rw [ordV_len]; exact hk
  obtain ⟨c0, c1⟩ := pair_cells hb
  rw [← hO] at ORD ⊢
  clear h hl ka hb hk hO
  go_enter Try.func20, Try.ntmps20
  go_upto_region 2 with (fail)
  generalize w.alloc (.cells #[.slice A n c, .int .i64 f] 27) = w1 at K1 ORD c0 c1 ⊢
  go_wp2_with fail
  refine ORD.out.mono ?_
  rintro e w2 ⟨A', c', rfl, o2, k2⟩
  have H := Lib.hid (Lies.of_rows o2 (fun i _ => (trivial : (fun _ => True) i)))
  have K2 := Lib.hid (K1.out.step k2)
  obtain ⟨m, hm⟩ : ∃ m, m = O.length := ⟨_, rfl⟩
  have HML : Hid (m = O.length) := hm
  rw [← hm] at HM0 ⊢
  have hm20 := HM0.out
  clear o2 k2 hm ORD c0 c1 HM0
  have hbf : ∀ a b : Int, a ≠ b → (a == b) = false := fun a b h => by simpa using h
  have HBF := Lib.hid hbf
  clear hbf
  go_wp2_with fail
  go_loopw [8, 1, 14] (fun v pv ix wr => ∃ (j k : Nat) (p : Int) (ds : List RefV) (A1 : Option Addr) (c1 : Nat), j ≤ m ∧ k ≤ j ∧ v = .slice A1 k c1 ∧ pv = .int .i64 p ∧ ix = .int .i64 (j : Int) ∧ Hid ((O.take j).foldl (dltS i) ([], q) = (ds, p)) ∧ Hid (k = ds.length) ∧ Hid (wr.ownsRow w2.heap.size 37 4 (.slice A1 k c1) k (refCells ds)) ∧ Hid (Kept noBlock w2 wr)) (fun _ _ ix _ => m - (intOf ix).toNat)
  case atStart => exact ⟨0, 0, q, [], none, 0, by omega, by omega, rfl, rfl, rfl, rfl, rfl, World.ownsRow_nil _ _ _ _, Kept.refl _ _⟩
  case round =>
    obtain ⟨j, k, p, ds, A1, c1, hjm, hkj, rfl, rfl, rfl, HD, HKL, HO, HK1⟩ := hrel
    by_cases hlt : j < m
    · skip
      obtain ⟨x, hx⟩ : ∃ x, O[j]? = some x := ⟨_, List.getElem?_eq_getElem (by have := HML.out; omega)⟩
      obtain ⟨g, o, rfl, _, cc⟩ := (H.out.keep HK1.out (fun _ _ h => h)).elem (enc := RefV.cells) ref_len (by omega) hx
      have e0 := cc 0 _ rfl
      have e1 := cc 1 _ rfl
      have e2 := cc 2 _ rfl
      have e3 := cc 3 _ rfl
      rw [Nat.add_zero] at e0
      have HX := Lib.hid hx
      clear hx cc
      go_upto_region 5 with (fail)
      have k3 := Kept.alloc noBlock wr (.cells #[.string x.name, .int .i64 x.kind, .int .i64 x.from_, .int .i64 x.to_] 37)
      have b3 := heap_alloc_new wr (.cells #[.string x.name, .int .i64 x.kind, .int .i64 x.from_, .int .i64 x.to_] 37)
      obtain ⟨C, hC⟩ : ∃ C, C = wr.heap.size := ⟨_, rfl⟩
      have HC := Lib.hid hC
      rw [← hC] at b3 ⊢
      generalize wr.alloc (.cells #[.string x.name, .int .i64 x.kind, .int .i64 x.from_, .int .i64 x.to_] 37) = w3 at k3 b3 ⊢
      obtain ⟨d0, d1, d2, d3⟩ := ref_cells b3
      have K3 := Lib.hid k3
      have HB3 := Lib.hid b3
      clear e0 e1 e2 e3 k3 b3 hC
      have ST := Lib.hid (fold_step (dltS i) ([], q) HX.out)
      have KK := Lib.hid (HK1.out.step K3.out)
      have OL := Lib.hid (own_keep HO.out K3.out (fun _ _ h => h))
      have HLT := Lib.hid (fun i hi => (HO.out.lt i hi).2)
      by_cases h1 : x.from_ = p
      · have h1b : (x.from_ == p) = true := by simpa using h1
        by_cases h2 : p < x.to_
        · skip
          by_cases h3 : x.to_ ≤ i
          · have HD9 : Hid ((O.take (j + 1)).foldl (dltS i) ([], q) = (ds ++ [x], x.to_)) := by
              unfold Hid
              rw [ST.out, HD.out]
              exact if_pos ⟨h1, h2, h3⟩
            clear ST HD HO h1
            go_wp2_with (at_builtin; refine wpList_append_src rfl _ _ 25 25 rfl 37 noRef.val 4 40 Try.underlying25 Try.infoRef rfl (.slice A1 k c1) k (refCells ds) rfl (own_base (own_keep OL.out (Kept.alloc noBlock _ _) (fun _ _ h => h)) (fun _ _ => Nat.zero_le _)) _ 1 (refCells [x]) rfl (src_ref x (heap_alloc_new _ _)) ?c3 ?c4 ?_)
            case c3 => unfold maxLen; omega
            case c4 => omega
            intro A9 c9 u9 o9 k9 a9
            have ka := Kept.alloc noBlock w3 (.cells #[.string x.name, .int .i64 x.kind, .int .i64 x.from_, .int .i64 x.to_] 37)
            have ol9 := own_keep OL.out ka (fun _ _ h => h)
            have NX := Lib.hid (own_next (KK.out.step ka) ol9 o9 k9 a9)
            have hb9 := k9.blk (ka.blk HB3.out (fun h => h)) (fun e => by have := HLT.out _ e; have := HC.out; omega)
            obtain ⟨d0, d1, d2, d3⟩ := ref_cells hb9
            clear o9 k9 a9 ka ol9 hb9
            go_wp2
            go_roundw
            case rel => exact ⟨j + 1, k + 1, x.to_, ds ++ [x], A9, c9, by omega, by omega, rfl, rfl, by go_num, HD9, Lib.hid (by rw [List.length_append, HKL.out]; rfl), Lib.hid (by rw [refCells_append]; exact NX.out.1), Lib.hid NX.out.2⟩
            case measure => simp [intOf]; omega
          · skip
            have HD9 : Hid ((O.take (j + 1)).foldl (dltS i) ([], q) = (ds, p)) := by
              unfold Hid
              rw [ST.out, HD.out]
              exact if_neg (fun h => h3 h.2.2)
            clear ST HD HO HK1
            go_wp2
            go_roundw
            case rel => exact ⟨j + 1, k, p, ds, A1, c1, by omega, by omega, rfl, rfl, by go_num, HD9, HKL, OL, KK⟩
            case measure => simp [intOf]; omega
        · skip
          have HD9 : Hid ((O.take (j + 1)).foldl (dltS i) ([], q) = (ds, p)) := by
            unfold Hid
            rw [ST.out, HD.out]
            exact if_neg (fun h => h2 h.2.1)
          clear ST HD HO HK1
          go_wp2
          go_roundw
          case rel => exact ⟨j + 1, k, p, ds, A1, c1, by omega, by omega, rfl, rfl, by go_num, HD9, HKL, OL, KK⟩
          case measure => simp [intOf]; omega
      · have h1b := HBF.out _ _ h1
        have HD9 : Hid ((O.take (j + 1)).foldl (dltS i) ([], q) = (ds, p)) := by
          unfold Hid
          rw [ST.out, HD.out]
          exact if_neg (fun h => h1 h.1)
        clear ST HD HO HK1
        go_wp2
        go_roundw
        case rel => exact ⟨j + 1, k, p, ds, A1, c1, by omega, by omega, rfl, rfl, by go_num, HD9, HKL, OL, KK⟩
        case measure => simp [intOf]; omega
    · obtain rfl : j = m := by omega
      have htk : O.take j = O := List.take_of_length_le (by have := HML.out; omega)
      rw [htk] at HD
      have HD9 : Hid (dltV O q i = (ds, p)) := HD.out
      clear htk HD
      go_wp2
      refine bodyPost_ret (v := .tuple #[.slice A1 k c1, .int .i64 p]) (by simp [results, Try.results20, go_sem]) rfl ?_
      rw [HD9.out]
      have hk := HKL.out
      simp only
      rw [← hk]
      exact ⟨A1, c1, rfl, own_base HO.out (fun i hi => Nat.le_trans K2.out.size (HO.out.lt i hi).1), K2.out.step HK1.out⟩
end Go.Proofs.Ytollmkkbeeeccaa
