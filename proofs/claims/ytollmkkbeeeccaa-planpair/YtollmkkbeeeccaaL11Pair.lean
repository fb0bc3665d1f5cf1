/-
  The walk of PlanPair. No statement is proved here.
-/
import Derived.Test.YtollmkkbeeeccaaL11Use
import Derived.Test.YtollmkkbeeeccaaP11Pl
import Derived.Test.YtollmkkbeeeccaaL11Full
namespace Go.Proofs.Ytollmkkbeeeccaa
open Go.RowKit Tot

theorem fromV_no {l : List RefV} {p : Int} (h : ∀ (t : Nat) (y : RefV), l[t]? = some y → ¬ (y.from_ = p ∧ y.from_ < y.to_)) : fromV l p = none := by
  refine findIdx_none fun j y hj => ?_
  rw [decide_eq_false_iff_not]
  rintro ⟨h1, h2⟩
  exact h j y hj ⟨h1, by omega⟩
theorem fromV_at {l : List RefV} {p : Int} {k : Nat} {y : RefV} (h : ∀ (t : Nat) (z : RefV), t < k → l[t]? = some z → ¬ (z.from_ = p ∧ z.from_ < z.to_)) (hk : l[k]? = some y) (h1 : y.from_ = p) (h2 : y.from_ < y.to_) : fromV l p = some k := by
  refine findIdx_some hk (decide_eq_true ⟨h1, by omega⟩) fun j z hjk hj => ?_
  rw [decide_eq_false_iff_not]
  rintro ⟨h3, h4⟩
  exact h j z hjk hj ⟨h3, by omega⟩

set_option maxRecDepth 100000 in
set_option maxHeartbeats 2000000 in
theorem lpair_any (F : Nat → Prop) (A : Option Addr) (n c : Nat) (rs : List RfN)  (w : World) (h : Lies w F A (rfCells rs)) (hl : n = rs.length) (hnc : n ≤ c) (hc : c ≤ 9223372036854775807) :
    Calls Try.prog 7 #[.slice A n c] w fun e w' => e = .returned (.bool true) ∧ Kept noBlock w w' := by
  have AW := Lib.hid (awake_any w)
  have SE := Lib.hid (fun u (k : Kept noBlock w u) => set_any F A n c rs 0 u (h.keep k (fun _ _ h => h)) hl hnc hc)
  obtain ⟨f, hf, _, hf12⟩ := rem_num 0 12 (by omega)
  obtain ⟨L, hL⟩ : ∃ L, L = setS rs := ⟨_, rfl⟩
  have hL14 : L.length ≤ 14 := by rw [hL]; exact setS_len rs
  rw [← hL, ← hf] at SE
  obtain ⟨m, hm⟩ : ∃ m, m = L.length := ⟨_, rfl⟩
  rw [← hm] at SE hL14
  have HM := Lib.hid hm
  obtain rfl : f = 0 := hf
  have e0 : ((0 : UInt8).toNat : Int) = 0 := rfl
  rw [e0] at SE
  clear h hl hnc hc hL hm e0
  go_enter Try.func7, Try.ntmps7
  go_wp2_with fail
  refine AW.out.mono ?_
  rintro e w1 ⟨rfl, k1⟩
  have K1 := Lib.hid k1
  clear k1 AW
  go_wp2_with fail
  refine (SE.out _ K1.out).mono ?_
  rintro e w2 ⟨A', c', rfl, o2, k2⟩
  have ka := Kept.alloc noBlock w2 (.cells #[.slice A' m c', .int .i64 0] 27)
  have ha := heap_alloc_new w2 (.cells #[.slice A' m c', .int .i64 0] 27)
  go_upto_region 4 with (fail)
  obtain ⟨S, hS⟩ : ∃ S, S = w2.heap.size := ⟨_, rfl⟩
  rw [← hS] at ha ⊢
  generalize w2.alloc (.cells #[.slice A' m c', .int .i64 0] 27) = w3 at ka ha ⊢
  have K3 := Lib.hid (K1.out.step (k2.step ka))
  have HS3 := Lib.hid ha
  have HLI := Lib.hid ((Lies.of_rows (F := fun _ => True) o2 (fun _ _ => trivial)).keep ka (fun _ _ h => h))
  have HSW : Hid (w.heap.size ≤ S) := by unfold Hid; rw [hS]; exact (K1.out.step k2).size
  clear k2 ka ha o2 SE hS
  obtain ⟨s0, s1⟩ := pair_cells HS3.out
  have PA := Lib.hid (pair_any (fun _ => True) A' m c' 0 L w3 HLI.out HM.out.symm (by omega) (Nat.lt_of_le_of_lt (ofK_len 1 L) (by have := HM.out; omega)))
  have LO := Lib.hid (fun u (k : Kept noBlock w3 u) => lof_any (fun _ => True) A' m c' 0 1 L u (HLI.out.keep k (fun _ _ h => h)) HM.out.symm (by omega))
  have HOL := Lib.hid (show (ordK 1 L).length ≤ m by unfold ordK; rw [ordV_len]; have := ofK_len 1 L; have := HM.out; omega)
  obtain ⟨z, hz⟩ : ∃ z, z = pairV L := ⟨_, rfl⟩
  rw [← hz] at PA
  have HZ : Hid (z = pairS (ordK 1 L) (ordK 1 L)) := hz
  obtain ⟨es, hes⟩ : ∃ es, es = ordK 1 L := ⟨_, rfl⟩
  rw [← hes] at LO HOL HZ
  obtain ⟨d, hd⟩ : ∃ d, d = es.length := ⟨_, rfl⟩
  rw [← hd] at LO HOL
  have HD := Lib.hid hd
  have hdm := HOL.out
  clear hz hes hd
  cases z with
  | none =>
    unfold pairR RefV.val noRef at PA
    simp only at PA
    go_wp2_with fail
    refine PA.out.mono ?_
    rintro e w4 ⟨rfl, k4⟩
    have kb : Kept noBlock w4 ((w4.alloc (.cells #[.string ⟨#[]⟩, .int .i64 0, .int .i64 0, .int .i64 0] 37)).alloc (.cells #[.string ⟨#[]⟩, .int .i64 0, .int .i64 0, .int .i64 0] 37)) := (Kept.alloc _ _ _).step (Kept.alloc _ _ _)
    have b4 : ((w4.alloc (.cells #[.string ⟨#[]⟩, .int .i64 0, .int .i64 0, .int .i64 0] 37)).alloc (.cells #[.string ⟨#[]⟩, .int .i64 0, .int .i64 0, .int .i64 0] 37)).heap[w4.heap.size]? = some (.cells #[.string ⟨#[]⟩, .int .i64 0, .int .i64 0, .int .i64 0] 37 (0, 0)) := (Kept.alloc noBlock _ _).blk (heap_alloc_new w4 _) (fun h => h)
    have b5 : ((w4.alloc (.cells #[.string ⟨#[]⟩, .int .i64 0, .int .i64 0, .int .i64 0] 37)).alloc (.cells #[.string ⟨#[]⟩, .int .i64 0, .int .i64 0, .int .i64 0] 37)).heap[w4.heap.size + 1]? = some (.cells #[.string ⟨#[]⟩, .int .i64 0, .int .i64 0, .int .i64 0] 37 (0, 0)) := by
      have := heap_alloc_new (w4.alloc (.cells #[.string ⟨#[]⟩, .int .i64 0, .int .i64 0, .int .i64 0] 37)) (.cells #[.string ⟨#[]⟩, .int .i64 0, .int .i64 0, .int .i64 0] 37)
      simpa using this
    go_upto_region 5 with (fail)
    obtain ⟨X, hX⟩ : ∃ X, X = w4.heap.size := ⟨_, rfl⟩
    obtain ⟨Y, hY⟩ : ∃ Y, Y = w4.heap.size + 1 := ⟨_, rfl⟩
    rw [← hX] at b4
    rw [← hY] at b5 ⊢
    rw [← hX]
    generalize (w4.alloc (.cells #[.string ⟨#[]⟩, .int .i64 0, .int .i64 0, .int .i64 0] 37)).alloc (.cells #[.string ⟨#[]⟩, .int .i64 0, .int .i64 0, .int .i64 0] 37) = w5 at kb b4 b5 ⊢
    have K5 := Lib.hid (k4.step kb)
    have HX5 := Lib.hid b4
    have HY5 := Lib.hid b5
    obtain ⟨s0, s1⟩ := pair_cells (K5.out.blk HS3.out (fun h => h))
    clear k4 kb b4 b5 hX hY PA
    go_wp2_with fail
    refine (LO.out _ K5.out).mono ?_
    rintro e w6 ⟨A1, c1, rfl, o6, k6⟩
    have K6 := Lib.hid (K5.out.step k6)
    have HX6 := Lib.hid (k6.blk HX5.out (fun h => h))
    have HY6 := Lib.hid (k6.blk HY5.out (fun h => h))
    have HLE := Lib.hid (Lies.of_rows (F := fun _ => True) o6 (fun _ _ => trivial))
    clear k6 o6 LO s0 s1
    go_wp2_with fail
    go_loopw [26] (fun i wr => ∃ j : Nat, j ≤ d ∧ i = .int .i64 (j : Int) ∧ Hid (none = pairS es (es.drop j)) ∧ Hid (Kept noBlock w6 wr)) (fun i _ => d - (intOf i).toNat)
    case atStart => exact ⟨0, by omega, rfl, HZ, Kept.refl _ _⟩
    case round =>
      obtain ⟨j, hjd, rfl, HP, HK⟩ := hrel
      by_cases hlt : j < d
      · have hdec : decide ((j : Int) < (d : Int)) = true := decide_eq_true (by omega)
        obtain ⟨x, hx⟩ : ∃ x, es[j]? = some x := ⟨_, List.getElem?_eq_getElem (by have := HD.out; omega)⟩
        obtain ⟨g, o, rfl, _, cc⟩ := (HLE.out.keep HK.out (fun _ _ h => h)).elem (enc := RefV.cells) ref_len (by omega) hx
        have e0 := cc 0 _ rfl
        have e1 := cc 1 _ rfl
        have e2 := cc 2 _ rfl
        have e3 := cc 3 _ rfl
        rw [Nat.add_zero] at e0
        have HX := Lib.hid hx
        clear hx cc
        go_upto_region 9 with (fail)
        have k3 := Kept.alloc noBlock wr (.cells #[.string x.name, .int .i64 x.kind, .int .i64 x.from_, .int .i64 x.to_] 37)
        have b3 := heap_alloc_new wr (.cells #[.string x.name, .int .i64 x.kind, .int .i64 x.from_, .int .i64 x.to_] 37)
        obtain ⟨C, hC⟩ : ∃ C, C = wr.heap.size := ⟨_, rfl⟩
        rw [← hC] at b3 ⊢
        generalize wr.alloc (.cells #[.string x.name, .int .i64 x.kind, .int .i64 x.from_, .int .i64 x.to_] 37) = w8 at k3 b3 ⊢
        have K8 := Lib.hid (HK.out.step k3)
        have HC8 := Lib.hid b3
        clear e0 e1 e2 e3 k3 b3 hC HK
        go_wp2_with fail
        go_loopw [32] (fun i wr => ∃ k : Nat, k ≤ d ∧ i = .int .i64 (k : Int) ∧ Hid (∀ (t : Nat) (y : RefV), t < k → es[t]? = some y → ¬ (y.from_ = x.to_ ∧ y.from_ < y.to_)) ∧ Hid (Kept noBlock w8 wr)) (fun i _ => d - (intOf i).toNat)
        case atStart => exact ⟨0, by omega, rfl, fun t y ht _ => absurd ht (Nat.not_lt_zero _), Kept.refl _ _⟩
        case round =>
          obtain ⟨k, hkd, rfl, HN, HK2⟩ := hrel
          by_cases hlt2 : k < d
          · obtain ⟨y, hy⟩ : ∃ y, es[k]? = some y := ⟨_, List.getElem?_eq_getElem (by have := HD.out; omega)⟩
            obtain ⟨g', o', e', _, cc⟩ := (HLE.out.keep (K8.out.step HK2.out) (fun _ _ h => h)).elem (enc := RefV.cells) ref_len (by omega) hy
            injection e' with e'
            injection e' with e1' e2'
            subst e1' e2'
            have e0 := cc 0 _ rfl
            have e1 := cc 1 _ rfl
            have e2 := cc 2 _ rfl
            have e3 := cc 3 _ rfl
            rw [Nat.add_zero] at e0
            have HY := Lib.hid hy
            clear hy cc
            go_upto_region 12 with (fail)
            have k3 := Kept.alloc noBlock wr (.cells #[.string y.name, .int .i64 y.kind, .int .i64 y.from_, .int .i64 y.to_] 37)
            have b3 := heap_alloc_new wr (.cells #[.string y.name, .int .i64 y.kind, .int .i64 y.from_, .int .i64 y.to_] 37)
            obtain ⟨E, hE⟩ : ∃ E, E = wr.heap.size := ⟨_, rfl⟩
            rw [← hE] at b3 ⊢
            generalize wr.alloc (.cells #[.string y.name, .int .i64 y.kind, .int .i64 y.from_, .int .i64 y.to_] 37) = w9 at k3 b3 ⊢
            have K9 := Lib.hid (HK2.out.step k3)
            obtain ⟨y0, y1, y2, y3⟩ := ref_cells b3
            obtain ⟨x0, x1, x2, x3⟩ := ref_cells (K9.out.blk HC8.out (fun h => h))
            clear e0 e1 e2 e3 k3 b3 hE HK2
            by_cases h1 : y.from_ = x.to_
            · have hb1 : (y.from_ == x.to_) = true := by simpa using h1
              by_cases h2 : y.from_ < y.to_
              · have hne : ¬ x = y := fun e => by rw [e] at h1; omega
                have NE := fun u => ref_neq u x y
                rw [decide_eq_false hne] at NE
                unfold RefV.val at NE
                have hz := HP.out
                rw [pairS_step HX.out, fromV_at HN.out HY.out h1 h2] at hz
                simp only at hz
                rw [HY.out] at hz
                cases hz
              · have HN9 : Hid (∀ (t : Nat) (y : RefV), t < k + 1 → es[t]? = some y → ¬ (y.from_ = x.to_ ∧ y.from_ < y.to_)) := by
                  intro t z ht hz
                  by_cases htk : t = k
                  · subst htk
                    rw [HY.out] at hz
                    injection hz with hz
                    exact fun h => h2 (hz ▸ h.2)
                  · exact HN.out t z (by omega) hz
                clear h1 HN
                go_wp2
                go_roundw
                case rel => exact ⟨k + 1, by omega, by go_num, HN9, K9⟩
                case measure => simp [intOf]; omega
            · have hb1 : (y.from_ == x.to_) = false := by simpa using h1
              have HN9 : Hid (∀ (t : Nat) (y : RefV), t < k + 1 → es[t]? = some y → ¬ (y.from_ = x.to_ ∧ y.from_ < y.to_)) := by
                intro t z ht hz
                by_cases htk : t = k
                · subst htk
                  rw [HY.out] at hz
                  injection hz with hz
                  exact fun h => h1 (hz ▸ h.1)
                · exact HN.out t z (by omega) hz
              clear h1 HN
              go_wp2
              go_roundw
              case rel => exact ⟨k + 1, by omega, by go_num, HN9, K9⟩
              case measure => simp [intOf]; omega
          · obtain rfl : k = d := by omega
            have HP9 : Hid (none = pairS es (es.drop (j + 1))) := by
              unfold Hid
              rw [HP.out, pairS_step HX.out, fromV_no (fun t y hy => HN.out t y (by have := (List.getElem?_eq_some_iff.1 hy).1; have := HD.out; omega) hy)]
            have KE := Lib.hid (K8.out.step HK2.out)
            clear HN HK2
            go_wp2
            go_roundw
            case rel => exact ⟨j + 1, by omega, by go_num, HP9, KE⟩
            case measure => simp [intOf]; omega
      · obtain rfl : j = d := by omega
        have hz := HP.out
        rw [List.drop_eq_nil_of_le (by have := HD.out; omega)] at hz
        have EQ := fun u => ref_eql u noRef noRef
        rw [decide_eq_true rfl] at EQ
        unfold RefV.val noRef at EQ
        simp only at EQ
        obtain ⟨x0, x1, x2, x3⟩ := ref_cells (HK.out.blk HX6.out (fun h => h))
        obtain ⟨y0, y1, y2, y3⟩ := ref_cells (HK.out.blk HY6.out (fun h => h))
        have KE := Lib.hid (K3.out.step (K6.out.step HK.out))
        clear hz HP HK
        go_wp2
        go_ret
        exact ⟨by first | rfl | simp, KE.out⟩
  | some q =>
    obtain ⟨a, b⟩ := q
    unfold pairR RefV.val at PA
    simp only at PA
    go_wp2_with fail
    refine PA.out.mono ?_
    rintro e w4 ⟨rfl, k4⟩
    have kb : Kept noBlock w4 ((w4.alloc (.cells #[.string a.name, .int .i64 a.kind, .int .i64 a.from_, .int .i64 a.to_] 37)).alloc (.cells #[.string b.name, .int .i64 b.kind, .int .i64 b.from_, .int .i64 b.to_] 37)) := (Kept.alloc _ _ _).step (Kept.alloc _ _ _)
    have b4 : ((w4.alloc (.cells #[.string a.name, .int .i64 a.kind, .int .i64 a.from_, .int .i64 a.to_] 37)).alloc (.cells #[.string b.name, .int .i64 b.kind, .int .i64 b.from_, .int .i64 b.to_] 37)).heap[w4.heap.size]? = some (.cells #[.string a.name, .int .i64 a.kind, .int .i64 a.from_, .int .i64 a.to_] 37 (0, 0)) := (Kept.alloc noBlock _ _).blk (heap_alloc_new w4 _) (fun h => h)
    have b5 : ((w4.alloc (.cells #[.string a.name, .int .i64 a.kind, .int .i64 a.from_, .int .i64 a.to_] 37)).alloc (.cells #[.string b.name, .int .i64 b.kind, .int .i64 b.from_, .int .i64 b.to_] 37)).heap[w4.heap.size + 1]? = some (.cells #[.string b.name, .int .i64 b.kind, .int .i64 b.from_, .int .i64 b.to_] 37 (0, 0)) := by
      have := heap_alloc_new (w4.alloc (.cells #[.string a.name, .int .i64 a.kind, .int .i64 a.from_, .int .i64 a.to_] 37)) (.cells #[.string b.name, .int .i64 b.kind, .int .i64 b.from_, .int .i64 b.to_] 37)
      simpa using this
    go_upto_region 5 with (fail)
    obtain ⟨X, hX⟩ : ∃ X, X = w4.heap.size := ⟨_, rfl⟩
    obtain ⟨Y, hY⟩ : ∃ Y, Y = w4.heap.size + 1 := ⟨_, rfl⟩
    rw [← hX] at b4
    rw [← hY] at b5 ⊢
    rw [← hX]
    generalize (w4.alloc (.cells #[.string a.name, .int .i64 a.kind, .int .i64 a.from_, .int .i64 a.to_] 37)).alloc (.cells #[.string b.name, .int .i64 b.kind, .int .i64 b.from_, .int .i64 b.to_] 37) = w5 at kb b4 b5 ⊢
    have K5 := Lib.hid (k4.step kb)
    have HX5 := Lib.hid b4
    have HY5 := Lib.hid b5
    obtain ⟨s0, s1⟩ := pair_cells (K5.out.blk HS3.out (fun h => h))
    clear k4 kb b4 b5 hX hY PA
    go_wp2_with fail
    refine (LO.out _ K5.out).mono ?_
    rintro e w6 ⟨A1, c1, rfl, o6, k6⟩
    have K6 := Lib.hid (K5.out.step k6)
    have HX6 := Lib.hid (k6.blk HX5.out (fun h => h))
    have HY6 := Lib.hid (k6.blk HY5.out (fun h => h))
    have HLE := Lib.hid (Lies.of_rows (F := fun _ => True) o6 (fun _ _ => trivial))
    clear k6 o6 LO s0 s1
    go_wp2_with fail
    go_loopw [26] (fun i wr => ∃ j : Nat, j ≤ d ∧ i = .int .i64 (j : Int) ∧ Hid (some (a, b) = pairS es (es.drop j)) ∧ Hid (Kept noBlock w6 wr)) (fun i _ => d - (intOf i).toNat)
    case atStart => exact ⟨0, by omega, rfl, HZ, Kept.refl _ _⟩
    case round =>
      obtain ⟨j, hjd, rfl, HP, HK⟩ := hrel
      by_cases hlt : j < d
      · have hdec : decide ((j : Int) < (d : Int)) = true := decide_eq_true (by omega)
        obtain ⟨x, hx⟩ : ∃ x, es[j]? = some x := ⟨_, List.getElem?_eq_getElem (by have := HD.out; omega)⟩
        obtain ⟨g, o, rfl, _, cc⟩ := (HLE.out.keep HK.out (fun _ _ h => h)).elem (enc := RefV.cells) ref_len (by omega) hx
        have e0 := cc 0 _ rfl
        have e1 := cc 1 _ rfl
        have e2 := cc 2 _ rfl
        have e3 := cc 3 _ rfl
        rw [Nat.add_zero] at e0
        have HX := Lib.hid hx
        clear hx cc
        go_upto_region 9 with (fail)
        have k3 := Kept.alloc noBlock wr (.cells #[.string x.name, .int .i64 x.kind, .int .i64 x.from_, .int .i64 x.to_] 37)
        have b3 := heap_alloc_new wr (.cells #[.string x.name, .int .i64 x.kind, .int .i64 x.from_, .int .i64 x.to_] 37)
        obtain ⟨C, hC⟩ : ∃ C, C = wr.heap.size := ⟨_, rfl⟩
        rw [← hC] at b3 ⊢
        generalize wr.alloc (.cells #[.string x.name, .int .i64 x.kind, .int .i64 x.from_, .int .i64 x.to_] 37) = w8 at k3 b3 ⊢
        have K8 := Lib.hid (HK.out.step k3)
        have HC8 := Lib.hid b3
        clear e0 e1 e2 e3 k3 b3 hC HK
        go_wp2_with fail
        go_loopw [32] (fun i wr => ∃ k : Nat, k ≤ d ∧ i = .int .i64 (k : Int) ∧ Hid (∀ (t : Nat) (y : RefV), t < k → es[t]? = some y → ¬ (y.from_ = x.to_ ∧ y.from_ < y.to_)) ∧ Hid (Kept noBlock w8 wr)) (fun i _ => d - (intOf i).toNat)
        case atStart => exact ⟨0, by omega, rfl, fun t y ht _ => absurd ht (Nat.not_lt_zero _), Kept.refl _ _⟩
        case round =>
          obtain ⟨k, hkd, rfl, HN, HK2⟩ := hrel
          by_cases hlt2 : k < d
          · obtain ⟨y, hy⟩ : ∃ y, es[k]? = some y := ⟨_, List.getElem?_eq_getElem (by have := HD.out; omega)⟩
            obtain ⟨g', o', e', _, cc⟩ := (HLE.out.keep (K8.out.step HK2.out) (fun _ _ h => h)).elem (enc := RefV.cells) ref_len (by omega) hy
            injection e' with e'
            injection e' with e1' e2'
            subst e1' e2'
            have e0 := cc 0 _ rfl
            have e1 := cc 1 _ rfl
            have e2 := cc 2 _ rfl
            have e3 := cc 3 _ rfl
            rw [Nat.add_zero] at e0
            have HY := Lib.hid hy
            clear hy cc
            go_upto_region 12 with (fail)
            have k3 := Kept.alloc noBlock wr (.cells #[.string y.name, .int .i64 y.kind, .int .i64 y.from_, .int .i64 y.to_] 37)
            have b3 := heap_alloc_new wr (.cells #[.string y.name, .int .i64 y.kind, .int .i64 y.from_, .int .i64 y.to_] 37)
            obtain ⟨E, hE⟩ : ∃ E, E = wr.heap.size := ⟨_, rfl⟩
            rw [← hE] at b3 ⊢
            generalize wr.alloc (.cells #[.string y.name, .int .i64 y.kind, .int .i64 y.from_, .int .i64 y.to_] 37) = w9 at k3 b3 ⊢
            have K9 := Lib.hid (HK2.out.step k3)
            obtain ⟨y0, y1, y2, y3⟩ := ref_cells b3
            obtain ⟨x0, x1, x2, x3⟩ := ref_cells (K9.out.blk HC8.out (fun h => h))
            clear e0 e1 e2 e3 k3 b3 hE HK2
            by_cases h1 : y.from_ = x.to_
            · have hb1 : (y.from_ == x.to_) = true := by simpa using h1
              by_cases h2 : y.from_ < y.to_
              · have hne : ¬ x = y := fun e => by rw [e] at h1; omega
                have NE := fun u => ref_neq u x y
                rw [decide_eq_false hne] at NE
                unfold RefV.val at NE
                have hz := HP.out
                rw [pairS_step HX.out, fromV_at HN.out HY.out h1 h2] at hz
                simp only at hz
                rw [HY.out] at hz
                simp only [Option.getD_some, Option.some.injEq, Prod.mk.injEq] at hz
                obtain ⟨ha, hb⟩ := hz
                subst ha
                subst hb
                have EA := fun u => ref_eql u a a
                have EB := fun u => ref_eql u b b
                rw [decide_eq_true rfl] at EA EB
                unfold RefV.val at EA EB
                obtain ⟨p0, p1, p2, p3⟩ := ref_cells ((K8.out.step K9.out).blk HX6.out (fun h => h))
                obtain ⟨q0, q1, q2, q3⟩ := ref_cells ((K8.out.step K9.out).blk HY6.out (fun h => h))
                have KE := Lib.hid (K3.out.step (K6.out.step (K8.out.step K9.out)))
                clear h1 hne
                go_wp2
                go_ret
                exact ⟨by first | rfl | simp, KE.out⟩
              · have HN9 : Hid (∀ (t : Nat) (y : RefV), t < k + 1 → es[t]? = some y → ¬ (y.from_ = x.to_ ∧ y.from_ < y.to_)) := by
                  intro t z ht hz
                  by_cases htk : t = k
                  · subst htk
                    rw [HY.out] at hz
                    injection hz with hz
                    exact fun h => h2 (hz ▸ h.2)
                  · exact HN.out t z (by omega) hz
                clear h1 HN
                go_wp2
                go_roundw
                case rel => exact ⟨k + 1, by omega, by go_num, HN9, K9⟩
                case measure => simp [intOf]; omega
            · have hb1 : (y.from_ == x.to_) = false := by simpa using h1
              have HN9 : Hid (∀ (t : Nat) (y : RefV), t < k + 1 → es[t]? = some y → ¬ (y.from_ = x.to_ ∧ y.from_ < y.to_)) := by
                intro t z ht hz
                by_cases htk : t = k
                · subst htk
                  rw [HY.out] at hz
                  injection hz with hz
                  exact fun h => h1 (hz ▸ h.1)
                · exact HN.out t z (by omega) hz
              clear h1 HN
              go_wp2
              go_roundw
              case rel => exact ⟨k + 1, by omega, by go_num, HN9, K9⟩
              case measure => simp [intOf]; omega
          · obtain rfl : k = d := by omega
            have HP9 : Hid (some (a, b) = pairS es (es.drop (j + 1))) := by
              unfold Hid
              rw [HP.out, pairS_step HX.out, fromV_no (fun t y hy => HN.out t y (by have := (List.getElem?_eq_some_iff.1 hy).1; have := HD.out; omega) hy)]
            have KE := Lib.hid (K8.out.step HK2.out)
            clear HN HK2
            go_wp2
            go_roundw
            case rel => exact ⟨j + 1, by omega, by go_num, HP9, KE⟩
            case measure => simp [intOf]; omega
      · obtain rfl : j = d := by omega
        have hz := HP.out
        rw [List.drop_eq_nil_of_le (by have := HD.out; omega)] at hz
        cases hz
end Go.Proofs.Ytollmkkbeeeccaa
