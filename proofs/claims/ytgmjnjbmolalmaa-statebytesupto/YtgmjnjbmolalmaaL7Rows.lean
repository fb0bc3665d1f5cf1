/-
  Which rows and states the statements of layer 7 call right. No statement is proved here.
-/
import Derived.Test.YtgmjnjbmolalmaaStgK
namespace Go.Proofs.Ytgmjnjbmolalmaa
open Go.RowKit Tot

set_option maxRecDepth 100000 in
set_option maxHeartbeats 1000000 in
theorem lrows_any (F : Nat → Prop) (a : Option Addr) (n c : Nat) (B : Option Addr) (m d : Nat) (ps : Prs) (xs : Sns) (most : Int) (w : World) (h : Lies w F a (PR.cells ps)) (hl : ps.length = n) (hc : n ≤ c) (hn : n ≤ 1099511627776)
    (h2 : Lies w F B (SN.cells xs)) (hl2 : xs.length = m) (hc2 : m ≤ d) (hn2 : m ≤ 1099511627776) :
    Calls Try.prog 34 #[.slice a n c, .slice B m d, .int .i64 most] w (Says w (decide (RowsOk ps xs most))) := by
  have H := Lib.hid h
  have HL := Lib.hid hl
  have H2 := Lib.hid h2
  have HL2 := Lib.hid hl2
  clear h hl h2 hl2
  have NO : Hid (∀ k x w', ps[k]? = some x → Kept noBlock w w' → ¬ ((∀ j q, k = j + 1 → ps[j]? = some q → lt q.1 x.1 = true) ∧ PairOk x) → Says w (decide (RowsOk ps xs most)) (.returned (.bool false)) w') := fun k x w' hx kk hno =>
    ⟨by rw [decide_eq_false (fun hp : RowsOk ps xs most => hno ((rowOk_next (P := PairOk) hx).1 (rowOk_take hp.2.1 (k + 1))).2)], kk⟩
  have NOX : Hid (∀ k x w', xs[k]? = some x → Kept noBlock w w' → ¬ ((∀ j q, k = j + 1 → xs[j]? = some q → lt q.1 x.1 = true) ∧ SessOk x) → Says w (decide (RowsOk ps xs most)) (.returned (.bool false)) w') := fun k x w' hx kk hno =>
    ⟨by rw [decide_eq_false (fun hp : RowsOk ps xs most => hno ((rowOk_next (P := SessOk) hx).1 (rowOk_take hp.2.2 (k + 1))).2)], kk⟩
  go_enter Try.func34, Try.ntmps34
  go_wp2
  go_loopw [13] (fun i wr => ∃ k : Nat, k ≤ n ∧ i = .int .i64 (k : Int) ∧ Hid (PairsOk (ps.take k)) ∧ Hid (Kept noBlock w wr)) (fun i _ => n - (intOf i).toNat)
  case atStart => exact ⟨0, by omega, rfl, ⟨by rw [List.take_zero]; exact List.Pairwise.nil, by rw [List.take_zero]; simp⟩, Kept.refl _ _⟩
  case round =>
    obtain ⟨k, hk, rfl, HP, HK⟩ := hrel
    by_cases hlt : k < n
    · obtain ⟨x, hx⟩ : ∃ x, ps[k]? = some x := ⟨_, List.getElem?_eq_getElem (by have := HL.out; omega)⟩
      have hlies := H.out.keep HK.out (fun _ _ h => h)
      obtain ⟨g, o, ha, _, cc⟩ := hlies.elem PR.enc_len (by omega) hx
      have c0 := cc 0 _ rfl
      have c1 := cc 1 _ rfl
      have c2 := cc 2 _ rfl
      rw [Nat.add_zero] at c0
      have NX : Hid (∀ w', Kept noBlock w w' → ¬ ((∀ j q, k = j + 1 → ps[j]? = some q → lt q.1 x.1 = true) ∧ PairOk x) → Says w (decide (RowsOk ps xs most)) (.returned (.bool false)) w') := fun w' => NO.out k x w' hx
      have OK : Hid ((∀ j q, k = j + 1 → ps[j]? = some q → lt q.1 x.1 = true) → PairOk x → PairsOk (ps.take (k + 1))) := fun h1 h2 => (rowOk_next (P := PairOk) hx).2 ⟨HP.out, h1, h2⟩
      have HX := Lib.hid hx
      clear hx cc
      obtain ⟨xk, xv, xg⟩ := x
      simp only at c0 c1 c2
      have ka := Kept.alloc noBlock wr (.cells #[.string xk, .string xv, .bool xg] 61)
      have hb := heap_alloc_new wr (.cells #[.string xk, .string xv, .bool xg] 61)
      have HLI := Lib.hid hlies
      clear hlies
      by_cases h1 : (xk.size : Int) < 1
      · subst ha
        have NO2 : Hid (∀ w', Kept noBlock w w' → Says w (decide (RowsOk ps xs most)) (.returned (.bool false)) w') := fun w' kk => NX.out w' kk (fun h => by have := h.2.1; simp only at this; omega)
        go_upto_region 4 with (fail)
        generalize wr.alloc (.cells #[.string xk, .string xv, .bool xg] 61) = u0 at ka hb ⊢
        obtain ⟨b0, b1, b2⟩ : u0.cell? ⟨wr.heap.size, 0, none⟩ = some (.string xk) ∧ u0.cell? ⟨wr.heap.size, 1, none⟩ = some (.string xv) ∧ u0.cell? ⟨wr.heap.size, 2, none⟩ = some (.bool xg) := ⟨cell_of_row _ _ _ _ _ _ hb, cell_of_row _ _ _ _ _ _ hb, cell_of_row _ _ _ _ _ _ hb⟩
        go_quiet (fail)
        have kq := Kept.drewN noBlock u0 nq
        generalize u0.drewN nq = u at kq ⊢
        have NO3 := Lib.hid (NO2.out u (HK.out.step (ka.step kq)))
        clear ka hb kq b0 b1 b2
        go_wp2
        go_ret
        exact NO3.out
      · have d1 : decide ((xk.size : Int) < 1) = false := decide_eq_false h1
        by_cases h2 : (8 : Int) < xk.size
        · subst ha
          have NO2 : Hid (∀ w', Kept noBlock w w' → Says w (decide (RowsOk ps xs most)) (.returned (.bool false)) w') := fun w' kk => NX.out w' kk (fun h => by have := h.2.2.1; simp only at this; omega)
          go_upto_region 4 with (fail)
          generalize wr.alloc (.cells #[.string xk, .string xv, .bool xg] 61) = u0 at ka hb ⊢
          obtain ⟨b0, b1, b2⟩ : u0.cell? ⟨wr.heap.size, 0, none⟩ = some (.string xk) ∧ u0.cell? ⟨wr.heap.size, 1, none⟩ = some (.string xv) ∧ u0.cell? ⟨wr.heap.size, 2, none⟩ = some (.bool xg) := ⟨cell_of_row _ _ _ _ _ _ hb, cell_of_row _ _ _ _ _ _ hb, cell_of_row _ _ _ _ _ _ hb⟩
          go_quiet (fail)
          have kq := Kept.drewN noBlock u0 nq
          generalize u0.drewN nq = u at kq ⊢
          have NO3 := Lib.hid (NO2.out u (HK.out.step (ka.step kq)))
          clear ka hb kq b0 b1 b2
          go_wp2
          go_ret
          exact NO3.out
        · have d2 : decide ((8 : Int) < xk.size) = false := decide_eq_false h2
          by_cases h3 : (16 : Int) < xv.size
          · subst ha
            have NO2 : Hid (∀ w', Kept noBlock w w' → Says w (decide (RowsOk ps xs most)) (.returned (.bool false)) w') := fun w' kk => NX.out w' kk (fun h => by have := h.2.2.2.1; simp only at this; omega)
            go_upto_region 4 with (fail)
            generalize wr.alloc (.cells #[.string xk, .string xv, .bool xg] 61) = u0 at ka hb ⊢
            obtain ⟨b0, b1, b2⟩ : u0.cell? ⟨wr.heap.size, 0, none⟩ = some (.string xk) ∧ u0.cell? ⟨wr.heap.size, 1, none⟩ = some (.string xv) ∧ u0.cell? ⟨wr.heap.size, 2, none⟩ = some (.bool xg) := ⟨cell_of_row _ _ _ _ _ _ hb, cell_of_row _ _ _ _ _ _ hb, cell_of_row _ _ _ _ _ _ hb⟩
            go_quiet (fail)
            have kq := Kept.drewN noBlock u0 nq
            generalize u0.drewN nq = u at kq ⊢
            have NO3 := Lib.hid (NO2.out u (HK.out.step (ka.step kq)))
            clear ka hb kq b0 b1 b2
            go_wp2
            go_ret
            exact NO3.out
          · have d3 : decide ((16 : Int) < xv.size) = false := decide_eq_false h3
            cases xg with
            | true =>
              by_cases h4 : (0 : Int) < xv.size
              · subst ha
                have NO2 : Hid (∀ w', Kept noBlock w w' → Says w (decide (RowsOk ps xs most)) (.returned (.bool false)) w') := fun w' kk => NX.out w' kk (fun h => by have := h.2.2.2.2 rfl; simp only at this; omega)
                have h4' : 0 < xv.size := by omega
                have d4' : decide (0 < xv.size) = true := decide_eq_true h4'
                go_upto_region 4 with (fail)
                generalize wr.alloc (.cells #[.string xk, .string xv, .bool true] 61) = u0 at ka hb ⊢
                obtain ⟨b0, b1, b2⟩ : u0.cell? ⟨wr.heap.size, 0, none⟩ = some (.string xk) ∧ u0.cell? ⟨wr.heap.size, 1, none⟩ = some (.string xv) ∧ u0.cell? ⟨wr.heap.size, 2, none⟩ = some (.bool true) := ⟨cell_of_row _ _ _ _ _ _ hb, cell_of_row _ _ _ _ _ _ hb, cell_of_row _ _ _ _ _ _ hb⟩
                go_quiet (fail)
                have kq := Kept.drewN noBlock u0 nq
                generalize u0.drewN nq = u at kq ⊢
                have NO3 := Lib.hid (NO2.out u (HK.out.step (ka.step kq)))
                clear ka hb kq b0 b1 b2
                go_wp2
                go_ret
                exact NO3.out
              · have d4 : decide ((0 : Int) < xv.size) = false := decide_eq_false h4
                have d4' : decide (0 < xv.size) = false := decide_eq_false (by omega)
                have HPK : Hid (PairOk (xk, (xv, true))) := ⟨by simp only; omega, by simp only; omega, by simp only; omega, by simp only; omega⟩
                by_cases h0 : 0 < k
                · obtain ⟨j, hj⟩ : ∃ j, k = j + 1 := ⟨k - 1, by omega⟩
                  obtain ⟨q, hq⟩ : ∃ q, ps[j]? = some q := ⟨_, List.getElem?_eq_getElem (by have := HL.out; omega)⟩
                  obtain ⟨g', o', ha', _, cq⟩ := HLI.out.elem PR.enc_len (by omega) hq
                  rw [ha] at ha'
                  injection ha' with ha'
                  injection ha' with e1 e2
                  subst ha e1 e2
                  have q0 := cq 0 _ rfl
                  rw [Nat.add_zero] at q0
                  have hw : IntKind.i64.wrap ((k : Int) - 1) = (j : Int) := by rw [IntWalk.i64_in _ (by omega)]; omega
                  have hjn : (j : Int) < (n : Int) := by omega
                  have hgk : (0 : Int) < (k : Int) := by omega
                  cases hlq : lt q.1 xk with
                  | true =>
                    have OK2 : Hid (PairsOk (ps.take (k + 1))) := OK.out (fun j' q' e hq' => by
                      have : j' = j := by omega
                      subst this
                      rw [hq] at hq'
                      injection hq' with hq'
                      rw [← hq']
                      exact hlq) HPK.out
                    have hlb : Op.bytesLess q.1.toList xk.toList = true := hlq
                    have hlc : Op.bytesLess xk.toList q.1.toList = false := Srt.asym hlq
                    have hld : (xk.toList == q.1.toList) = false := beq_false_of_ne (fun e => Srt.ne_of_lt hlq ((toList_inj _ _).1 e.symm))
                    clear OK NX cq hq hlq hj HPK
                    go_upto_region 4 with (fail)
                    generalize wr.alloc (.cells #[.string xk, .string xv, .bool true] 61) = u0 at ka hb ⊢
                    obtain ⟨b0, b1, b2⟩ : u0.cell? ⟨wr.heap.size, 0, none⟩ = some (.string xk) ∧ u0.cell? ⟨wr.heap.size, 1, none⟩ = some (.string xv) ∧ u0.cell? ⟨wr.heap.size, 2, none⟩ = some (.bool true) := ⟨cell_of_row _ _ _ _ _ _ hb, cell_of_row _ _ _ _ _ _ hb, cell_of_row _ _ _ _ _ _ hb⟩
                    replace q0 := ka.cell q0 (fun h => h)
                    go_quiet (fail)
                    have kq := Kept.drewN noBlock u0 nq
                    generalize u0.drewN nq = u at kq ⊢
                    have KU := Lib.hid (HK.out.step (ka.step kq))
                    clear ka hb kq b0 b1 b2 q0 hlb hlc hld hw hjn
                    go_wp2
                    go_roundw
                    case rel => exact ⟨k + 1, by omega, by go_num, OK2, KU⟩
                    case measure => simp [intOf]; omega
                  | false =>
                    have NO2 : Hid (∀ w', Kept noBlock w w' → Says w (decide (RowsOk ps xs most)) (.returned (.bool false)) w') := fun w' kk => NX.out w' kk (fun h => by have := h.1 j q hj hq; simp only at this; rw [hlq] at this; cases this)
                    have hle : Op.bytesLess xk.toList q.1.toList = true ∨ (xk.toList == q.1.toList) = true := by
                      by_cases e : xk = q.1
                      · right; rw [e]; simp
                      · left; exact Srt.lt_of_ne hlq (fun h => e h.symm)
                    clear OK NX cq hq hlq hj HPK
                    rcases hle with hle | hle
                    · skip
                      go_upto_region 4 with (fail)
                      generalize wr.alloc (.cells #[.string xk, .string xv, .bool true] 61) = u0 at ka hb ⊢
                      obtain ⟨b0, b1, b2⟩ : u0.cell? ⟨wr.heap.size, 0, none⟩ = some (.string xk) ∧ u0.cell? ⟨wr.heap.size, 1, none⟩ = some (.string xv) ∧ u0.cell? ⟨wr.heap.size, 2, none⟩ = some (.bool true) := ⟨cell_of_row _ _ _ _ _ _ hb, cell_of_row _ _ _ _ _ _ hb, cell_of_row _ _ _ _ _ _ hb⟩
                      replace q0 := ka.cell q0 (fun h => h)
                      go_quiet (fail)
                      have kq := Kept.drewN noBlock u0 nq
                      generalize u0.drewN nq = u at kq ⊢
                      have NO3 := Lib.hid (NO2.out u (HK.out.step (ka.step kq)))
                      clear ka hb kq b0 b1 b2
                      go_wp2
                      go_ret
                      exact NO3.out
                    · skip
                      go_upto_region 4 with (fail)
                      generalize wr.alloc (.cells #[.string xk, .string xv, .bool true] 61) = u0 at ka hb ⊢
                      obtain ⟨b0, b1, b2⟩ : u0.cell? ⟨wr.heap.size, 0, none⟩ = some (.string xk) ∧ u0.cell? ⟨wr.heap.size, 1, none⟩ = some (.string xv) ∧ u0.cell? ⟨wr.heap.size, 2, none⟩ = some (.bool true) := ⟨cell_of_row _ _ _ _ _ _ hb, cell_of_row _ _ _ _ _ _ hb, cell_of_row _ _ _ _ _ _ hb⟩
                      replace q0 := ka.cell q0 (fun h => h)
                      go_quiet (fail)
                      have kq := Kept.drewN noBlock u0 nq
                      generalize u0.drewN nq = u at kq ⊢
                      have NO3 := Lib.hid (NO2.out u (HK.out.step (ka.step kq)))
                      clear ka hb kq b0 b1 b2
                      go_wp2
                      go_ret
                      exact NO3.out
                · subst ha
                  have OK2 : Hid (PairsOk (ps.take (k + 1))) := OK.out (fun j q e => by omega) HPK.out
                  have hgk : decide ((0 : Int) < (k : Int)) = false := decide_eq_false (by omega)
                  clear OK NX HPK
                  go_upto_region 4 with (fail)
                  generalize wr.alloc (.cells #[.string xk, .string xv, .bool true] 61) = u0 at ka hb ⊢
                  obtain ⟨b0, b1, b2⟩ : u0.cell? ⟨wr.heap.size, 0, none⟩ = some (.string xk) ∧ u0.cell? ⟨wr.heap.size, 1, none⟩ = some (.string xv) ∧ u0.cell? ⟨wr.heap.size, 2, none⟩ = some (.bool true) := ⟨cell_of_row _ _ _ _ _ _ hb, cell_of_row _ _ _ _ _ _ hb, cell_of_row _ _ _ _ _ _ hb⟩
                  go_quiet (fail)
                  have kq := Kept.drewN noBlock u0 nq
                  generalize u0.drewN nq = u at kq ⊢
                  have KU := Lib.hid (HK.out.step (ka.step kq))
                  clear ka hb kq b0 b1 b2
                  go_wp2
                  go_roundw
                  case rel => exact ⟨k + 1, by omega, by go_num, OK2, KU⟩
                  case measure => simp [intOf]; omega
            | false =>
              have HPK : Hid (PairOk (xk, (xv, false))) := ⟨by simp only; omega, by simp only; omega, by simp only; omega, by simp⟩
              by_cases h0 : 0 < k
              · obtain ⟨j, hj⟩ : ∃ j, k = j + 1 := ⟨k - 1, by omega⟩
                obtain ⟨q, hq⟩ : ∃ q, ps[j]? = some q := ⟨_, List.getElem?_eq_getElem (by have := HL.out; omega)⟩
                obtain ⟨g', o', ha', _, cq⟩ := HLI.out.elem PR.enc_len (by omega) hq
                rw [ha] at ha'
                injection ha' with ha'
                injection ha' with e1 e2
                subst ha e1 e2
                have q0 := cq 0 _ rfl
                rw [Nat.add_zero] at q0
                have hw : IntKind.i64.wrap ((k : Int) - 1) = (j : Int) := by rw [IntWalk.i64_in _ (by omega)]; omega
                have hjn : (j : Int) < (n : Int) := by omega
                have hgk : (0 : Int) < (k : Int) := by omega
                cases hlq : lt q.1 xk with
                | true =>
                  have OK2 : Hid (PairsOk (ps.take (k + 1))) := OK.out (fun j' q' e hq' => by
                    have : j' = j := by omega
                    subst this
                    rw [hq] at hq'
                    injection hq' with hq'
                    rw [← hq']
                    exact hlq) HPK.out
                  have hlb : Op.bytesLess q.1.toList xk.toList = true := hlq
                  have hlc : Op.bytesLess xk.toList q.1.toList = false := Srt.asym hlq
                  have hld : (xk.toList == q.1.toList) = false := beq_false_of_ne (fun e => Srt.ne_of_lt hlq ((toList_inj _ _).1 e.symm))
                  clear OK NX cq hq hlq hj HPK
                  go_upto_region 4 with (fail)
                  generalize wr.alloc (.cells #[.string xk, .string xv, .bool false] 61) = u0 at ka hb ⊢
                  obtain ⟨b0, b1, b2⟩ : u0.cell? ⟨wr.heap.size, 0, none⟩ = some (.string xk) ∧ u0.cell? ⟨wr.heap.size, 1, none⟩ = some (.string xv) ∧ u0.cell? ⟨wr.heap.size, 2, none⟩ = some (.bool false) := ⟨cell_of_row _ _ _ _ _ _ hb, cell_of_row _ _ _ _ _ _ hb, cell_of_row _ _ _ _ _ _ hb⟩
                  replace q0 := ka.cell q0 (fun h => h)
                  go_quiet (fail)
                  have kq := Kept.drewN noBlock u0 nq
                  generalize u0.drewN nq = u at kq ⊢
                  have KU := Lib.hid (HK.out.step (ka.step kq))
                  clear ka hb kq b0 b1 b2 q0 hlb hlc hld hw hjn
                  go_wp2
                  go_roundw
                  case rel => exact ⟨k + 1, by omega, by go_num, OK2, KU⟩
                  case measure => simp [intOf]; omega
                | false =>
                  have NO2 : Hid (∀ w', Kept noBlock w w' → Says w (decide (RowsOk ps xs most)) (.returned (.bool false)) w') := fun w' kk => NX.out w' kk (fun h => by have := h.1 j q hj hq; simp only at this; rw [hlq] at this; cases this)
                  have hle : Op.bytesLess xk.toList q.1.toList = true ∨ (xk.toList == q.1.toList) = true := by
                    by_cases e : xk = q.1
                    · right; rw [e]; simp
                    · left; exact Srt.lt_of_ne hlq (fun h => e h.symm)
                  clear OK NX cq hq hlq hj HPK
                  rcases hle with hle | hle
                  · skip
                    go_upto_region 4 with (fail)
                    generalize wr.alloc (.cells #[.string xk, .string xv, .bool false] 61) = u0 at ka hb ⊢
                    obtain ⟨b0, b1, b2⟩ : u0.cell? ⟨wr.heap.size, 0, none⟩ = some (.string xk) ∧ u0.cell? ⟨wr.heap.size, 1, none⟩ = some (.string xv) ∧ u0.cell? ⟨wr.heap.size, 2, none⟩ = some (.bool false) := ⟨cell_of_row _ _ _ _ _ _ hb, cell_of_row _ _ _ _ _ _ hb, cell_of_row _ _ _ _ _ _ hb⟩
                    replace q0 := ka.cell q0 (fun h => h)
                    go_quiet (fail)
                    have kq := Kept.drewN noBlock u0 nq
                    generalize u0.drewN nq = u at kq ⊢
                    have NO3 := Lib.hid (NO2.out u (HK.out.step (ka.step kq)))
                    clear ka hb kq b0 b1 b2
                    go_wp2
                    go_ret
                    exact NO3.out
                  · skip
                    go_upto_region 4 with (fail)
                    generalize wr.alloc (.cells #[.string xk, .string xv, .bool false] 61) = u0 at ka hb ⊢
                    obtain ⟨b0, b1, b2⟩ : u0.cell? ⟨wr.heap.size, 0, none⟩ = some (.string xk) ∧ u0.cell? ⟨wr.heap.size, 1, none⟩ = some (.string xv) ∧ u0.cell? ⟨wr.heap.size, 2, none⟩ = some (.bool false) := ⟨cell_of_row _ _ _ _ _ _ hb, cell_of_row _ _ _ _ _ _ hb, cell_of_row _ _ _ _ _ _ hb⟩
                    replace q0 := ka.cell q0 (fun h => h)
                    go_quiet (fail)
                    have kq := Kept.drewN noBlock u0 nq
                    generalize u0.drewN nq = u at kq ⊢
                    have NO3 := Lib.hid (NO2.out u (HK.out.step (ka.step kq)))
                    clear ka hb kq b0 b1 b2
                    go_wp2
                    go_ret
                    exact NO3.out
              · subst ha
                have OK2 : Hid (PairsOk (ps.take (k + 1))) := OK.out (fun j q e => by omega) HPK.out
                have hgk : decide ((0 : Int) < (k : Int)) = false := decide_eq_false (by omega)
                clear OK NX HPK
                go_upto_region 4 with (fail)
                generalize wr.alloc (.cells #[.string xk, .string xv, .bool false] 61) = u0 at ka hb ⊢
                obtain ⟨b0, b1, b2⟩ : u0.cell? ⟨wr.heap.size, 0, none⟩ = some (.string xk) ∧ u0.cell? ⟨wr.heap.size, 1, none⟩ = some (.string xv) ∧ u0.cell? ⟨wr.heap.size, 2, none⟩ = some (.bool false) := ⟨cell_of_row _ _ _ _ _ _ hb, cell_of_row _ _ _ _ _ _ hb, cell_of_row _ _ _ _ _ _ hb⟩
                go_quiet (fail)
                have kq := Kept.drewN noBlock u0 nq
                generalize u0.drewN nq = u at kq ⊢
                have KU := Lib.hid (HK.out.step (ka.step kq))
                clear ka hb kq b0 b1 b2
                go_wp2
                go_roundw
                case rel => exact ⟨k + 1, by omega, by go_num, OK2, KU⟩
                case measure => simp [intOf]; omega
    · obtain rfl : k = n := by omega
      have hp := HP.out
      rw [List.take_of_length_le (by have := HL.out; omega)] at hp
      have HPP := Lib.hid hp
      have KW := Lib.hid HK.out
      clear hp HP
      go_wp2
      go_loopw [62] (fun i wr => ∃ j : Nat, j ≤ m ∧ i = .int .i64 (j : Int) ∧ Hid (SesssOk (xs.take j)) ∧ Hid (Kept noBlock w wr)) (fun i _ => m - (intOf i).toNat)
      case atStart => exact ⟨0, by omega, rfl, ⟨by rw [List.take_zero]; exact List.Pairwise.nil, by rw [List.take_zero]; simp⟩, KW⟩
      case round =>
        obtain ⟨j, hj, rfl, HS, HKS⟩ := hrel
        by_cases hlt2 : j < m
        · obtain ⟨x, hx⟩ : ∃ x, xs[j]? = some x := ⟨_, List.getElem?_eq_getElem (by have := HL2.out; omega)⟩
          have hlies := H2.out.keep HKS.out (fun _ _ h => h)
          obtain ⟨g, o, ha, _, cc⟩ := hlies.elem SN.enc_len (by omega) hx
          have c0 := cc 0 _ rfl
          have c1 := cc 1 _ rfl
          have c2 := cc 2 _ rfl
          have c3 := cc 3 _ rfl
          rw [Nat.add_zero] at c0
          have NX : Hid (∀ w', Kept noBlock w w' → ¬ ((∀ i q, j = i + 1 → xs[i]? = some q → lt q.1 x.1 = true) ∧ SessOk x) → Says w (decide (RowsOk ps xs most)) (.returned (.bool false)) w') := fun w' => NOX.out j x w' hx
          have OK : Hid ((∀ i q, j = i + 1 → xs[i]? = some q → lt q.1 x.1 = true) → SessOk x → SesssOk (xs.take (j + 1))) := fun h1 h2 => (rowOk_next (P := SessOk) hx).2 ⟨HS.out, h1, h2⟩
          have HX := Lib.hid hx
          clear hx cc
          obtain ⟨xc, xq, xe, xv⟩ := x
          simp only at c0 c1 c2 c3
          have ka := Kept.alloc noBlock wr (.cells #[.int .i64 xc, .int .i64 xq, .int .i64 xe, .string xv] 84)
          have hb := heap_alloc_new wr (.cells #[.int .i64 xc, .int .i64 xq, .int .i64 xe, .string xv] 84)
          have HLI := Lib.hid hlies
          clear hlies
          by_cases h1 : xc < 0
          · subst ha
            have NO2 : Hid (∀ w', Kept noBlock w w' → Says w (decide (RowsOk ps xs most)) (.returned (.bool false)) w') := fun w' kk => NX.out w' kk (fun h => by have := h.2.1; simp only at this; omega)
            go_upto_region 10 with (fail)
            generalize wr.alloc (.cells #[.int .i64 xc, .int .i64 xq, .int .i64 xe, .string xv] 84) = u0 at ka hb ⊢
            obtain ⟨b0, b1, b2, b3⟩ := st_cells hb
            go_quiet (fail)
            have kq := Kept.drewN noBlock u0 nq
            generalize u0.drewN nq = u at kq ⊢
            have NO3 := Lib.hid (NO2.out u (HKS.out.step (ka.step kq)))
            clear ka hb kq b0 b1 b2 b3
            go_wp2
            go_ret
            exact NO3.out
          · have d1 : decide (xc < 0) = false := decide_eq_false h1
            by_cases h2 : 3 < xc
            · subst ha
              have NO2 : Hid (∀ w', Kept noBlock w w' → Says w (decide (RowsOk ps xs most)) (.returned (.bool false)) w') := fun w' kk => NX.out w' kk (fun h => by have := h.2.2.1; simp only at this; omega)
              go_upto_region 10 with (fail)
              generalize wr.alloc (.cells #[.int .i64 xc, .int .i64 xq, .int .i64 xe, .string xv] 84) = u0 at ka hb ⊢
              obtain ⟨b0, b1, b2, b3⟩ := st_cells hb
              go_quiet (fail)
              have kq := Kept.drewN noBlock u0 nq
              generalize u0.drewN nq = u at kq ⊢
              have NO3 := Lib.hid (NO2.out u (HKS.out.step (ka.step kq)))
              clear ka hb kq b0 b1 b2 b3
              go_wp2
              go_ret
              exact NO3.out
            · have d2 : decide (3 < xc) = false := decide_eq_false h2
              by_cases h3 : xq < 0
              · subst ha
                have NO2 : Hid (∀ w', Kept noBlock w w' → Says w (decide (RowsOk ps xs most)) (.returned (.bool false)) w') := fun w' kk => NX.out w' kk (fun h => by have := h.2.2.2.1; simp only at this; omega)
                go_upto_region 10 with (fail)
                generalize wr.alloc (.cells #[.int .i64 xc, .int .i64 xq, .int .i64 xe, .string xv] 84) = u0 at ka hb ⊢
                obtain ⟨b0, b1, b2, b3⟩ := st_cells hb
                go_quiet (fail)
                have kq := Kept.drewN noBlock u0 nq
                generalize u0.drewN nq = u at kq ⊢
                have NO3 := Lib.hid (NO2.out u (HKS.out.step (ka.step kq)))
                clear ka hb kq b0 b1 b2 b3
                go_wp2
                go_ret
                exact NO3.out
              · have d3 : decide (xq < 0) = false := decide_eq_false h3
                by_cases h4 : 1048576 < xq
                · subst ha
                  have NO2 : Hid (∀ w', Kept noBlock w w' → Says w (decide (RowsOk ps xs most)) (.returned (.bool false)) w') := fun w' kk => NX.out w' kk (fun h => by have := h.2.2.2.2.1; simp only at this; omega)
                  go_upto_region 10 with (fail)
                  generalize wr.alloc (.cells #[.int .i64 xc, .int .i64 xq, .int .i64 xe, .string xv] 84) = u0 at ka hb ⊢
                  obtain ⟨b0, b1, b2, b3⟩ := st_cells hb
                  go_quiet (fail)
                  have kq := Kept.drewN noBlock u0 nq
                  generalize u0.drewN nq = u at kq ⊢
                  have NO3 := Lib.hid (NO2.out u (HKS.out.step (ka.step kq)))
                  clear ka hb kq b0 b1 b2 b3
                  go_wp2
                  go_ret
                  exact NO3.out
                · have d4 : decide (1048576 < xq) = false := decide_eq_false h4
                  by_cases h5 : xe < 0
                  · subst ha
                    have NO2 : Hid (∀ w', Kept noBlock w w' → Says w (decide (RowsOk ps xs most)) (.returned (.bool false)) w') := fun w' kk => NX.out w' kk (fun h => by have := h.2.2.2.2.2.1; simp only at this; omega)
                    go_upto_region 10 with (fail)
                    generalize wr.alloc (.cells #[.int .i64 xc, .int .i64 xq, .int .i64 xe, .string xv] 84) = u0 at ka hb ⊢
                    obtain ⟨b0, b1, b2, b3⟩ := st_cells hb
                    go_quiet (fail)
                    have kq := Kept.drewN noBlock u0 nq
                    generalize u0.drewN nq = u at kq ⊢
                    have NO3 := Lib.hid (NO2.out u (HKS.out.step (ka.step kq)))
                    clear ka hb kq b0 b1 b2 b3
                    go_wp2
                    go_ret
                    exact NO3.out
                  · have d5 : decide (xe < 0) = false := decide_eq_false h5
                    by_cases h6 : 14 < xe
                    · subst ha
                      have NO2 : Hid (∀ w', Kept noBlock w w' → Says w (decide (RowsOk ps xs most)) (.returned (.bool false)) w') := fun w' kk => NX.out w' kk (fun h => by have := h.2.2.2.2.2.2.1; simp only at this; omega)
                      go_upto_region 10 with (fail)
                      generalize wr.alloc (.cells #[.int .i64 xc, .int .i64 xq, .int .i64 xe, .string xv] 84) = u0 at ka hb ⊢
                      obtain ⟨b0, b1, b2, b3⟩ := st_cells hb
                      go_quiet (fail)
                      have kq := Kept.drewN noBlock u0 nq
                      generalize u0.drewN nq = u at kq ⊢
                      have NO3 := Lib.hid (NO2.out u (HKS.out.step (ka.step kq)))
                      clear ka hb kq b0 b1 b2 b3
                      go_wp2
                      go_ret
                      exact NO3.out
                    · have d6 : decide (14 < xe) = false := decide_eq_false h6
                      by_cases h7 : (16 : Int) < xv.size
                      · subst ha
                        have NO2 : Hid (∀ w', Kept noBlock w w' → Says w (decide (RowsOk ps xs most)) (.returned (.bool false)) w') := fun w' kk => NX.out w' kk (fun h => by have := h.2.2.2.2.2.2.2; simp only at this; omega)
                        go_upto_region 10 with (fail)
                        generalize wr.alloc (.cells #[.int .i64 xc, .int .i64 xq, .int .i64 xe, .string xv] 84) = u0 at ka hb ⊢
                        obtain ⟨b0, b1, b2, b3⟩ := st_cells hb
                        go_quiet (fail)
                        have kq := Kept.drewN noBlock u0 nq
                        generalize u0.drewN nq = u at kq ⊢
                        have NO3 := Lib.hid (NO2.out u (HKS.out.step (ka.step kq)))
                        clear ka hb kq b0 b1 b2 b3
                        go_wp2
                        go_ret
                        exact NO3.out
                      · have d7 : decide ((16 : Int) < xv.size) = false := decide_eq_false h7
                        have HPK : Hid (SessOk (xc, (xq, ⟨xe, xv⟩))) := ⟨by simp only; omega, by simp only; omega, by simp only; omega, by simp only; omega, by simp only; omega, by simp only; omega, by simp only; omega⟩
                        by_cases h0 : 0 < j
                        · obtain ⟨i, hi⟩ : ∃ i, j = i + 1 := ⟨j - 1, by omega⟩
                          obtain ⟨q, hq⟩ : ∃ q, xs[i]? = some q := ⟨_, List.getElem?_eq_getElem (by have := HL2.out; omega)⟩
                          obtain ⟨g', o', ha', _, cq⟩ := HLI.out.elem SN.enc_len (by omega) hq
                          rw [ha] at ha'
                          injection ha' with ha'
                          injection ha' with e1 e2
                          subst ha e1 e2
                          have q0 := cq 0 _ rfl
                          rw [Nat.add_zero] at q0
                          have hw : IntKind.i64.wrap ((j : Int) - 1) = (i : Int) := by rw [IntWalk.i64_in _ (by omega)]; omega
                          have hjn : (i : Int) < (m : Int) := by omega
                          have hgk : (0 : Int) < (j : Int) := by omega
                          by_cases hlq : q.1 < xc
                          · have OK2 : Hid (SesssOk (xs.take (j + 1))) := OK.out (fun j' q' e hq' => by
                              have : j' = i := by omega
                              subst this
                              rw [hq] at hq'
                              injection hq' with hq'
                              rw [← hq']
                              simpa [lt] using hlq) HPK.out
                            have hlb : decide (xc ≤ q.1) = false := decide_eq_false (by omega)
                            clear OK NX cq hq hi HPK
                            go_upto_region 10 with (fail)
                            generalize wr.alloc (.cells #[.int .i64 xc, .int .i64 xq, .int .i64 xe, .string xv] 84) = u0 at ka hb ⊢
                            obtain ⟨b0, b1, b2, b3⟩ := st_cells hb
                            replace q0 := ka.cell q0 (fun h => h)
                            go_quiet (fail)
                            have kq := Kept.drewN noBlock u0 nq
                            generalize u0.drewN nq = u at kq ⊢
                            have KU := Lib.hid (HKS.out.step (ka.step kq))
                            clear ka hb kq b0 b1 b2 b3 q0 hlb hw hjn
                            go_wp2
                            go_roundw
                            case rel => exact ⟨j + 1, by omega, by go_num, OK2, KU⟩
                            case measure => simp [intOf]; omega
                          · have NO2 : Hid (∀ w', Kept noBlock w w' → Says w (decide (RowsOk ps xs most)) (.returned (.bool false)) w') := fun w' kk => NX.out w' kk (fun h => by have := h.1 i q hi hq; simp [lt] at this; omega)
                            have hlb : decide (xc ≤ q.1) = true := decide_eq_true (by omega)
                            clear OK NX cq hq hi HPK
                            go_upto_region 10 with (fail)
                            generalize wr.alloc (.cells #[.int .i64 xc, .int .i64 xq, .int .i64 xe, .string xv] 84) = u0 at ka hb ⊢
                            obtain ⟨b0, b1, b2, b3⟩ := st_cells hb
                            replace q0 := ka.cell q0 (fun h => h)
                            go_quiet (fail)
                            have kq := Kept.drewN noBlock u0 nq
                            generalize u0.drewN nq = u at kq ⊢
                            have NO3 := Lib.hid (NO2.out u (HKS.out.step (ka.step kq)))
                            clear ka hb kq b0 b1 b2 b3
                            go_wp2
                            go_ret
                            exact NO3.out
                        · subst ha
                          have OK2 : Hid (SesssOk (xs.take (j + 1))) := OK.out (fun j' q e => by omega) HPK.out
                          have hgk : decide ((0 : Int) < (j : Int)) = false := decide_eq_false (by omega)
                          clear OK NX HPK
                          go_upto_region 10 with (fail)
                          generalize wr.alloc (.cells #[.int .i64 xc, .int .i64 xq, .int .i64 xe, .string xv] 84) = u0 at ka hb ⊢
                          obtain ⟨b0, b1, b2, b3⟩ := st_cells hb
                          go_quiet (fail)
                          have kq := Kept.drewN noBlock u0 nq
                          generalize u0.drewN nq = u at kq ⊢
                          have KU := Lib.hid (HKS.out.step (ka.step kq))
                          clear ka hb kq b0 b1 b2 b3
                          go_wp2
                          go_roundw
                          case rel => exact ⟨j + 1, by omega, by go_num, OK2, KU⟩
                          case measure => simp [intOf]; omega
        · obtain rfl : j = m := by omega
          have hs := HS.out
          rw [List.take_of_length_le (by have := HL2.out; omega)] at hs
          have FIN : Hid (Says w (decide (RowsOk ps xs most)) (.returned (.bool (decide ((k : Int) ≤ most)))) wr) := by
            refine ⟨?_, HKS.out⟩
            congr 2
            refine decide_eq_decide.2 ⟨fun h => ⟨by rw [HL.out]; exact h, HPP.out, hs⟩, fun h => ?_⟩
            have := h.1
            rw [HL.out] at this
            exact this
          clear hs
          go_wp2
          go_ret
          exact FIN.out
end Go.Proofs.Ytgmjnjbmolalmaa
