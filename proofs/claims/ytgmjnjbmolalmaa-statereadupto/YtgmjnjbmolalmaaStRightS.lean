/-
  Which sessions are right. No statement is proved here.
-/
import Derived.Test.YtgmjnjbmolalmaaStRight
namespace Go.Proofs.Ytgmjnjbmolalmaa
open Go.RowKit Tot

def RepOk (r : RepV) : Prop := 0 ≤ r.err ∧ r.err ≤ 14 ∧ r.value.size ≤ 16
instance (r : RepV) : Decidable (RepOk r) := by unfold RepOk; infer_instance
set_option maxHeartbeats 1000000 in
theorem rightreply_any (r : RepV) (w : World) : Calls Try.prog 67 #[r.val] w (Says w (decide (RepOk r))) := by
  obtain ⟨err, value⟩ := r
  unfold RepV.val
  simp only
  have ans : ∀ (w : World) (o : Obj) (b : Bool), b = decide (RepOk ⟨err, value⟩) → Says w (decide (RepOk ⟨err, value⟩)) (.returned (.bool b)) (w.alloc o) := fun _ _ _ h => ⟨by rw [h], Kept.alloc _ _ _⟩
  have ANS := Lib.hid ans; clear ans
  go_enter Try.func67, Try.ntmps67
  go_wp2_with fail
  by_cases h1 : 0 ≤ err ∧ err ≤ 14
  · refine (swithin_yes _ _ _ _ h1.1 h1.2).mono ?_
    rintro e w' ⟨rfl, rfl⟩
    have LAST : Hid (∀ (o : Obj) (b : Bool), (b = true ↔ value.size ≤ 16) → Says w (decide (RepOk ⟨err, value⟩)) (.returned (.bool b)) (w.alloc o)) := fun o b hb => ANS.out _ _ _ (by
      rw [Bool.eq_iff_iff, hb, decide_eq_true_iff]
      exact ⟨fun h => ⟨h1.1, h1.2, h⟩, fun h => h.2.2⟩)
    go_wp2
    go_ret
    refine LAST.out _ _ ?_
    simp
    try omega
  · refine (swithin_no _ _ _ _ h1).mono ?_
    rintro e w' ⟨rfl, rfl⟩
    go_wp2
    go_ret
    refine ANS.out _ _ _ (decide_eq_false fun hm => ?_).symm
    exact h1 ⟨hm.1, hm.2.1⟩

set_option maxRecDepth 100000 in
set_option maxHeartbeats 1000000 in
theorem rightsess_any (F : Nat → Prop) (a : Option Addr) (n c : Nat) (xs : Sns) (w : World) (h : Lies w F a (SN.cells xs)) (hl : xs.length = n) (hc : n ≤ c) (hn : n ≤ 1099511627776) :
    Calls Try.prog 55 #[.slice a n c] w (Says w (decide (SesssOk xs))) := by
  have H := Lib.hid h
  have HL := Lib.hid hl
  clear h hl
  have NO : Hid (∀ k x w', xs[k]? = some x → Kept noBlock w w' → ¬ ((∀ j q, k = j + 1 → xs[j]? = some q → lt q.1 x.1 = true) ∧ SessOk x) → Says w (decide (SesssOk xs)) (.returned (.bool false)) w') := fun k x w' hx kk hno =>
    ⟨by rw [decide_eq_false (fun hp : SesssOk xs => hno ((rowOk_next (P := SessOk) hx).1 (rowOk_take hp (k + 1))).2)], kk⟩
  go_enter Try.func55, Try.ntmps55
  go_wp2
  go_loopw [7] (fun i wr => ∃ k : Nat, k ≤ n ∧ i = .int .i64 (k : Int) ∧ Hid (SesssOk (xs.take k)) ∧ Hid (Kept noBlock w wr)) (fun i _ => n - (intOf i).toNat)
  case atStart => exact ⟨0, by omega, rfl, ⟨by rw [List.take_zero]; exact List.Pairwise.nil, by rw [List.take_zero]; simp⟩, Kept.refl _ _⟩
  case round =>
    obtain ⟨k, hk, rfl, HP, HK⟩ := hrel
    by_cases hlt : k < n
    · obtain ⟨x, hx⟩ : ∃ x, xs[k]? = some x := ⟨_, List.getElem?_eq_getElem (by have := HL.out; omega)⟩
      have hlies := H.out.keep HK.out (fun _ _ h => h)
      obtain ⟨g, o, ha, _, cc⟩ := hlies.elem SN.enc_len (by omega) hx
      have c0 := cc 0 _ rfl
      have c1 := cc 1 _ rfl
      have c2 := cc 2 _ rfl
      have c3 := cc 3 _ rfl
      rw [Nat.add_zero] at c0
      have NX : Hid (∀ w', Kept noBlock w w' → ¬ ((∀ j q, k = j + 1 → xs[j]? = some q → lt q.1 x.1 = true) ∧ SessOk x) → Says w (decide (SesssOk xs)) (.returned (.bool false)) w') := fun w' => NO.out k x w' hx
      have OK : Hid ((∀ j q, k = j + 1 → xs[j]? = some q → lt q.1 x.1 = true) → SessOk x → SesssOk (xs.take (k + 1))) := fun h1 h2 => (rowOk_next (P := SessOk) hx).2 ⟨HP.out, h1, h2⟩
      have HX := Lib.hid hx
      clear hx cc
      obtain ⟨xc, xq, xe, xv⟩ := x
      simp only at c0 c1 c2 c3
      have ka := Kept.alloc noBlock wr (.cells #[.int .i64 xc, .int .i64 xq, .int .i64 xe, .string xv] 84)
      have hb := heap_alloc_new wr (.cells #[.int .i64 xc, .int .i64 xq, .int .i64 xe, .string xv] 84)
      by_cases h0 : 0 < k
      · obtain ⟨j, hj⟩ : ∃ j, k = j + 1 := ⟨k - 1, by omega⟩
        obtain ⟨q, hq⟩ : ∃ q, xs[j]? = some q := ⟨_, List.getElem?_eq_getElem (by have := HL.out; omega)⟩
        obtain ⟨g', o', ha', _, cq⟩ := hlies.elem SN.enc_len (by omega) hq
        rw [ha] at ha'
        injection ha' with ha'
        injection ha' with e1 e2
        subst ha e1 e2
        have q0 := cq 0 _ rfl
        rw [Nat.add_zero] at q0
        have hw : IntKind.i64.wrap ((k : Int) - 1) = (j : Int) := by rw [IntWalk.i64_in _ (by omega)]; omega
        have hjn : (j : Int) < (n : Int) := by omega
        have hgk : (0 : Int) < (k : Int) := by omega
        cases hlq : lt q.1 xc with
        | true =>
          have OK1 : Hid (SessOk (xc, (xq, ⟨xe, xv⟩)) → SesssOk (xs.take (k + 1))) := fun h => OK.out (fun j' q' e hq' => by
            have : j' = j := by omega
            subst this
            rw [hq] at hq'
            injection hq' with hq'
            rw [← hq']
            exact hlq) h
          have NX1 : Hid (∀ w', Kept noBlock w w' → ¬ SessOk (xc, (xq, ⟨xe, xv⟩)) → Says w (decide (SesssOk xs)) (.returned (.bool false)) w') := fun w' k h => NX.out w' k (fun h2 => h h2.2)
          have hlb : q.1 < xc := by simpa [lt] using hlq
          have hlb' : decide (xc ≤ q.1) = false := decide_eq_false (by omega)
          have HJ := Lib.hid hj
          clear OK NX cq hq hlies hlq hj
          go_upto_region 4 with (fail)
          generalize wr.alloc (.cells #[.int .i64 xc, .int .i64 xq, .int .i64 xe, .string xv] 84) = u0 at ka hb ⊢
          have b0 : u0.cell? ⟨wr.heap.size, 0, none⟩ = some (.int .i64 xc) := cell_of_row _ _ _ _ _ _ hb
          replace q0 := ka.cell q0 (fun h => h)
          go_quiet (fail)
          have kq := Kept.drewN noBlock u0 nq
          generalize u0.drewN nq = u at kq ⊢
          have HB := Lib.hid (kq.blk hb (fun h => h))
          have KU := Lib.hid (HK.out.step (ka.step kq))
          clear ka hb kq c0 c1 c2 c3
          clear b0 q0 hlb hlb' hw hjn
          obtain ⟨b0, b1, b2, b3⟩ : u.cell? ⟨wr.heap.size, 0, none⟩ = some (.int .i64 xc) ∧ u.cell? ⟨wr.heap.size, 1, none⟩ = some (.int .i64 xq) ∧ u.cell? ⟨wr.heap.size, 2, none⟩ = some (.int .i64 xe) ∧ u.cell? ⟨wr.heap.size, 3, none⟩ = some (.string xv) := ⟨cell_of_row _ _ _ _ _ _ HB.out, cell_of_row _ _ _ _ _ _ HB.out, cell_of_row _ _ _ _ _ _ HB.out, cell_of_row _ _ _ _ _ _ HB.out⟩
          go_wp2_with fail
          by_cases h1 : 0 ≤ xc ∧ xc ≤ 3
          · refine (swithin_yes _ _ _ _ h1.1 h1.2).mono ?_
            rintro e w' ⟨rfl, rfl⟩
            go_wp2_with fail
            by_cases h2 : 0 ≤ xq ∧ xq ≤ 1048576
            · refine (swithin_yes _ _ _ _ h2.1 h2.2).mono ?_
              rintro e w' ⟨rfl, rfl⟩
              have RR := Lib.hid (rightreply_any ⟨xe, xv⟩ u)
              unfold RepV.val at RR
              by_cases h3 : RepOk ⟨xe, xv⟩
              · rw [decide_eq_true h3] at RR
                have OK2 : Hid (SesssOk (xs.take (k + 1))) := OK1.out ⟨h1.1, h1.2, h2.1, h2.2, h3.1, h3.2.1, h3.2.2⟩
                go_wp2_with fail
                refine RR.out.mono ?_
                rintro e u2 ⟨rfl, k2⟩
                have KU2 := Lib.hid (KU.out.step k2)
                clear RR k2 h3
                go_wp2
                go_roundw
                case rel => exact ⟨k + 1, by omega, by go_num, OK2, KU2⟩
                case measure => simp [intOf]; omega
              · rw [decide_eq_false h3] at RR
                have NO2 : Hid (∀ u2, Kept noBlock u u2 → Says w (decide (SesssOk xs)) (.returned (.bool false)) u2) := fun u2 k2 => NX1.out u2 (KU.out.step k2) (fun h => h3 ⟨h.2.2.2.2.1, h.2.2.2.2.2.1, h.2.2.2.2.2.2⟩)
                go_wp2_with fail
                refine RR.out.mono ?_
                rintro e u2 ⟨rfl, k2⟩
                have NO3 := Lib.hid (NO2.out u2 k2)
                clear RR k2 h3
                go_wp2
                go_ret
                exact NO3.out
            · refine (swithin_no _ _ _ _ h2).mono ?_
              rintro e w' ⟨rfl, rfl⟩
              have NO2 : Hid (Says w (decide (SesssOk xs)) (.returned (.bool false)) u) := NX1.out u KU.out (fun h => h2 ⟨h.2.2.1, h.2.2.2.1⟩)
              go_wp2
              go_ret
              exact NO2.out
          · refine (swithin_no _ _ _ _ h1).mono ?_
            rintro e w' ⟨rfl, rfl⟩
            have NO2 : Hid (Says w (decide (SesssOk xs)) (.returned (.bool false)) u) := NX1.out u KU.out (fun h => h1 ⟨h.1, h.2.1⟩)
            go_wp2
            go_ret
            exact NO2.out
        | false =>
          have NO2 : Hid (∀ w', Kept noBlock w w' → Says w (decide (SesssOk xs)) (.returned (.bool false)) w') := fun w' kk => NX.out w' kk (fun h => by have := h.1 j q hj hq; simp only at this; rw [hlq] at this; cases this)
          have hlb : ¬ q.1 < xc := by simpa [lt] using hlq
          have hlb' : decide (xc ≤ q.1) = true := decide_eq_true (by omega)
          have HJ := Lib.hid hj
          clear OK NX cq hq hlies hlq hj
          go_upto_region 4 with (fail)
          generalize wr.alloc (.cells #[.int .i64 xc, .int .i64 xq, .int .i64 xe, .string xv] 84) = u0 at ka hb ⊢
          have b0 : u0.cell? ⟨wr.heap.size, 0, none⟩ = some (.int .i64 xc) := cell_of_row _ _ _ _ _ _ hb
          replace q0 := ka.cell q0 (fun h => h)
          go_quiet (fail)
          have kq := Kept.drewN noBlock u0 nq
          generalize u0.drewN nq = u at kq ⊢
          have HB := Lib.hid (kq.blk hb (fun h => h))
          have KU := Lib.hid (HK.out.step (ka.step kq))
          clear ka hb kq c0 c1 c2 c3
          have NO3 := Lib.hid (NO2.out u KU.out)
          go_wp2
          go_ret
          exact NO3.out
      · subst ha
        have OK1 : Hid (SessOk (xc, (xq, ⟨xe, xv⟩)) → SesssOk (xs.take (k + 1))) := fun h => OK.out (fun j q e => by omega) h
        have NX1 : Hid (∀ w', Kept noBlock w w' → ¬ SessOk (xc, (xq, ⟨xe, xv⟩)) → Says w (decide (SesssOk xs)) (.returned (.bool false)) w') := fun w' k h => NX.out w' k (fun h2 => h h2.2)
        have hgk : decide ((0 : Int) < (k : Int)) = false := decide_eq_false (by omega)
        clear OK NX hlies
        go_upto_region 4 with (fail)
        generalize wr.alloc (.cells #[.int .i64 xc, .int .i64 xq, .int .i64 xe, .string xv] 84) = u0 at ka hb ⊢
        have b0 : u0.cell? ⟨wr.heap.size, 0, none⟩ = some (.int .i64 xc) := cell_of_row _ _ _ _ _ _ hb
        go_quiet (fail)
        have kq := Kept.drewN noBlock u0 nq
        generalize u0.drewN nq = u at kq ⊢
        have HB := Lib.hid (kq.blk hb (fun h => h))
        have KU := Lib.hid (HK.out.step (ka.step kq))
        clear ka hb kq c0 c1 c2 c3
        clear b0
        obtain ⟨b0, b1, b2, b3⟩ : u.cell? ⟨wr.heap.size, 0, none⟩ = some (.int .i64 xc) ∧ u.cell? ⟨wr.heap.size, 1, none⟩ = some (.int .i64 xq) ∧ u.cell? ⟨wr.heap.size, 2, none⟩ = some (.int .i64 xe) ∧ u.cell? ⟨wr.heap.size, 3, none⟩ = some (.string xv) := ⟨cell_of_row _ _ _ _ _ _ HB.out, cell_of_row _ _ _ _ _ _ HB.out, cell_of_row _ _ _ _ _ _ HB.out, cell_of_row _ _ _ _ _ _ HB.out⟩
        go_wp2_with fail
        by_cases h1 : 0 ≤ xc ∧ xc ≤ 3
        · refine (swithin_yes _ _ _ _ h1.1 h1.2).mono ?_
          rintro e w' ⟨rfl, rfl⟩
          go_wp2_with fail
          by_cases h2 : 0 ≤ xq ∧ xq ≤ 1048576
          · refine (swithin_yes _ _ _ _ h2.1 h2.2).mono ?_
            rintro e w' ⟨rfl, rfl⟩
            have RR := Lib.hid (rightreply_any ⟨xe, xv⟩ u)
            unfold RepV.val at RR
            by_cases h3 : RepOk ⟨xe, xv⟩
            · rw [decide_eq_true h3] at RR
              have OK2 : Hid (SesssOk (xs.take (k + 1))) := OK1.out ⟨h1.1, h1.2, h2.1, h2.2, h3.1, h3.2.1, h3.2.2⟩
              go_wp2_with fail
              refine RR.out.mono ?_
              rintro e u2 ⟨rfl, k2⟩
              have KU2 := Lib.hid (KU.out.step k2)
              clear RR k2 h3
              go_wp2
              go_roundw
              case rel => exact ⟨k + 1, by omega, by go_num, OK2, KU2⟩
              case measure => simp [intOf]; omega
            · rw [decide_eq_false h3] at RR
              have NO2 : Hid (∀ u2, Kept noBlock u u2 → Says w (decide (SesssOk xs)) (.returned (.bool false)) u2) := fun u2 k2 => NX1.out u2 (KU.out.step k2) (fun h => h3 ⟨h.2.2.2.2.1, h.2.2.2.2.2.1, h.2.2.2.2.2.2⟩)
              go_wp2_with fail
              refine RR.out.mono ?_
              rintro e u2 ⟨rfl, k2⟩
              have NO3 := Lib.hid (NO2.out u2 k2)
              clear RR k2 h3
              go_wp2
              go_ret
              exact NO3.out
          · refine (swithin_no _ _ _ _ h2).mono ?_
            rintro e w' ⟨rfl, rfl⟩
            have NO2 : Hid (Says w (decide (SesssOk xs)) (.returned (.bool false)) u) := NX1.out u KU.out (fun h => h2 ⟨h.2.2.1, h.2.2.2.1⟩)
            go_wp2
            go_ret
            exact NO2.out
        · refine (swithin_no _ _ _ _ h1).mono ?_
          rintro e w' ⟨rfl, rfl⟩
          have NO2 : Hid (Says w (decide (SesssOk xs)) (.returned (.bool false)) u) := NX1.out u KU.out (fun h => h1 ⟨h.1, h.2.1⟩)
          go_wp2
          go_ret
          exact NO2.out
    · obtain rfl : k = n := by omega
      have hp := HP.out
      rw [List.take_of_length_le (by have := HL.out; omega)] at hp
      have HPP := Lib.hid hp
      clear hp
      go_wp2
      go_ret
      exact ⟨by rw [decide_eq_true HPP.out]; rfl, HK.out⟩
end Go.Proofs.Ytgmjnjbmolalmaa
