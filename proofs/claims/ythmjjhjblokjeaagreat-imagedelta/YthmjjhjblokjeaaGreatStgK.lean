/-
  Several texts, one behind the other. No statement is proved here.
-/
import Derived.Test.YthmjjhjblokjeaaGreatBoxA
/-
  Which pairs are right. No statement is proved here.
-/
namespace Go.Proofs.YthmjjhjblokjeaaGreat
open Go.RowKit Tot

theorem swithin_yes (n a b : Int) (w : World) (h1 : a ≤ n) (h2 : n ≤ b) : Calls Tryz.prog 85 #[.int .i64 n, .int .i64 a, .int .i64 b] w fun e w' => e = .returned (.bool true) ∧ w = w' := by
  go_enter Tryz.func85, Tryz.ntmps85
  go_wp2
  go_ret
  exact ⟨rfl, rfl⟩
theorem swithin_no (n a b : Int) (w : World) (h : ¬ (a ≤ n ∧ n ≤ b)) : Calls Tryz.prog 85 #[.int .i64 n, .int .i64 a, .int .i64 b] w fun e w' => e = .returned (.bool false) ∧ w = w' := by
  by_cases h1 : a ≤ n
  · have h2 : ¬ n ≤ b := fun h2 => h ⟨h1, h2⟩
    clear h
    go_enter Tryz.func85, Tryz.ntmps85
    go_wp2
    go_ret
    exact ⟨rfl, rfl⟩
  · clear h
    go_enter Tryz.func85, Tryz.ntmps85
    go_wp2
    go_ret
    exact ⟨rfl, rfl⟩
theorem getLast_take {γ : Type} {L : List γ} {j : Nat} {q : γ} (h : L[j]? = some q) : (L.take (j + 1)).getLast? = some q := by
  rw [take_snoc L j q h]
  simp
section
variable {α β : Type} [Tot α] {P : α × β → Prop}
/-- Rising, and each as it may be. -/
def RowOk (P : α × β → Prop) (L : List (α × β)) : Prop := Srt.Up L ∧ ∀ x ∈ L, P x
theorem rowOk_snoc (l : List (α × β)) (p : α × β) : RowOk P (l ++ [p]) ↔ RowOk P l ∧ (∀ q, l.getLast? = some q → lt q.1 p.1 = true) ∧ P p := by
  unfold RowOk
  rw [up_snoc]
  constructor
  · rintro ⟨⟨h1, h2⟩, h3⟩
    exact ⟨⟨h1, fun x hx => h3 x (by simp [hx])⟩, h2, h3 p (by simp)⟩
  · rintro ⟨⟨h1, h3⟩, h2, h4⟩
    refine ⟨⟨h1, h2⟩, fun x hx => ?_⟩
    rcases List.mem_append.1 hx with h | h
    · exact h3 x h
    · obtain rfl : x = p := by simpa using h
      exact h4
theorem rowOk_take {L : List (α × β)} (h : RowOk P L) (k : Nat) : RowOk P (L.take k) := ⟨h.1.sub (List.take_sublist _ _), fun x hx => h.2 x (List.mem_of_mem_take hx)⟩
/-- The next one, behind those that are right. -/
theorem rowOk_next {L : List (α × β)} {k : Nat} {x : α × β} (hx : L[k]? = some x) : RowOk P (L.take (k + 1)) ↔ RowOk P (L.take k) ∧ (∀ j q, k = j + 1 → L[j]? = some q → lt q.1 x.1 = true) ∧ P x := by
  rw [take_snoc L k x hx, rowOk_snoc]
  refine and_congr_right fun _ => and_congr_left fun _ => ?_
  constructor
  · intro h j q hk hq
    subst hk
    exact h q (getLast_take hq)
  · intro h q hq
    cases k with
    | zero => simp at hq
    | succ j =>
      obtain ⟨hl, _⟩ := List.getElem?_eq_some_iff.1 hx
      have hj : L[j]? = some (L[j]'(by omega)) := List.getElem?_eq_getElem _
      rw [getLast_take hj] at hq
      injection hq with hq
      exact h j q rfl (by rw [hj, hq])
end

set_option maxRecDepth 100000 in
set_option maxHeartbeats 1000000 in
theorem rightpairs_any (F : Nat → Prop) (a : Option Addr) (n c : Nat) (ps : Prs) (w : World) (h : Lies w F a (PR.cells ps)) (hl : ps.length = n) (hc : n ≤ c) (hn : n ≤ 1099511627776) :
    Calls Tryz.prog 100 #[.slice a n c] w (Says w (decide (PairsOk ps))) := by
  have H := Lib.hid h
  have HL := Lib.hid hl
  clear h hl
  have NO : Hid (∀ k x w', ps[k]? = some x → Kept noBlock w w' → ¬ ((∀ j q, k = j + 1 → ps[j]? = some q → lt q.1 x.1 = true) ∧ PairOk x) → Says w (decide (PairsOk ps)) (.returned (.bool false)) w') := fun k x w' hx kk hno =>
    ⟨by rw [decide_eq_false (fun hp : PairsOk ps => hno ((rowOk_next (P := PairOk) hx).1 (rowOk_take hp (k + 1))).2)], kk⟩
  go_enter Tryz.func100, Tryz.ntmps100
  go_wp2
  go_loopw [7] (fun i wr => ∃ k : Nat, k ≤ n ∧ i = .int .i64 (k : Int) ∧ Hid (PairsOk (ps.take k)) ∧ Hid (Kept noBlock w wr)) (fun i _ => n - (intOf i).toNat)
  case atStart => exact ⟨0, by omega, rfl, ⟨by rw [List.take_zero]; exact List.Pairwise.nil, by rw [List.take_zero]; simp⟩, Kept.refl _ _⟩
  case round =>
    obtain ⟨k, hk, rfl, HP, HK⟩ := hrel
    by_cases hlt : k < n
    · obtain ⟨x, hx⟩ : ∃ x, ps[k]? = some x := ⟨_, List.getElem?_eq_getElem (by have := HL.out; omega)⟩
      have hlies := H.out.keep HK.out (fun _ _ h => h)
      obtain ⟨g, o, ha, _, cc⟩ := hlies.elem PR.enc_len (by omega) hx
      have c0 := cc 0 _ rfl
      have c1 := cc 1 _ rfl
      have c2 := cc 2 _ rfl
      rw [Nat.add_zero] at c0
      have NX : Hid (∀ w', Kept noBlock w w' → ¬ ((∀ j q, k = j + 1 → ps[j]? = some q → lt q.1 x.1 = true) ∧ PairOk x) → Says w (decide (PairsOk ps)) (.returned (.bool false)) w') := fun w' => NO.out k x w' hx
      have OK : Hid ((∀ j q, k = j + 1 → ps[j]? = some q → lt q.1 x.1 = true) → PairOk x → PairsOk (ps.take (k + 1))) := fun h1 h2 => (rowOk_next (P := PairOk) hx).2 ⟨HP.out, h1, h2⟩
      have HX := Lib.hid hx
      clear hx cc
      obtain ⟨xk, xv, xg⟩ := x
      simp only at c0 c1 c2
      have ka := Kept.alloc noBlock wr (.cells #[.string xk, .string xv, .bool xg] 68)
      have hb := heap_alloc_new wr (.cells #[.string xk, .string xv, .bool xg] 68)
      by_cases h0 : 0 < k
      · obtain ⟨j, hj⟩ : ∃ j, k = j + 1 := ⟨k - 1, by omega⟩
        obtain ⟨q, hq⟩ : ∃ q, ps[j]? = some q := ⟨_, List.getElem?_eq_getElem (by have := HL.out; omega)⟩
        obtain ⟨g', o', ha', _, cq⟩ := hlies.elem PR.enc_len (by omega) hq
        rw [ha] at ha'
        injection ha' with ha'
        injection ha' with e1 e2
        subst ha e1 e2
        have q0 := cq 0 _ rfl
        rw [Nat.add_zero] at q0
        have hw : IntKind.i64.wrap ((k : Int) - 1) = (j : Int) := by rw [IntWalk.i64_in _ (by omega)]; omega
        have hjn : (j : Int) < (n : Int) := by omega
        have hgk : (0 : Int) < (k : Int) := by omega
        cases hlq : lt q.1 xk with
        | true =>
          have OK1 : Hid (PairOk (xk, (xv, xg)) → PairsOk (ps.take (k + 1))) := fun h => OK.out (fun j' q' e hq' => by
            have : j' = j := by omega
            subst this
            rw [hq] at hq'
            injection hq' with hq'
            rw [← hq']
            exact hlq) h
          have NX1 : Hid (∀ w', Kept noBlock w w' → ¬ PairOk (xk, (xv, xg)) → Says w (decide (PairsOk ps)) (.returned (.bool false)) w') := fun w' k h => NX.out w' k (fun h2 => h h2.2)
          have hlb : Op.bytesLess q.1.toList xk.toList = true := hlq
          have HJ := Lib.hid hj
          clear OK NX cq hq hlies hlq hj
          go_upto_region 4 with (fail)
          generalize wr.alloc (.cells #[.string xk, .string xv, .bool xg] 68) = u0 at ka hb ⊢
          have b0 : u0.cell? ⟨wr.heap.size, 0, none⟩ = some (.string xk) := cell_of_row _ _ _ _ _ _ hb
          replace q0 := ka.cell q0 (fun h => h)
          go_quiet (fail)
          have kq := Kept.drewN noBlock u0 nq
          generalize u0.drewN nq = u at kq ⊢
          have HB := Lib.hid (kq.blk hb (fun h => h))
          have KU := Lib.hid (HK.out.step (ka.step kq))
          clear ka hb kq c0 c1 c2
          clear b0 q0 hlb hw hjn
          obtain ⟨b0, b1, b2⟩ : u.cell? ⟨wr.heap.size, 0, none⟩ = some (.string xk) ∧ u.cell? ⟨wr.heap.size, 1, none⟩ = some (.string xv) ∧ u.cell? ⟨wr.heap.size, 2, none⟩ = some (.bool xg) := ⟨cell_of_row _ _ _ _ _ _ HB.out, cell_of_row _ _ _ _ _ _ HB.out, cell_of_row _ _ _ _ _ _ HB.out⟩
          go_wp2_with fail
          by_cases h1 : (1 : Int) ≤ xk.size ∧ (xk.size : Int) ≤ 8
          · refine (swithin_yes _ _ _ _ h1.1 h1.2).mono ?_
            rintro e w' ⟨rfl, rfl⟩
            by_cases h2 : (xv.size : Int) ≤ 16
            · cases xg
              · have OK2 : Hid (PairsOk (ps.take (k + 1))) := OK1.out ⟨by simp only; omega, by simp only; omega, by simp only; omega, by simp⟩
                have h2' : decide ((16 : Int) < xv.size) = false := decide_eq_false (by omega)
                go_wp2
                go_roundw
                case rel => exact ⟨k + 1, by omega, by go_num, OK2, KU⟩
                case measure => simp [intOf]; omega
              · by_cases h3 : xv.size = 0
                · have OK2 : Hid (PairsOk (ps.take (k + 1))) := OK1.out ⟨by simp only; omega, by simp only; omega, by simp only; omega, by simp only; omega⟩
                  obtain rfl : xv = ⟨#[]⟩ := size_zero h3
                  clear h2 h3
                  go_wp2
                  go_roundw
                  case rel => exact ⟨k + 1, by omega, by go_num, OK2, KU⟩
                  case measure => simp [intOf]; omega
                · have NO2 : Hid (Says w (decide (PairsOk ps)) (.returned (.bool false)) u) := NX1.out u KU.out (fun h => h3 (h.2.2.2 rfl))
                  have h3' : (xv.toList == []) = false := by
                    refine beq_false_of_ne (fun e => h3 ?_)
                    rw [ByteArray.toList_eq] at e
                    have := congrArg List.length e
                    simpa using this
                  clear h3
                  go_wp2
                  go_ret
                  exact NO2.out
            · have NO2 : Hid (Says w (decide (PairsOk ps)) (.returned (.bool false)) u) := NX1.out u KU.out (fun h => h2 (by have := h.2.2.1; simp only at this; omega))
              go_wp2
              go_ret
              exact NO2.out
          · refine (swithin_no _ _ _ _ h1).mono ?_
            rintro e w' ⟨rfl, rfl⟩
            have NO2 : Hid (Says w (decide (PairsOk ps)) (.returned (.bool false)) u) := NX1.out u KU.out (fun h => h1 (by have := h.1; have := h.2.1; simp only at *; omega))
            go_wp2
            go_ret
            exact NO2.out
        | false =>
          have NO2 : Hid (∀ w', Kept noBlock w w' → Says w (decide (PairsOk ps)) (.returned (.bool false)) w') := fun w' kk => NX.out w' kk (fun h => by have := h.1 j q hj hq; simp only at this; rw [hlq] at this; cases this)
          have hlb : Op.bytesLess q.1.toList xk.toList = false := hlq
          have HJ := Lib.hid hj
          clear OK NX cq hq hlies hlq hj
          go_upto_region 4 with (fail)
          generalize wr.alloc (.cells #[.string xk, .string xv, .bool xg] 68) = u0 at ka hb ⊢
          have b0 : u0.cell? ⟨wr.heap.size, 0, none⟩ = some (.string xk) := cell_of_row _ _ _ _ _ _ hb
          replace q0 := ka.cell q0 (fun h => h)
          go_quiet (fail)
          have kq := Kept.drewN noBlock u0 nq
          generalize u0.drewN nq = u at kq ⊢
          have HB := Lib.hid (kq.blk hb (fun h => h))
          have KU := Lib.hid (HK.out.step (ka.step kq))
          clear ka hb kq c0 c1 c2
          have NO3 := Lib.hid (NO2.out u KU.out)
          go_wp2
          go_ret
          exact NO3.out
      · subst ha
        have OK1 : Hid (PairOk (xk, (xv, xg)) → PairsOk (ps.take (k + 1))) := fun h => OK.out (fun j q e => by omega) h
        have NX1 : Hid (∀ w', Kept noBlock w w' → ¬ PairOk (xk, (xv, xg)) → Says w (decide (PairsOk ps)) (.returned (.bool false)) w') := fun w' k h => NX.out w' k (fun h2 => h h2.2)
        have hgk : decide ((0 : Int) < (k : Int)) = false := decide_eq_false (by omega)
        clear OK NX hlies
        go_upto_region 4 with (fail)
        generalize wr.alloc (.cells #[.string xk, .string xv, .bool xg] 68) = u0 at ka hb ⊢
        have b0 : u0.cell? ⟨wr.heap.size, 0, none⟩ = some (.string xk) := cell_of_row _ _ _ _ _ _ hb
        go_quiet (fail)
        have kq := Kept.drewN noBlock u0 nq
        generalize u0.drewN nq = u at kq ⊢
        have HB := Lib.hid (kq.blk hb (fun h => h))
        have KU := Lib.hid (HK.out.step (ka.step kq))
        clear ka hb kq c0 c1 c2
        clear b0
        obtain ⟨b0, b1, b2⟩ : u.cell? ⟨wr.heap.size, 0, none⟩ = some (.string xk) ∧ u.cell? ⟨wr.heap.size, 1, none⟩ = some (.string xv) ∧ u.cell? ⟨wr.heap.size, 2, none⟩ = some (.bool xg) := ⟨cell_of_row _ _ _ _ _ _ HB.out, cell_of_row _ _ _ _ _ _ HB.out, cell_of_row _ _ _ _ _ _ HB.out⟩
        go_wp2_with fail
        by_cases h1 : (1 : Int) ≤ xk.size ∧ (xk.size : Int) ≤ 8
        · refine (swithin_yes _ _ _ _ h1.1 h1.2).mono ?_
          rintro e w' ⟨rfl, rfl⟩
          by_cases h2 : (xv.size : Int) ≤ 16
          · cases xg
            · have OK2 : Hid (PairsOk (ps.take (k + 1))) := OK1.out ⟨by simp only; omega, by simp only; omega, by simp only; omega, by simp⟩
              have h2' : decide ((16 : Int) < xv.size) = false := decide_eq_false (by omega)
              go_wp2
              go_roundw
              case rel => exact ⟨k + 1, by omega, by go_num, OK2, KU⟩
              case measure => simp [intOf]; omega
            · by_cases h3 : xv.size = 0
              · have OK2 : Hid (PairsOk (ps.take (k + 1))) := OK1.out ⟨by simp only; omega, by simp only; omega, by simp only; omega, by simp only; omega⟩
                obtain rfl : xv = ⟨#[]⟩ := size_zero h3
                clear h2 h3
                go_wp2
                go_roundw
                case rel => exact ⟨k + 1, by omega, by go_num, OK2, KU⟩
                case measure => simp [intOf]; omega
              · have NO2 : Hid (Says w (decide (PairsOk ps)) (.returned (.bool false)) u) := NX1.out u KU.out (fun h => h3 (h.2.2.2 rfl))
                have h3' : (xv.toList == []) = false := by
                  refine beq_false_of_ne (fun e => h3 ?_)
                  rw [ByteArray.toList_eq] at e
                  have := congrArg List.length e
                  simpa using this
                clear h3
                go_wp2
                go_ret
                exact NO2.out
          · have NO2 : Hid (Says w (decide (PairsOk ps)) (.returned (.bool false)) u) := NX1.out u KU.out (fun h => h2 (by have := h.2.2.1; simp only at this; omega))
            go_wp2
            go_ret
            exact NO2.out
        · refine (swithin_no _ _ _ _ h1).mono ?_
          rintro e w' ⟨rfl, rfl⟩
          have NO2 : Hid (Says w (decide (PairsOk ps)) (.returned (.bool false)) u) := NX1.out u KU.out (fun h => h1 (by have := h.1; have := h.2.1; simp only at *; omega))
          go_wp2
          go_ret
          exact NO2.out
    · obtain rfl : k = n := by omega
      have hp := HP.out
      rw [List.take_of_length_le (by have := HL.out; omega)] at hp
      have HPP := Lib.hid hp
      clear hp
      go_wp2
      go_ret
      exact ⟨by rw [decide_eq_true HPP.out]; rfl, HK.out⟩
end Go.Proofs.YthmjjhjblokjeaaGreat

/-
  Which sessions are right. No statement is proved here.
-/
namespace Go.Proofs.YthmjjhjblokjeaaGreat
open Go.RowKit Tot

def RepOk (r : RepV) : Prop := 0 ≤ r.err ∧ r.err ≤ 14 ∧ r.value.size ≤ 16
instance (r : RepV) : Decidable (RepOk r) := by unfold RepOk; infer_instance
set_option maxHeartbeats 1000000 in
theorem rightreply_any (r : RepV) (w : World) : Calls Tryz.prog 110 #[r.val] w (Says w (decide (RepOk r))) := by
  obtain ⟨err, value⟩ := r
  unfold RepV.val
  simp only
  have ans : ∀ (w : World) (o : Obj) (b : Bool), b = decide (RepOk ⟨err, value⟩) → Says w (decide (RepOk ⟨err, value⟩)) (.returned (.bool b)) (w.alloc o) := fun _ _ _ h => ⟨by rw [h], Kept.alloc _ _ _⟩
  have ANS := Lib.hid ans; clear ans
  go_enter Tryz.func110, Tryz.ntmps110
  go_wp2_with fail
  by_cases h1 : 0 ≤ err ∧ err ≤ 14
  · refine (swithin_yes _ _ _ _ h1.1 h1.2).mono ?_
    rintro e w' ⟨rfl, rfl⟩
    have LAST : Hid (∀ (o : Obj) (b : Bool), (b = true ↔ value.size ≤ 16) → Says w (decide (RepOk ⟨err, value⟩)) (.returned (.bool b)) (w.alloc o)) := fun o b hb => ANS.out _ _ _ (by
      rw [Bool.eq_iff_iff, hb, decide_eq_true_iff]
      exact ⟨fun h => ⟨h1.1, h1.2, h⟩, fun h => h.2.2⟩)
    go_wp2
    go_ret
    refine LAST.out _ _ ?_
    simp
    try omega
  · refine (swithin_no _ _ _ _ h1).mono ?_
    rintro e w' ⟨rfl, rfl⟩
    go_wp2
    go_ret
    refine ANS.out _ _ _ (decide_eq_false fun hm => ?_).symm
    exact h1 ⟨hm.1, hm.2.1⟩

set_option maxRecDepth 100000 in
set_option maxHeartbeats 1000000 in
theorem rightsess_any (F : Nat → Prop) (a : Option Addr) (n c : Nat) (xs : Sns) (w : World) (h : Lies w F a (SN.cells xs)) (hl : xs.length = n) (hc : n ≤ c) (hn : n ≤ 1099511627776) :
    Calls Tryz.prog 101 #[.slice a n c] w (Says w (decide (SesssOk xs))) := by
  have H := Lib.hid h
  have HL := Lib.hid hl
  clear h hl
  have NO : Hid (∀ k x w', xs[k]? = some x → Kept noBlock w w' → ¬ ((∀ j q, k = j + 1 → xs[j]? = some q → lt q.1 x.1 = true) ∧ SessOk x) → Says w (decide (SesssOk xs)) (.returned (.bool false)) w') := fun k x w' hx kk hno =>
    ⟨by rw [decide_eq_false (fun hp : SesssOk xs => hno ((rowOk_next (P := SessOk) hx).1 (rowOk_take hp (k + 1))).2)], kk⟩
  go_enter Tryz.func101, Tryz.ntmps101
  go_wp2
  go_loopw [7] (fun i wr => ∃ k : Nat, k ≤ n ∧ i = .int .i64 (k : Int) ∧ Hid (SesssOk (xs.take k)) ∧ Hid (Kept noBlock w wr)) (fun i _ => n - (intOf i).toNat)
  case atStart => exact ⟨0, by omega, rfl, ⟨by rw [List.take_zero]; exact List.Pairwise.nil, by rw [List.take_zero]; simp⟩, Kept.refl _ _⟩
  case round =>
    obtain ⟨k, hk, rfl, HP, HK⟩ := hrel
    by_cases hlt : k < n
    · obtain ⟨x, hx⟩ : ∃ x, xs[k]? = some x := ⟨_, List.getElem?_eq_getElem (by have := HL.out; omega)⟩
      have hlies := H.out.keep HK.out (fun _ _ h => h)
      obtain ⟨g, o, ha, _, cc⟩ := hlies.elem SN.enc_len (by omega) hx
      have c0 := cc 0 _ rfl
      have c1 := cc 1 _ rfl
      have c2 := cc 2 _ rfl
      have c3 := cc 3 _ rfl
      rw [Nat.add_zero] at c0
      have NX : Hid (∀ w', Kept noBlock w w' → ¬ ((∀ j q, k = j + 1 → xs[j]? = some q → lt q.1 x.1 = true) ∧ SessOk x) → Says w (decide (SesssOk xs)) (.returned (.bool false)) w') := fun w' => NO.out k x w' hx
      have OK : Hid ((∀ j q, k = j + 1 → xs[j]? = some q → lt q.1 x.1 = true) → SessOk x → SesssOk (xs.take (k + 1))) := fun h1 h2 => (rowOk_next (P := SessOk) hx).2 ⟨HP.out, h1, h2⟩
      have HX := Lib.hid hx
      clear hx cc
      obtain ⟨xc, xq, xe, xv⟩ := x
      simp only at c0 c1 c2 c3
      have ka := Kept.alloc noBlock wr (.cells #[.int .i64 xc, .int .i64 xq, .int .i64 xe, .string xv] 63)
      have hb := heap_alloc_new wr (.cells #[.int .i64 xc, .int .i64 xq, .int .i64 xe, .string xv] 63)
      by_cases h0 : 0 < k
      · obtain ⟨j, hj⟩ : ∃ j, k = j + 1 := ⟨k - 1, by omega⟩
        obtain ⟨q, hq⟩ : ∃ q, xs[j]? = some q := ⟨_, List.getElem?_eq_getElem (by have := HL.out; omega)⟩
        obtain ⟨g', o', ha', _, cq⟩ := hlies.elem SN.enc_len (by omega) hq
        rw [ha] at ha'
        injection ha' with ha'
        injection ha' with e1 e2
        subst ha e1 e2
        have q0 := cq 0 _ rfl
        rw [Nat.add_zero] at q0
        have hw : IntKind.i64.wrap ((k : Int) - 1) = (j : Int) := by rw [IntWalk.i64_in _ (by omega)]; omega
        have hjn : (j : Int) < (n : Int) := by omega
        have hgk : (0 : Int) < (k : Int) := by omega
        cases hlq : lt q.1 xc with
        | true =>
          have OK1 : Hid (SessOk (xc, (xq, ⟨xe, xv⟩)) → SesssOk (xs.take (k + 1))) := fun h => OK.out (fun j' q' e hq' => by
            have : j' = j := by omega
            subst this
            rw [hq] at hq'
            injection hq' with hq'
            rw [← hq']
            exact hlq) h
          have NX1 : Hid (∀ w', Kept noBlock w w' → ¬ SessOk (xc, (xq, ⟨xe, xv⟩)) → Says w (decide (SesssOk xs)) (.returned (.bool false)) w') := fun w' k h => NX.out w' k (fun h2 => h h2.2)
          have hlb : q.1 < xc := by simpa [lt] using hlq
          have hlb' : decide (xc ≤ q.1) = false := decide_eq_false (by omega)
          have HJ := Lib.hid hj
          clear OK NX cq hq hlies hlq hj
          go_upto_region 4 with (fail)
          generalize wr.alloc (.cells #[.int .i64 xc, .int .i64 xq, .int .i64 xe, .string xv] 63) = u0 at ka hb ⊢
          have b0 : u0.cell? ⟨wr.heap.size, 0, none⟩ = some (.int .i64 xc) := cell_of_row _ _ _ _ _ _ hb
          replace q0 := ka.cell q0 (fun h => h)
          go_quiet (fail)
          have kq := Kept.drewN noBlock u0 nq
          generalize u0.drewN nq = u at kq ⊢
          have HB := Lib.hid (kq.blk hb (fun h => h))
          have KU := Lib.hid (HK.out.step (ka.step kq))
          clear ka hb kq c0 c1 c2 c3
          clear b0 q0 hlb hlb' hw hjn
          obtain ⟨b0, b1, b2, b3⟩ : u.cell? ⟨wr.heap.size, 0, none⟩ = some (.int .i64 xc) ∧ u.cell? ⟨wr.heap.size, 1, none⟩ = some (.int .i64 xq) ∧ u.cell? ⟨wr.heap.size, 2, none⟩ = some (.int .i64 xe) ∧ u.cell? ⟨wr.heap.size, 3, none⟩ = some (.string xv) := ⟨cell_of_row _ _ _ _ _ _ HB.out, cell_of_row _ _ _ _ _ _ HB.out, cell_of_row _ _ _ _ _ _ HB.out, cell_of_row _ _ _ _ _ _ HB.out⟩
          go_wp2_with fail
          by_cases h1 : 0 ≤ xc ∧ xc ≤ 3
          · refine (swithin_yes _ _ _ _ h1.1 h1.2).mono ?_
            rintro e w' ⟨rfl, rfl⟩
            go_wp2_with fail
            by_cases h2 : 0 ≤ xq ∧ xq ≤ 1048576
            · refine (swithin_yes _ _ _ _ h2.1 h2.2).mono ?_
              rintro e w' ⟨rfl, rfl⟩
              have RR := Lib.hid (rightreply_any ⟨xe, xv⟩ u)
              unfold RepV.val at RR
              by_cases h3 : RepOk ⟨xe, xv⟩
              · rw [decide_eq_true h3] at RR
                have OK2 : Hid (SesssOk (xs.take (k + 1))) := OK1.out ⟨h1.1, h1.2, h2.1, h2.2, h3.1, h3.2.1, h3.2.2⟩
                go_wp2_with fail
                refine RR.out.mono ?_
                rintro e u2 ⟨rfl, k2⟩
                have KU2 := Lib.hid (KU.out.step k2)
                clear RR k2 h3
                go_wp2
                go_roundw
                case rel => exact ⟨k + 1, by omega, by go_num, OK2, KU2⟩
                case measure => simp [intOf]; omega
              · rw [decide_eq_false h3] at RR
                have NO2 : Hid (∀ u2, Kept noBlock u u2 → Says w (decide (SesssOk xs)) (.returned (.bool false)) u2) := fun u2 k2 => NX1.out u2 (KU.out.step k2) (fun h => h3 ⟨h.2.2.2.2.1, h.2.2.2.2.2.1, h.2.2.2.2.2.2⟩)
                go_wp2_with fail
                refine RR.out.mono ?_
                rintro e u2 ⟨rfl, k2⟩
                have NO3 := Lib.hid (NO2.out u2 k2)
                clear RR k2 h3
                go_wp2
                go_ret
                exact NO3.out
            · refine (swithin_no _ _ _ _ h2).mono ?_
              rintro e w' ⟨rfl, rfl⟩
              have NO2 : Hid (Says w (decide (SesssOk xs)) (.returned (.bool false)) u) := NX1.out u KU.out (fun h => h2 ⟨h.2.2.1, h.2.2.2.1⟩)
              go_wp2
              go_ret
              exact NO2.out
          · refine (swithin_no _ _ _ _ h1).mono ?_
            rintro e w' ⟨rfl, rfl⟩
            have NO2 : Hid (Says w (decide (SesssOk xs)) (.returned (.bool false)) u) := NX1.out u KU.out (fun h => h1 ⟨h.1, h.2.1⟩)
            go_wp2
            go_ret
            exact NO2.out
        | false =>
          have NO2 : Hid (∀ w', Kept noBlock w w' → Says w (decide (SesssOk xs)) (.returned (.bool false)) w') := fun w' kk => NX.out w' kk (fun h => by have := h.1 j q hj hq; simp only at this; rw [hlq] at this; cases this)
          have hlb : ¬ q.1 < xc := by simpa [lt] using hlq
          have hlb' : decide (xc ≤ q.1) = true := decide_eq_true (by omega)
          have HJ := Lib.hid hj
          clear OK NX cq hq hlies hlq hj
          go_upto_region 4 with (fail)
          generalize wr.alloc (.cells #[.int .i64 xc, .int .i64 xq, .int .i64 xe, .string xv] 63) = u0 at ka hb ⊢
          have b0 : u0.cell? ⟨wr.heap.size, 0, none⟩ = some (.int .i64 xc) := cell_of_row _ _ _ _ _ _ hb
          replace q0 := ka.cell q0 (fun h => h)
          go_quiet (fail)
          have kq := Kept.drewN noBlock u0 nq
          generalize u0.drewN nq = u at kq ⊢
          have HB := Lib.hid (kq.blk hb (fun h => h))
          have KU := Lib.hid (HK.out.step (ka.step kq))
          clear ka hb kq c0 c1 c2 c3
          have NO3 := Lib.hid (NO2.out u KU.out)
          go_wp2
          go_ret
          exact NO3.out
      · subst ha
        have OK1 : Hid (SessOk (xc, (xq, ⟨xe, xv⟩)) → SesssOk (xs.take (k + 1))) := fun h => OK.out (fun j q e => by omega) h
        have NX1 : Hid (∀ w', Kept noBlock w w' → ¬ SessOk (xc, (xq, ⟨xe, xv⟩)) → Says w (decide (SesssOk xs)) (.returned (.bool false)) w') := fun w' k h => NX.out w' k (fun h2 => h h2.2)
        have hgk : decide ((0 : Int) < (k : Int)) = false := decide_eq_false (by omega)
        clear OK NX hlies
        go_upto_region 4 with (fail)
        generalize wr.alloc (.cells #[.int .i64 xc, .int .i64 xq, .int .i64 xe, .string xv] 63) = u0 at ka hb ⊢
        have b0 : u0.cell? ⟨wr.heap.size, 0, none⟩ = some (.int .i64 xc) := cell_of_row _ _ _ _ _ _ hb
        go_quiet (fail)
        have kq := Kept.drewN noBlock u0 nq
        generalize u0.drewN nq = u at kq ⊢
        have HB := Lib.hid (kq.blk hb (fun h => h))
        have KU := Lib.hid (HK.out.step (ka.step kq))
        clear ka hb kq c0 c1 c2 c3
        clear b0
        obtain ⟨b0, b1, b2, b3⟩ : u.cell? ⟨wr.heap.size, 0, none⟩ = some (.int .i64 xc) ∧ u.cell? ⟨wr.heap.size, 1, none⟩ = some (.int .i64 xq) ∧ u.cell? ⟨wr.heap.size, 2, none⟩ = some (.int .i64 xe) ∧ u.cell? ⟨wr.heap.size, 3, none⟩ = some (.string xv) := ⟨cell_of_row _ _ _ _ _ _ HB.out, cell_of_row _ _ _ _ _ _ HB.out, cell_of_row _ _ _ _ _ _ HB.out, cell_of_row _ _ _ _ _ _ HB.out⟩
        go_wp2_with fail
        by_cases h1 : 0 ≤ xc ∧ xc ≤ 3
        · refine (swithin_yes _ _ _ _ h1.1 h1.2).mono ?_
          rintro e w' ⟨rfl, rfl⟩
          go_wp2_with fail
          by_cases h2 : 0 ≤ xq ∧ xq ≤ 1048576
          · refine (swithin_yes _ _ _ _ h2.1 h2.2).mono ?_
            rintro e w' ⟨rfl, rfl⟩
            have RR := Lib.hid (rightreply_any ⟨xe, xv⟩ u)
            unfold RepV.val at RR
            by_cases h3 : RepOk ⟨xe, xv⟩
            · rw [decide_eq_true h3] at RR
              have OK2 : Hid (SesssOk (xs.take (k + 1))) := OK1.out ⟨h1.1, h1.2, h2.1, h2.2, h3.1, h3.2.1, h3.2.2⟩
              go_wp2_with fail
              refine RR.out.mono ?_
              rintro e u2 ⟨rfl, k2⟩
              have KU2 := Lib.hid (KU.out.step k2)
              clear RR k2 h3
              go_wp2
              go_roundw
              case rel => exact ⟨k + 1, by omega, by go_num, OK2, KU2⟩
              case measure => simp [intOf]; omega
            · rw [decide_eq_false h3] at RR
              have NO2 : Hid (∀ u2, Kept noBlock u u2 → Says w (decide (SesssOk xs)) (.returned (.bool false)) u2) := fun u2 k2 => NX1.out u2 (KU.out.step k2) (fun h => h3 ⟨h.2.2.2.2.1, h.2.2.2.2.2.1, h.2.2.2.2.2.2⟩)
              go_wp2_with fail
              refine RR.out.mono ?_
              rintro e u2 ⟨rfl, k2⟩
              have NO3 := Lib.hid (NO2.out u2 k2)
              clear RR k2 h3
              go_wp2
              go_ret
              exact NO3.out
          · refine (swithin_no _ _ _ _ h2).mono ?_
            rintro e w' ⟨rfl, rfl⟩
            have NO2 : Hid (Says w (decide (SesssOk xs)) (.returned (.bool false)) u) := NX1.out u KU.out (fun h => h2 ⟨h.2.2.1, h.2.2.2.1⟩)
            go_wp2
            go_ret
            exact NO2.out
        · refine (swithin_no _ _ _ _ h1).mono ?_
          rintro e w' ⟨rfl, rfl⟩
          have NO2 : Hid (Says w (decide (SesssOk xs)) (.returned (.bool false)) u) := NX1.out u KU.out (fun h => h1 ⟨h.1, h.2.1⟩)
          go_wp2
          go_ret
          exact NO2.out
    · obtain rfl : k = n := by omega
      have hp := HP.out
      rw [List.take_of_length_le (by have := HL.out; omega)] at hp
      have HPP := Lib.hid hp
      clear hp
      go_wp2
      go_ret
      exact ⟨by rw [decide_eq_true HPP.out]; rfl, HK.out⟩
end Go.Proofs.YthmjjhjblokjeaaGreat

/-
  Which rows and states are right. No statement is proved here.
-/
namespace Go.Proofs.YthmjjhjblokjeaaGreat
open Go.RowKit Tot

set_option maxHeartbeats 1000000 in
theorem gone_any (k v : ByteArray) (g : Bool) (w : World) : Calls Tryz.prog 87 #[.agg #[.string k, .string v, .bool g]] w (Says w g) := by
  go_enter Tryz.func87, Tryz.ntmps87
  go_wp2
  go_ret
  exact ⟨rfl, Kept.alloc _ _ _⟩
set_option maxRecDepth 100000 in
set_option maxHeartbeats 1000000 in
theorem index_any (F : Nat → Prop) (a : Option Addr) (n c : Nat) (ps : Prs) (w : World) (h : Lies w F a (PR.cells ps)) (hl : ps.length = n) (hc : n ≤ c) (hn : n ≤ 1099511627776) :
    Calls Tryz.prog 102 #[.slice a n c, .func (.func 87) #[] #[]] w fun e w' => ∃ i : Int, e = .returned (.int .i64 i) ∧ (0 ≤ i ↔ ∃ p ∈ ps, p.2.2 = true) ∧ Kept noBlock w w' := by
  have H := Lib.hid h
  have HL := Lib.hid hl
  clear h hl
  go_enter Tryz.func102, Tryz.ntmps102
  go_wp2
  go_loopw [8] (fun i wr => ∃ k : Nat, k ≤ n ∧ i = .int .i64 (k : Int) ∧ Hid (∀ p ∈ ps.take k, p.2.2 = false) ∧ Hid (Kept noBlock w wr)) (fun i _ => n - (intOf i).toNat)
  case atStart => exact ⟨0, by omega, rfl, by unfold Hid; simp, Kept.refl _ _⟩
  case round =>
    obtain ⟨k, hk, rfl, HP, HK⟩ := hrel
    by_cases hlt : k < n
    · obtain ⟨x, hx⟩ : ∃ x, ps[k]? = some x := ⟨_, List.getElem?_eq_getElem (by have := HL.out; omega)⟩
      obtain ⟨g, o, rfl, _, cc⟩ := (H.out.keep HK.out (fun _ _ h => h)).elem PR.enc_len (by omega) hx
      have c0 := cc 0 _ rfl
      have c1 := cc 1 _ rfl
      have c2 := cc 2 _ rfl
      rw [Nat.add_zero] at c0
      obtain ⟨xk, xv, xg⟩ := x
      simp only at c0 c1 c2
      have HX := Lib.hid hx
      have GO := Lib.hid (gone_any xk xv xg wr)
      clear hx cc
      cases xg
      · go_wp2_with fail
        refine GO.out.mono ?_
        rintro e u ⟨rfl, ku⟩
        have KU := Lib.hid (HK.out.step ku)
        have HP2 : Hid (∀ p ∈ ps.take (k + 1), p.2.2 = false) := fun p hp => by
          rw [take_snoc ps k _ HX.out] at hp
          rcases List.mem_append.1 hp with h | h
          · exact HP.out p h
          · obtain rfl : p = _ := by simpa using h
            rfl
        clear ku GO
        go_wp2
        go_roundw
        case rel => exact ⟨k + 1, by omega, by go_num, HP2, KU⟩
        case measure => simp [intOf]; omega
      · go_wp2_with fail
        refine GO.out.mono ?_
        rintro e u ⟨rfl, ku⟩
        have KU := Lib.hid (HK.out.step ku)
        clear ku GO
        go_wp2
        go_ret
        exact ⟨(k : Int), rfl, ⟨fun _ => ⟨_, List.mem_of_getElem? HX.out, rfl⟩, fun _ => by omega⟩, KU.out⟩
    · obtain rfl : k = n := by omega
      have hp := HP.out
      rw [List.take_of_length_le (by have := HL.out; omega)] at hp
      have HPP := Lib.hid hp
      clear hp
      go_wp2
      go_ret
      refine ⟨-1, rfl, ⟨fun h => by omega, fun ⟨p, hp, hg⟩ => ?_⟩, HK.out⟩
      rw [HPP.out p hp] at hg
      cases hg
set_option maxHeartbeats 1000000 in
theorem contains_any (F : Nat → Prop) (a : Option Addr) (n c : Nat) (ps : Prs) (w : World) (h : Lies w F a (PR.cells ps)) (hl : ps.length = n) (hc : n ≤ c) (hn : n ≤ 1099511627776) :
    Calls Tryz.prog 86 #[.slice a n c, .func (.func 87) #[] #[]] w (Says w (!decide (∀ p ∈ ps, p.2.2 = false))) := by
  have IX := Lib.hid (index_any F a n c ps w h hl hc hn)
  clear h hl
  go_enter Tryz.func86, Tryz.ntmps86
  go_wp2_with fail
  refine IX.out.mono ?_
  rintro e u ⟨i, rfl, hi, ku⟩
  have hd : (!decide (∀ p ∈ ps, p.2.2 = false)) = decide (0 ≤ i) := by
    by_cases h0 : 0 ≤ i
    · obtain ⟨p, hp, hg⟩ := hi.1 h0
      rw [decide_eq_true h0, decide_eq_false (fun h => by rw [h p hp] at hg; cases hg)]
      rfl
    · rw [decide_eq_false h0, decide_eq_true (fun p hp => by
        cases hg : p.2.2 with
        | false => rfl
        | true => exact absurd (hi.2 ⟨p, hp, hg⟩) h0)]
      rfl
  have HD := Lib.hid hd
  clear hd hi IX
  go_wp2
  go_ret
  exact ⟨by rw [HD.out]; rfl, ku⟩

set_option maxRecDepth 100000 in
set_option maxHeartbeats 1000000 in
theorem rows_any (F : Nat → Prop) (a : Option Addr) (n c : Nat) (b : Option Addr) (m d : Nat) (ps : Prs) (xs : Sns) (most : Int) (w : World) (h : Lies w F a (PR.cells ps)) (hl : ps.length = n) (hc : n ≤ c) (hn : n ≤ 1099511627776)
    (h2 : Lies w F b (SN.cells xs)) (hl2 : xs.length = m) (hc2 : m ≤ d) (hn2 : m ≤ 1099511627776) :
    Calls Tryz.prog 84 #[.slice a n c, .slice b m d, .int .i64 most] w (Says w (decide (RowsOk ps xs most))) := by
  have RP := Lib.hid (rightpairs_any F a n c ps w h hl hc hn)
  have RS := Lib.hid (fun u (k : Kept noBlock w u) => rightsess_any F b m d xs u (h2.keep k (fun _ _ h => h)) hl2 hc2 hn2)
  have NO : Hid (∀ u, Kept noBlock w u → ¬ RowsOk ps xs most → Says w (decide (RowsOk ps xs most)) (.returned (.bool false)) u) := fun u k h => ⟨by rw [decide_eq_false h], k⟩
  have HL := Lib.hid hl
  clear h h2 hl hl2
  by_cases h0 : (n : Int) ≤ most
  · by_cases h1 : PairsOk ps
    · rw [decide_eq_true h1] at RP
      by_cases h3 : SesssOk xs
      · simp only [decide_eq_true h3] at RS
        have YES : Hid (∀ u, Kept noBlock w u → Says w (decide (RowsOk ps xs most)) (.returned (.bool true)) u) := fun u k => ⟨by rw [decide_eq_true ⟨by rw [HL.out]; exact h0, h1, h3⟩], k⟩
        clear h1 h3
        go_enter Tryz.func84, Tryz.ntmps84
        go_wp2_with fail
        refine RP.out.mono ?_
        rintro e u ⟨rfl, ku⟩
        have KU := Lib.hid ku
        clear ku
        go_wp2_with fail
        refine (RS.out u KU.out).mono ?_
        rintro e v ⟨rfl, kv⟩
        go_wp2
        go_ret
        exact YES.out _ (KU.out.step kv)
      · simp only [decide_eq_false h3] at RS
        have NO2 : Hid (¬ RowsOk ps xs most) := fun h => h3 h.2.2
        clear h1 h3
        go_enter Tryz.func84, Tryz.ntmps84
        go_wp2_with fail
        refine RP.out.mono ?_
        rintro e u ⟨rfl, ku⟩
        have KU := Lib.hid ku
        clear ku
        go_wp2_with fail
        refine (RS.out u KU.out).mono ?_
        rintro e v ⟨rfl, kv⟩
        go_wp2
        go_ret
        exact NO.out _ (KU.out.step kv) NO2.out
    · rw [decide_eq_false h1] at RP
      have NO2 : Hid (¬ RowsOk ps xs most) := fun h => h1 h.2.1
      clear h1
      go_enter Tryz.func84, Tryz.ntmps84
      go_wp2_with fail
      refine RP.out.mono ?_
      rintro e u ⟨rfl, ku⟩
      go_wp2
      go_ret
      exact NO.out _ ku NO2.out
  · have NO2 : Hid (¬ RowsOk ps xs most) := fun h => h0 (by have := h.1; rw [HL.out] at this; exact this)
    go_enter Tryz.func84, Tryz.ntmps84
    go_wp2
    go_ret
    exact NO.out _ (Kept.refl _ _) NO2.out

set_option maxRecDepth 100000 in
set_option maxHeartbeats 1000000 in
theorem sright_any (F : Nat → Prop) (s : StV) (A : Option Addr) (c : Nat) (B : Option Addr) (d : Nat) (w : World) (h : Sv w F s A c B d) (hn : s.pairs.length ≤ 1099511627776) (hm : s.sess.length ≤ 1099511627776) :
    Calls Tryz.prog 57 #[stv s A c B d] w (Says w (decide s.Right)) := by
  have RO := Lib.hid (fun u (k : Kept noBlock w u) => rows_any F A s.pairs.length c B s.sess.length d s.pairs s.sess 64 u (h.lp.keep k (fun _ _ h => h)) rfl h.cp hn (h.ls.keep k (fun _ _ h => h)) rfl h.cs hm)
  have CO := Lib.hid (fun u (k : Kept noBlock w u) => contains_any F A s.pairs.length c s.pairs u (h.lp.keep k (fun _ _ h => h)) rfl h.cp hn)
  have NO : Hid (∀ u, Kept noBlock w u → ¬ s.Right → Says w (decide s.Right) (.returned (.bool false)) u) := fun u k h => ⟨by rw [decide_eq_false h], k⟩
  have ka := Kept.alloc noBlock w (.cells #[.int .i64 s.index, .int .i64 s.term, .slice A s.pairs.length c, .slice B s.sess.length d] 27)
  have hb := heap_alloc_new w (.cells #[.int .i64 s.index, .int .i64 s.term, .slice A s.pairs.length c, .slice B s.sess.length d] 27)
  have KA := Lib.hid ka
  have HB := Lib.hid hb
  clear h hn hm ka hb
  unfold stv
  go_enter Tryz.func57, Tryz.ntmps57
  go_upto_region 1 with (fail)
  generalize w.alloc (.cells #[.int .i64 s.index, .int .i64 s.term, .slice A s.pairs.length c, .slice B s.sess.length d] 27) = w1 at KA HB ⊢
  obtain ⟨c0, c1, c2, c3⟩ := st_cells HB.out
  go_wp2_with fail
  by_cases h1 : 0 ≤ s.index ∧ s.index ≤ 1048576
  · refine (swithin_yes _ _ _ _ h1.1 h1.2).mono ?_
    rintro e w' ⟨rfl, rfl⟩
    go_wp2_with fail
    by_cases h2 : 0 ≤ s.term ∧ s.term ≤ 1048576
    · refine (swithin_yes _ _ _ _ h2.1 h2.2).mono ?_
      rintro e w' ⟨rfl, rfl⟩
      go_wp2_with fail
      refine (RO.out w1 KA.out).mono ?_
      rintro e w2 ⟨rfl, k2⟩
      have K2 := Lib.hid (KA.out.step k2)
      replace c2 := k2.cell c2 (fun h => h)
      clear k2 RO c0 c1 c3
      by_cases h3 : RowsOk s.pairs s.sess 64
      · rw [decide_eq_true h3]
        go_wp2_with fail
        refine (CO.out w2 K2.out).mono ?_
        rintro e w3 ⟨rfl, k3⟩
        have K3 := Lib.hid (K2.out.step k3)
        have FIN : Hid (Says w (decide s.Right) (.returned (.bool (decide (∀ p ∈ s.pairs, p.2.2 = false)))) w3) := by
          refine ⟨?_, K3.out⟩
          congr 2
          refine decide_eq_decide.2 ⟨fun h => ⟨h1, h2, h3, h⟩, fun h => h.2.2.2⟩
        generalize decide (∀ p ∈ s.pairs, p.2.2 = false) = gb at FIN ⊢
        clear k3 CO c2 h1 h2 h3
        cases gb
        · go_wp2
          go_ret
          exact FIN.out
        · go_wp2
          go_ret
          exact FIN.out
      · rw [decide_eq_false h3]
        have NO2 : Hid (¬ s.Right) := fun h => h3 h.2.2.1
        clear h3
        go_wp2
        go_ret
        exact NO.out _ K2.out NO2.out
    · refine (swithin_no _ _ _ _ h2).mono ?_
      rintro e w' ⟨rfl, rfl⟩
      have NO2 : Hid (¬ s.Right) := fun h => h2 h.2.1
      clear h2
      go_wp2
      go_ret
      exact NO.out _ KA.out NO2.out
  · refine (swithin_no _ _ _ _ h1).mono ?_
    rintro e w' ⟨rfl, rfl⟩
    have NO2 : Hid (¬ s.Right) := fun h => h1 h.1
    clear h1
    go_wp2
    go_ret
    exact NO.out _ KA.out NO2.out
end Go.Proofs.YthmjjhjblokjeaaGreat
