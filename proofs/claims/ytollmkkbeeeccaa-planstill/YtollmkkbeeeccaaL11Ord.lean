/-
  The statements' own order of files. No statement is proved here.
-/
import Derived.Test.YtollmkkbeeeccaaP11Ord
import Derived.Test.YtollmkkbeeeccaaE10Set
import Derived.Deep.QuietTactic
import Derived.Deep.DeepCutAuto
namespace Go.Proofs.Ytollmkkbeeeccaa
open Go.RowKit Tot

def pastB (x : RefV) (es : List RefV) : Nat → Bool
  | 0 => false
  | q + 1 => ltR x (es[q]?.getD noRef)
/-- A file laid in its place. -/
theorem ins_place (x : RefV) : ∀ (es : List RefV) (p : Nat), p ≤ es.length → (∀ (q : Nat) (e : RefV), p ≤ q → es[q]? = some e → ltR x e = true) → (∀ (q : Nat) (e : RefV), q + 1 = p → es[q]? = some e → ltR x e = false) →
    (insR x es.reverse).reverse = es.take p ++ x :: es.drop p := by
  intro es
  induction es using rev_ind with
  | h0 =>
    intro p hp _ _
    obtain rfl : p = 0 := by simpa using hp
    rfl
  | h1 es y ih =>
    intro p hp h1 h2
    rw [List.reverse_append, List.reverse_singleton, List.singleton_append, insR]
    rw [List.length_append, List.length_singleton] at hp
    by_cases hpe : p = es.length + 1
    · subst hpe
      have h3 := h2 es.length y rfl (by simp)
      rw [h3, if_neg (by simp), List.take_of_length_le (by simp), List.drop_eq_nil_of_le (by simp)]
      simp
    · have h3 := h1 es.length y (by omega) (by simp)
      rw [if_pos h3, List.reverse_cons, ih p (by omega) (fun q e hq he => h1 q e hq (by rw [List.getElem?_append_left (List.getElem?_eq_some_iff.1 he).1]; exact he))
        (fun q e hq he => h2 q e hq (by rw [List.getElem?_append_left (List.getElem?_eq_some_iff.1 he).1]; exact he)),
        List.take_append_of_le_length (by omega), List.drop_append_of_le_length (by omega)]
      simp
theorem ordV_snoc (l : List RefV) (x : RefV) : ordV (l ++ [x]) = (insR x (ordV l).reverse).reverse := by unfold ordV; rw [ordR_snoc, List.reverse_reverse]
theorem refs_take (l : List RefV) (k : Nat) : refCells (l.take k) = (refCells l).take (k * 4) := flat_take ref_len l k
theorem refs_drop (l : List RefV) (k : Nat) : refCells (l.drop k) = (refCells l).drop (k * 4) := flat_drop ref_len l k
theorem lies_take {w : World} {F : Nat → Prop} {a : Option Addr} {l : List RefV} (h : Lies w F a (refCells l)) (k : Nat) : Lies w F a (refCells (l.take k)) := by rw [refs_take]; exact h.take _
theorem lies_drop {w : World} {F : Nat → Prop} {g o : Nat} {l : List RefV} (h : Lies w F (some ⟨g, o, none⟩) (refCells l)) (k : Nat) : Lies w F (some ⟨g, o + k * 4, none⟩) (refCells (l.drop k)) := by
  intro hx
  have hne : refCells l ≠ [] := by
    intro e
    rw [refs_drop, e] at hx
    simp at hx
  obtain ⟨ad, e, hf, hcell⟩ := h hne
  injection e with e
  subst e
  refine ⟨_, rfl, hf, fun j u hu => ?_⟩
  rw [refs_drop, List.getElem?_drop] at hu
  have := hcell _ u hu
  rw [add_plain] at this ⊢
  rw [Nat.add_assoc]
  exact this

set_option maxRecDepth 100000 in
set_option maxHeartbeats 2000000 in
theorem lof_any (F : Nat → Prop) (A : Option Addr) (n c : Nat) (f kd : Int) (L : List RefV) (w : World) (h : Lies w F A (refCells L)) (hl : L.length = n) (hn : n ≤ 1000000) :
    Calls Try.prog 14 #[.agg #[.slice A n c, .int .i64 f], .int .i64 kd] w fun e w' => ∃ A' c', e = .returned (.slice A' (ordK kd L).length c') ∧ w'.ownsRow w.heap.size 37 4 (.slice A' (ordK kd L).length c') (ordK kd L).length (refCells (ordK kd L)) ∧ Kept noBlock w w' := by
  have ka := Kept.alloc noBlock w (.cells #[.slice A n c, .int .i64 f] 27)
  have hb := heap_alloc_new w (.cells #[.slice A n c, .int .i64 f] 27)
  have H := Lib.hid (h.keep ka (fun _ _ h => h))
  have K1 := Lib.hid ka
  obtain ⟨c0, c1⟩ := pair_cells hb
  have HL := Lib.hid hl
  clear h hl ka hb
  go_enter Try.func14, Try.ntmps14
  go_upto_region 2 with (fail)
  generalize w.alloc (.cells #[.slice A n c, .int .i64 f] 27) = w1 at H K1 c0 c1 ⊢
  go_wp2_with fail
  clear c0 c1
  go_loopw [5, 12] (fun v i wr => ∃ (j m : Nat) (A' : Option Addr) (c' : Nat), j ≤ n ∧ m ≤ j ∧ m ≤ c' ∧ v = .slice A' m c' ∧ i = .int .i64 (j : Int) ∧ Hid (m = (ordK kd (L.take j)).length) ∧ Hid (wr.ownsRow w1.heap.size 37 4 (.slice A' m c') m (refCells (ordK kd (L.take j)))) ∧ Hid (Kept noBlock w1 wr)) (fun _ i _ => n - (intOf i).toNat)
  case atStart => exact ⟨0, 0, none, 0, by omega, by omega, by omega, rfl, rfl, rfl, World.ownsRow_nil _ _ _ _, Kept.refl _ _⟩
  case round =>
    obtain ⟨j, m, A', c', hjn, hmj, hmc, rfl, rfl, HM, HO, HK1⟩ := hrel
    by_cases hlt : j < n
    · have hdec : decide ((j : Int) < (n : Int)) = true := decide_eq_true (by omega)
      obtain ⟨x, hx⟩ : ∃ x, L[j]? = some x := ⟨_, List.getElem?_eq_getElem (by have := HL.out; omega)⟩
      obtain ⟨g, o, rfl, _, cc⟩ := (H.out.keep HK1.out (fun _ _ h => h)).elem (enc := RefV.cells) ref_len (by omega) hx
      have e0 := cc 0 _ rfl
      have e1 := cc 1 _ rfl
      have e2 := cc 2 _ rfl
      have e3 := cc 3 _ rfl
      rw [Nat.add_zero] at e0
      have ST := Lib.hid (ofK_step (kd := kd) hx)
      clear hx cc
      go_upto_region 5 with (fail)
      have k3 := Kept.alloc noBlock wr (.cells #[.string x.name, .int .i64 x.kind, .int .i64 x.from_, .int .i64 x.to_] 37)
      have b3 := heap_alloc_new wr (.cells #[.string x.name, .int .i64 x.kind, .int .i64 x.from_, .int .i64 x.to_] 37)
      obtain ⟨C, hC⟩ : ∃ C, C = wr.heap.size := ⟨_, rfl⟩
      rw [← hC] at b3 ⊢
      generalize wr.alloc (.cells #[.string x.name, .int .i64 x.kind, .int .i64 x.from_, .int .i64 x.to_] 37) = w3 at k3 b3 ⊢
      obtain ⟨d0, d1, d2, d3⟩ := ref_cells b3
      have K3 := Lib.hid (HK1.out.step k3)
      have OL := Lib.hid (own_keep HO.out k3 (fun _ _ h => h))
      have HB3 := Lib.hid b3
      clear e0 e1 e2 e3 k3 b3 hC
      by_cases hkd : x.kind = kd
      · have hbq : (x.kind != kd) = false := by simpa using hkd
        have HS : Hid (ordK kd (L.take (j + 1)) = (insR x (ordK kd (L.take j)).reverse).reverse) := by unfold Hid ordK; rw [ST.out, if_pos hkd, ordV_snoc]
        obtain ⟨es, hes⟩ : ∃ es, es = ordK kd (L.take j) := ⟨_, rfl⟩
        rw [← hes] at HO HM HS OL
        have HLE := Lib.hid (Lies.of_rows (F := fun i => w1.heap.size ≤ i) OL.out (fun i hi => (OL.out.lt i hi).1))
        clear hkd hes HO
        obtain ⟨w0, hw0⟩ : ∃ w0, w0 = w3 := ⟨_, rfl⟩
        go_upto_region 7 with (fail)
        go_loopw [8] (fun v wr => ∃ p : Nat, p ≤ m ∧ v = .int .i64 (p : Int) ∧ Hid (∀ (q : Nat) (e : RefV), p ≤ q → es[q]? = some e → ltR x e = true) ∧ Hid (Kept noBlock w3 wr)) (fun v _ => (intOf v).toNat)
        case atStart => exact ⟨m, by omega, rfl, fun q e hq he => by have := (List.getElem?_eq_some_iff.1 he).1; have := HM.out; omega, Kept.refl _ _⟩
        case round =>
          obtain ⟨p, hpm, rfl, HQ, HKp⟩ := hrel
          obtain ⟨w4, hw4⟩ : ∃ w4, w4 = wr := ⟨_, rfl⟩
          rw [← hw4] at HKp ⊢
          clear hw4
          obtain ⟨gb, hgb⟩ : ∃ gb : Bool, gb = pastB x es p := ⟨_, rfl⟩
          have HGB := Lib.hid hgb
          obtain ⟨d0, d1, d2, d3⟩ := ref_cells (HKp.out.blk HB3.out (fun h => h))
          clear hgb
          go_upto_region 7 with (fail)
          go_cut [56] (fun y wc => y = .bool gb ∧ Kept noBlock w4 wc)
          case first =>
            cases p with
            | zero =>
              have hg0 : decide ((0 : Int) < ((0 : Nat) : Int)) = false := rfl
              go_quiet (fail)
              go_wp2_with fail
              go_meet
              exact ⟨by rw [HGB.out]; rfl, Kept.drewN _ _ _⟩
            | succ q =>
              obtain ⟨y, hy⟩ : ∃ y, es[q]? = some y := ⟨_, List.getElem?_eq_getElem (by have := HM.out; omega)⟩
              obtain ⟨g2, o2, rfl, _, dd⟩ := (HLE.out.keep HKp.out (fun _ _ h => h)).elem (enc := RefV.cells) ref_len (by omega) hy
              have y2 := dd 2 _ rfl
              have y3 := dd 3 _ rfl
              have hgv : gb = ltR x y := by rw [HGB.out, pastB, hy]; rfl
              have hpos : decide ((0 : Int) < ((q + 1 : Nat) : Int)) = true := decide_eq_true (by omega)
              have hq1 : ((q + 1 : Nat) : Int) - 1 = (q : Int) := by omega
              clear dd hy
              by_cases h1 : x.from_ < y.from_
              · have hb1 : decide (x.from_ < y.from_) = true := decide_eq_true h1
                have hg1 : gb = true := by rw [hgv, ltR_iff]; exact .inl h1
                clear h1 hgv
                subst hg1
                go_quiet (fail)
                go_wp2_with fail
                go_meet
                exact ⟨by first | rfl | simp, Kept.drewN _ _ _⟩
              · have hb1 : decide (x.from_ < y.from_) = false := decide_eq_false h1
                by_cases h2 : y.from_ = x.from_
                · have hb2 : (y.from_ == x.from_) = true := by simpa using h2
                  have hg1 : gb = decide (x.to_ < y.to_) := by
                    rw [hgv]
                    by_cases h3 : x.to_ < y.to_
                    · rw [decide_eq_true h3, ltR_iff]; exact .inr ⟨h2.symm, h3⟩
                    · rw [decide_eq_false h3, ltR_false]; exact .inr ⟨h2.symm, by omega⟩
                  clear h1 h2 hgv
                  subst hg1
                  go_quiet (fail)
                  go_wp2_with fail
                  go_meet
                  exact ⟨by first | rfl | simp, Kept.drewN _ _ _⟩
                · have hb2 : (y.from_ == x.from_) = false := by simpa using h2
                  have hg1 : gb = false := by rw [hgv, ltR_false]; exact .inl (by omega)
                  clear h1 h2 hgv
                  subst hg1
                  go_quiet (fail)
                  go_wp2_with fail
                  go_meet
                  exact ⟨by first | rfl | simp, Kept.drewN _ _ _⟩
          case rest =>
            obtain ⟨rfl, kc⟩ := hcut
            have K5 := Lib.hid (HKp.out.step kc)
            obtain ⟨w5, hw5⟩ : ∃ w5, w5 = wc := ⟨_, rfl⟩
            rw [← hw5] at K5 ⊢
            clear kc hw5 d0 d1 d2 d3
            cases gb with
            | true =>
              cases p with
              | zero => exact absurd HGB.out (by simp [pastB])
              | succ q =>
                have HQ9 : Hid (∀ (q' : Nat) (e : RefV), q ≤ q' → es[q']? = some e → ltR x e = true) := by
                  intro q' e hq he
                  rcases Nat.eq_or_lt_of_le hq with rfl | hq
                  · have := HGB.out
                    rw [pastB, he] at this
                    exact this.symm
                  · exact HQ.out q' e hq he
                have hq1 : ((q + 1 : Nat) : Int) - 1 = (q : Int) := by omega
                go_wp2
                go_roundw
                case rel => exact ⟨q, by omega, by go_num, HQ9, K5⟩
                case measure => simp [intOf]
            | false =>
              have HS9 : Hid (ordK kd (L.take (j + 1)) = es.take p ++ x :: es.drop p) := by
                unfold Hid
                rw [HS.out]
                refine ins_place x es p (by have := HM.out; omega) HQ.out fun q e hq he => ?_
                subst hq
                have := HGB.out
                rw [pastB, he] at this
                exact this.symm
              have O5 := Lib.hid (own_keep OL.out K5.out (fun _ _ h => h))
              have HB5 := Lib.hid (K5.out.blk HB3.out (fun h => h))
              have LT := Lib.hid (lies_take (HLE.out.keep K5.out (fun _ _ h => h)) p)
              have HTL : Hid ((es.take p).length = p) := by unfold Hid; rw [List.length_take]; have := HM.out; omega
              have HDL : Hid ((es.drop p).length = m - p) := by unfold Hid; rw [List.length_drop]; have := HM.out; omega
              have KC : Hid (Kept noBlock w5 w5.drew) := Kept.drew _ _
              have CE : Hid (∀ u, Kept noBlock w5 u → u.cell? ⟨C, 0, none⟩ = some (.string x.name) ∧ u.cell? ⟨C, 1, none⟩ = some (.int .i64 x.kind) ∧ u.cell? ⟨C, 2, none⟩ = some (.int .i64 x.from_) ∧ u.cell? ⟨C, 3, none⟩ = some (.int .i64 x.to_)) := fun u ku => ref_cells (ku.blk HB5.out (fun h => h))
              by_cases hcp : c' = p
              · have hmp : m = p := by omega
                subst hcp
                subst hmp
                go_upto_region 9 with (fail)
                refine wp_region_noPanic ?_
                refine wp_region_held_drew (S := fun u => u.cell? ⟨C, 0, none⟩ = some (.string x.name) ∧ u.cell? ⟨C, 1, none⟩ = some (.int .i64 x.kind) ∧ u.cell? ⟨C, 2, none⟩ = some (.int .i64 x.from_) ∧ u.cell? ⟨C, 3, none⟩ = some (.int .i64 x.to_)) (by kernel_rfl) (CE.out _ KC.out) (fun hHeld => ?_)
                refine wpAnyH_take (i := 0) (oi := ⟨some 59, Op.move (Operand.tmp 5), 25, _, _, none⟩) (v := ?v0n1k1) rfl (by kernel_rfl) (by kernel_rfl) (by kernel_rfl) (fun _ _ _ h => h) (Or.inl ⟨by rfl, ?y0n1k1⟩) hHeld ?z0n1k1
                case y0n1k1 => intro w hSw; (try dsimp only at hSw); go_simp <;> rfl
                try simp only [Act.put, List.setIfInBounds_toArray, List.set_cons_zero, List.set_cons_succ]
                refine wpAnyH_take (i := 1) (oi := ⟨some 60, Op.move (Operand.tmp 8), 3, _, _, none⟩) (v := ?v1n1k2) rfl (by kernel_rfl) (by kernel_rfl) (by kernel_rfl) (fun _ _ _ h => h) (Or.inl ⟨by rfl, ?y1n1k2⟩) hHeld ?z1n1k2
                case y1n1k2 => intro w hSw; (try dsimp only at hSw); go_simp <;> rfl
                try simp only [Act.put, List.setIfInBounds_toArray, List.set_cons_zero, List.set_cons_succ]
                refine wpAnyH_take (i := 2) (oi := ⟨some 61, Op.slice 25 (Operand.tmp 59) none (some (Operand.tmp 60)) none, 25, _, _, none⟩) (v := ?v2n1k3) rfl (by kernel_rfl) (by kernel_rfl) (by kernel_rfl) (fun _ _ _ h => h) (Or.inl ⟨by rfl, ?y2n1k3⟩) hHeld ?z2n1k3
                case y2n1k3 => intro w hSw; (try dsimp only at hSw); go_simp <;> rfl
                try simp only [Act.put, List.setIfInBounds_toArray, List.set_cons_zero, List.set_cons_succ]
                refine wpAnyH_take (i := 4) (oi := ⟨some 63, Op.load 37 (Operand.tmp 7), 37, _, _, none⟩) (v := ?v4n1k4) rfl (by kernel_rfl) (by kernel_rfl) (by kernel_rfl) (fun _ _ _ h => h) (Or.inl ⟨by rfl, ?y4n1k4⟩) hHeld ?z4n1k4
                case y4n1k4 => intro w hSw; (try dsimp only at hSw); go_simp <;> rfl
                try simp only [Act.put, List.setIfInBounds_toArray, List.set_cons_zero, List.set_cons_succ]
                refine wpAnyH_take (i := 7) (oi := ⟨some 66, Op.move (Operand.tmp 5), 25, _, _, none⟩) (v := ?v7n1k5) rfl (by kernel_rfl) (by kernel_rfl) (by kernel_rfl) (fun _ _ _ h => h) (Or.inl ⟨by rfl, ?y7n1k5⟩) hHeld ?z7n1k5
                case y7n1k5 => intro w hSw; (try dsimp only at hSw); go_simp <;> rfl
                try simp only [Act.put, List.setIfInBounds_toArray, List.set_cons_zero, List.set_cons_succ]
                refine wpAnyH_take (i := 8) (oi := ⟨some 67, Op.move (Operand.tmp 8), 3, _, _, none⟩) (v := ?v8n1k6) rfl (by kernel_rfl) (by kernel_rfl) (by kernel_rfl) (fun _ _ _ h => h) (Or.inl ⟨by rfl, ?y8n1k6⟩) hHeld ?z8n1k6
                case y8n1k6 => intro w hSw; (try dsimp only at hSw); go_simp <;> rfl
                try simp only [Act.put, List.setIfInBounds_toArray, List.set_cons_zero, List.set_cons_succ]
                refine wpAnyH_take (i := 9) (oi := ⟨some 68, Op.slice 25 (Operand.tmp 66) (some (Operand.tmp 67)) none none, 25, _, _, none⟩) (v := ?v9n1k7) rfl (by kernel_rfl) (by kernel_rfl) (by kernel_rfl) (fun _ _ _ h => h) (Or.inl ⟨by rfl, ?y9n1k7⟩) hHeld ?z9n1k7
                case y9n1k7 => intro w hSw; (try dsimp only at hSw); go_simp <;> rfl
                try simp only [Act.put, List.setIfInBounds_toArray, List.set_cons_zero, List.set_cons_succ]
                refine wpAnyH_ready (rs := [3, 5]) (by kernel_rfl) (by simp) ?_
                refine (AllReadyH.cons (o := ⟨some 62, Op.call { callee := Callee.builtin Builtin.append, args := #[Operand.const (Value.slice none 0 0), Operand.tmp 61], argTypes := #[25, 25] }, 25, _, _, none⟩) rfl (fun K hK => ?b3n1k9) (AllReadyH.cons (o := ⟨some 64, Op.buildSlice 25 1 #[(0, Operand.tmp 63)], 25, _, _, none⟩) rfl (fun K hK => ?b5n1k8) AllReadyH.nil))
                case b3n1k9 =>
                  refine step_append_src rfl (.const (.slice none 0 0)) (.tmp 61) 25 25 rfl 37 noRef.val 4 40 Try.underlying25 Try.infoRef rfl (.slice none 0 0) 0 [] rfl (World.ownsRow_nil _ _ _ _) _ m (refCells (es.take m)) rfl (src_sl (LT.out.keep KC.out (fun _ _ h => h)) (by rw [refCells_length, HTL.out]) (one_refs _)) (by unfold maxLen; omega) (by omega) ?_
                  intro A3 c3 u3 o3 k3 a3
                  simp only [Nat.zero_add, List.nil_append] at o3 a3 ⊢
                  have k3' : Kept noBlock _ u3 := k3.mono (fun i _ h => by simp [Value.ownBlock] at h)
                  have RB3 : Hid (∀ i, (Value.slice A3 m c3).ownBlock = some i → w5.heap.size ≤ i) := fun i hi => by
                    rcases a3 i hi with h | h
                    · simp [Value.ownBlock] at h
                    · exact Nat.le_trans KC.out.size h.1
                  have R3 := Lib.hid o3
                  (try replace HB8 := Lib.hid (k3'.blk HB8.out (fun h => h)))
                  replace KC := Lib.hid (KC.out.step k3')
                  clear o3 k3 a3 k3'
                  refine hK.out _ _ (CE.out _ KC.out) (fun hHeld => ?_)
                  clear hK K
                  try simp only [Act.put, List.setIfInBounds_toArray, List.set_cons_zero, List.set_cons_succ]
                  refine wpAnyH_ready (rs := [5]) (by kernel_rfl) (by simp) ?_
                  refine AllReadyH.cons (o := ⟨some 64, Op.buildSlice 25 1 #[(0, Operand.tmp 63)], 25, _, _, none⟩) rfl (fun K hK => ?_) AllReadyH.nil
                  refine step_oneR x rfl ?_
                  intro B8 u8 k8 h8 hB8
                  have HB8 := Lib.hid h8
                  (try replace R3 := Lib.hid (own_keep R3.out k8 (fun _ _ h => h)))
                  replace KC := Lib.hid (KC.out.step k8)
                  clear k8 h8 hB8
                  refine hK.out _ _ (CE.out _ KC.out) (fun hHeld => ?_)
                  clear hK K
                  try simp only [Act.put, List.setIfInBounds_toArray, List.set_cons_zero, List.set_cons_succ]
                  refine wpAnyH_ready (rs := [6]) (by kernel_rfl) (by simp) ?_
                  refine AllReadyH.cons (o := ⟨some 65, Op.call { callee := Callee.builtin Builtin.append, args := #[Operand.tmp 62, Operand.tmp 64], argTypes := #[25, 25] }, 25, _, _, none⟩) rfl (fun K hK => ?_) AllReadyH.nil
                  refine step_append_src rfl (.tmp 62) (.tmp 64) 25 25 rfl 37 noRef.val 4 40 Try.underlying25 Try.infoRef rfl (.slice A3 m c3) m (refCells (es.take m)) rfl R3.out _ 1 (refCells [x]) rfl (src_ref x HB8.out) (by unfold maxLen; omega) (by omega) ?_
                  intro A6 c6 u6 o6 k6 a6
                  have RB6 : Hid (∀ i, (Value.slice A6 (m + 1) c6).ownBlock = some i → w5.heap.size ≤ i) := fun i hi => by
                    rcases a6 i hi with h | h
                    · exact RB3.out i h
                    · exact Nat.le_trans KC.out.size h.1
                  have R6 := Lib.hid o6
                  replace KC : Hid (Kept noBlock w5 u6) := KC.out.trans k6 (fun i hi e => by have := RB3.out i e; omega)
                  clear o6 k6 a6 R3 RB3
                  refine hK.out _ _ (CE.out _ KC.out) (fun hHeld => ?_)
                  clear hK K
                  try simp only [Act.put, List.setIfInBounds_toArray, List.set_cons_zero, List.set_cons_succ]
                  refine wpAnyH_ready (rs := [10]) (by kernel_rfl) (by simp) ?_
                  refine AllReadyH.cons (o := ⟨some 69, Op.call { callee := Callee.builtin Builtin.append, args := #[Operand.tmp 65, Operand.tmp 68], argTypes := #[25, 25] }, 25, _, _, none⟩) rfl (fun K hK => ?_) AllReadyH.nil
                  refine step_append_src rfl (.tmp 65) (.tmp 68) 25 25 rfl 37 noRef.val 4 40 Try.underlying25 Try.infoRef rfl (.slice A6 (m + 1) c6) (m + 1) (refCells (es.take m) ++ refCells [x]) rfl R6.out _ 0 (refCells (es.drop m)) rfl (src_sl (F := fun _ => True) (by rw [List.drop_eq_nil_of_le (by have := HM.out; omega)]; exact Lies.nil _ _ _) (by rw [List.drop_eq_nil_of_le (by have := HM.out; omega)]; rfl) (one_refs _)) (by unfold maxLen; omega) (by omega) ?_
                  intro A10 c10 u10 o10 k10 a10
                  have RB10 : Hid (∀ i, (Value.slice A10 (m + 1) c10).ownBlock = some i → w5.heap.size ≤ i) := fun i hi => by
                    rcases a10 i hi with h | h
                    · exact RB6.out i h
                    · exact Nat.le_trans KC.out.size h.1
                  have R10 := Lib.hid o10
                  replace KC : Hid (Kept noBlock w5 u10) := KC.out.trans k10 (fun i hi e => by have := RB6.out i e; omega)
                  have hc10 : m + 1 ≤ c10 := by
                    obtain ⟨_, _, e9, hle9⟩ := own_form o10
                    injection e9 with _ _ e9
                    omega
                  clear o10 k10 a10 R6 RB6
                  refine hK.out _ _ (CE.out _ KC.out) (fun hHeld => ?_)
                  clear hK K
                  try simp only [Act.put, List.setIfInBounds_toArray, List.set_cons_zero, List.set_cons_succ]
                  refine wpAnyH_take (i := 11) (oi := ⟨some 5, Op.assign (Operand.tmp 69), 25, _, _, none⟩) (v := ?v11n1k10) rfl (by kernel_rfl) (by kernel_rfl) (by kernel_rfl) (fun _ _ _ h => h) (Or.inl ⟨by rfl, ?y11n1k10⟩) hHeld ?z11n1k10
                  case y11n1k10 => intro w hSw; (try dsimp only at hSw); go_simp <;> rfl
                  try simp only [Act.put, List.setIfInBounds_toArray, List.set_cons_zero, List.set_cons_succ]
                  refine wpAnyH_done (by kernel_rfl) ?_ _
                  refine NoPanic.normal ?_
                  clear hHeld
                  have HLEN : Hid (m + 1 = (ordK kd (L.take (j + 1))).length) := by unfold Hid; rw [HS9.out, List.length_append, List.length_cons, HTL.out, HDL.out]; omega
                  have HROW : Hid (u10.ownsRow w1.heap.size 37 4 (.slice A10 (m + 1) c10) (m + 1) (refCells (ordK kd (L.take (j + 1))))) := by
                    unfold Hid
                    have e : refCells (ordK kd (L.take (j + 1))) = refCells (es.take m) ++ refCells [x] ++ refCells (es.drop m) := by
                      rw [HS9.out, ← refCells_append, ← refCells_append]
                      simp
                    rw [e]
                    exact own_base R10.out (fun i hi => Nat.le_trans (K3.out.step K5.out).size (RB10.out i hi))
                  have KE := Lib.hid (K3.out.step (K5.out.step KC.out))
                  go_wp2
                  go_roundw
                  case rel => exact ⟨j + 1, m + 1, A10, c10, by omega, by omega, hc10, rfl, by go_num, HLEN, HROW, KE⟩
                  case measure => simp [intOf]; omega
                case b5n1k8 =>
                  refine step_oneR x rfl ?_
                  intro B8 u8 k8 h8 hB8
                  have HB8 := Lib.hid h8
                  (try replace R3 := Lib.hid (own_keep R3.out k8 (fun _ _ h => h)))
                  replace KC := Lib.hid (KC.out.step k8)
                  clear k8 h8 hB8
                  refine hK.out _ _ (CE.out _ KC.out) (fun hHeld => ?_)
                  clear hK K
                  try simp only [Act.put, List.setIfInBounds_toArray, List.set_cons_zero, List.set_cons_succ]
                  refine wpAnyH_ready (rs := [3]) (by kernel_rfl) (by simp) ?_
                  refine AllReadyH.cons (o := ⟨some 62, Op.call { callee := Callee.builtin Builtin.append, args := #[Operand.const (Value.slice none 0 0), Operand.tmp 61], argTypes := #[25, 25] }, 25, _, _, none⟩) rfl (fun K hK => ?_) AllReadyH.nil
                  refine step_append_src rfl (.const (.slice none 0 0)) (.tmp 61) 25 25 rfl 37 noRef.val 4 40 Try.underlying25 Try.infoRef rfl (.slice none 0 0) 0 [] rfl (World.ownsRow_nil _ _ _ _) _ m (refCells (es.take m)) rfl (src_sl (LT.out.keep KC.out (fun _ _ h => h)) (by rw [refCells_length, HTL.out]) (one_refs _)) (by unfold maxLen; omega) (by omega) ?_
                  intro A3 c3 u3 o3 k3 a3
                  simp only [Nat.zero_add, List.nil_append] at o3 a3 ⊢
                  have k3' : Kept noBlock _ u3 := k3.mono (fun i _ h => by simp [Value.ownBlock] at h)
                  have RB3 : Hid (∀ i, (Value.slice A3 m c3).ownBlock = some i → w5.heap.size ≤ i) := fun i hi => by
                    rcases a3 i hi with h | h
                    · simp [Value.ownBlock] at h
                    · exact Nat.le_trans KC.out.size h.1
                  have R3 := Lib.hid o3
                  (try replace HB8 := Lib.hid (k3'.blk HB8.out (fun h => h)))
                  replace KC := Lib.hid (KC.out.step k3')
                  clear o3 k3 a3 k3'
                  refine hK.out _ _ (CE.out _ KC.out) (fun hHeld => ?_)
                  clear hK K
                  try simp only [Act.put, List.setIfInBounds_toArray, List.set_cons_zero, List.set_cons_succ]
                  refine wpAnyH_ready (rs := [6]) (by kernel_rfl) (by simp) ?_
                  refine AllReadyH.cons (o := ⟨some 65, Op.call { callee := Callee.builtin Builtin.append, args := #[Operand.tmp 62, Operand.tmp 64], argTypes := #[25, 25] }, 25, _, _, none⟩) rfl (fun K hK => ?_) AllReadyH.nil
                  refine step_append_src rfl (.tmp 62) (.tmp 64) 25 25 rfl 37 noRef.val 4 40 Try.underlying25 Try.infoRef rfl (.slice A3 m c3) m (refCells (es.take m)) rfl R3.out _ 1 (refCells [x]) rfl (src_ref x HB8.out) (by unfold maxLen; omega) (by omega) ?_
                  intro A6 c6 u6 o6 k6 a6
                  have RB6 : Hid (∀ i, (Value.slice A6 (m + 1) c6).ownBlock = some i → w5.heap.size ≤ i) := fun i hi => by
                    rcases a6 i hi with h | h
                    · exact RB3.out i h
                    · exact Nat.le_trans KC.out.size h.1
                  have R6 := Lib.hid o6
                  replace KC : Hid (Kept noBlock w5 u6) := KC.out.trans k6 (fun i hi e => by have := RB3.out i e; omega)
                  clear o6 k6 a6 R3 RB3
                  refine hK.out _ _ (CE.out _ KC.out) (fun hHeld => ?_)
                  clear hK K
                  try simp only [Act.put, List.setIfInBounds_toArray, List.set_cons_zero, List.set_cons_succ]
                  refine wpAnyH_ready (rs := [10]) (by kernel_rfl) (by simp) ?_
                  refine AllReadyH.cons (o := ⟨some 69, Op.call { callee := Callee.builtin Builtin.append, args := #[Operand.tmp 65, Operand.tmp 68], argTypes := #[25, 25] }, 25, _, _, none⟩) rfl (fun K hK => ?_) AllReadyH.nil
                  refine step_append_src rfl (.tmp 65) (.tmp 68) 25 25 rfl 37 noRef.val 4 40 Try.underlying25 Try.infoRef rfl (.slice A6 (m + 1) c6) (m + 1) (refCells (es.take m) ++ refCells [x]) rfl R6.out _ 0 (refCells (es.drop m)) rfl (src_sl (F := fun _ => True) (by rw [List.drop_eq_nil_of_le (by have := HM.out; omega)]; exact Lies.nil _ _ _) (by rw [List.drop_eq_nil_of_le (by have := HM.out; omega)]; rfl) (one_refs _)) (by unfold maxLen; omega) (by omega) ?_
                  intro A10 c10 u10 o10 k10 a10
                  have RB10 : Hid (∀ i, (Value.slice A10 (m + 1) c10).ownBlock = some i → w5.heap.size ≤ i) := fun i hi => by
                    rcases a10 i hi with h | h
                    · exact RB6.out i h
                    · exact Nat.le_trans KC.out.size h.1
                  have R10 := Lib.hid o10
                  replace KC : Hid (Kept noBlock w5 u10) := KC.out.trans k10 (fun i hi e => by have := RB6.out i e; omega)
                  have hc10 : m + 1 ≤ c10 := by
                    obtain ⟨_, _, e9, hle9⟩ := own_form o10
                    injection e9 with _ _ e9
                    omega
                  clear o10 k10 a10 R6 RB6
                  refine hK.out _ _ (CE.out _ KC.out) (fun hHeld => ?_)
                  clear hK K
                  try simp only [Act.put, List.setIfInBounds_toArray, List.set_cons_zero, List.set_cons_succ]
                  refine wpAnyH_take (i := 11) (oi := ⟨some 5, Op.assign (Operand.tmp 69), 25, _, _, none⟩) (v := ?v11n1k11) rfl (by kernel_rfl) (by kernel_rfl) (by kernel_rfl) (fun _ _ _ h => h) (Or.inl ⟨by rfl, ?y11n1k11⟩) hHeld ?z11n1k11
                  case y11n1k11 => intro w hSw; (try dsimp only at hSw); go_simp <;> rfl
                  try simp only [Act.put, List.setIfInBounds_toArray, List.set_cons_zero, List.set_cons_succ]
                  refine wpAnyH_done (by kernel_rfl) ?_ _
                  refine NoPanic.normal ?_
                  clear hHeld
                  have HLEN : Hid (m + 1 = (ordK kd (L.take (j + 1))).length) := by unfold Hid; rw [HS9.out, List.length_append, List.length_cons, HTL.out, HDL.out]; omega
                  have HROW : Hid (u10.ownsRow w1.heap.size 37 4 (.slice A10 (m + 1) c10) (m + 1) (refCells (ordK kd (L.take (j + 1))))) := by
                    unfold Hid
                    have e : refCells (ordK kd (L.take (j + 1))) = refCells (es.take m) ++ refCells [x] ++ refCells (es.drop m) := by
                      rw [HS9.out, ← refCells_append, ← refCells_append]
                      simp
                    rw [e]
                    exact own_base R10.out (fun i hi => Nat.le_trans (K3.out.step K5.out).size (RB10.out i hi))
                  have KE := Lib.hid (K3.out.step (K5.out.step KC.out))
                  go_wp2
                  go_roundw
                  case rel => exact ⟨j + 1, m + 1, A10, c10, by omega, by omega, hc10, rfl, by go_num, HLEN, HROW, KE⟩
                  case measure => simp [intOf]; omega
              · have hA : ∃ g2, A' = some ⟨g2, 0, none⟩ := by
                  rcases O5.out.2 with ⟨e, _⟩ | ⟨g2, cap, cur, e, _⟩
                  · injection e with e1 e2 e3
                    omega
                  · injection e with e1
                    exact ⟨g2, e1⟩
                obtain ⟨g2, rfl⟩ := hA
                have hpc : p ≤ c' := by omega
                have hpci : (p : Int) ≤ (c' : Int) := by omega
                have hld := lies_drop (HLE.out.keep K5.out (fun _ _ h => h)) p
                rw [Nat.zero_add] at hld
                have LD := Lib.hid hld
                clear hld
                go_upto_region 9 with (fail)
                refine wp_region_noPanic ?_
                refine wp_region_held_drew (S := fun u => u.cell? ⟨C, 0, none⟩ = some (.string x.name) ∧ u.cell? ⟨C, 1, none⟩ = some (.int .i64 x.kind) ∧ u.cell? ⟨C, 2, none⟩ = some (.int .i64 x.from_) ∧ u.cell? ⟨C, 3, none⟩ = some (.int .i64 x.to_)) (by kernel_rfl) (CE.out _ KC.out) (fun hHeld => ?_)
                refine wpAnyH_take (i := 0) (oi := ⟨some 59, Op.move (Operand.tmp 5), 25, _, _, none⟩) (v := ?v0n2k1) rfl (by kernel_rfl) (by kernel_rfl) (by kernel_rfl) (fun _ _ _ h => h) (Or.inl ⟨by rfl, ?y0n2k1⟩) hHeld ?z0n2k1
                case y0n2k1 => intro w hSw; (try dsimp only at hSw); go_simp <;> rfl
                try simp only [Act.put, List.setIfInBounds_toArray, List.set_cons_zero, List.set_cons_succ]
                refine wpAnyH_take (i := 1) (oi := ⟨some 60, Op.move (Operand.tmp 8), 3, _, _, none⟩) (v := ?v1n2k2) rfl (by kernel_rfl) (by kernel_rfl) (by kernel_rfl) (fun _ _ _ h => h) (Or.inl ⟨by rfl, ?y1n2k2⟩) hHeld ?z1n2k2
                case y1n2k2 => intro w hSw; (try dsimp only at hSw); go_simp <;> rfl
                try simp only [Act.put, List.setIfInBounds_toArray, List.set_cons_zero, List.set_cons_succ]
                refine wpAnyH_take (i := 2) (oi := ⟨some 61, Op.slice 25 (Operand.tmp 59) none (some (Operand.tmp 60)) none, 25, _, _, none⟩) (v := ?v2n2k3) rfl (by kernel_rfl) (by kernel_rfl) (by kernel_rfl) (fun _ _ _ h => h) (Or.inl ⟨by rfl, ?y2n2k3⟩) hHeld ?z2n2k3
                case y2n2k3 => intro w hSw; (try dsimp only at hSw); go_simp <;> rfl
                try simp only [Act.put, List.setIfInBounds_toArray, List.set_cons_zero, List.set_cons_succ]
                refine wpAnyH_take (i := 4) (oi := ⟨some 63, Op.load 37 (Operand.tmp 7), 37, _, _, none⟩) (v := ?v4n2k4) rfl (by kernel_rfl) (by kernel_rfl) (by kernel_rfl) (fun _ _ _ h => h) (Or.inl ⟨by rfl, ?y4n2k4⟩) hHeld ?z4n2k4
                case y4n2k4 => intro w hSw; (try dsimp only at hSw); go_simp <;> rfl
                try simp only [Act.put, List.setIfInBounds_toArray, List.set_cons_zero, List.set_cons_succ]
                refine wpAnyH_take (i := 7) (oi := ⟨some 66, Op.move (Operand.tmp 5), 25, _, _, none⟩) (v := ?v7n2k5) rfl (by kernel_rfl) (by kernel_rfl) (by kernel_rfl) (fun _ _ _ h => h) (Or.inl ⟨by rfl, ?y7n2k5⟩) hHeld ?z7n2k5
                case y7n2k5 => intro w hSw; (try dsimp only at hSw); go_simp <;> rfl
                try simp only [Act.put, List.setIfInBounds_toArray, List.set_cons_zero, List.set_cons_succ]
                refine wpAnyH_take (i := 8) (oi := ⟨some 67, Op.move (Operand.tmp 8), 3, _, _, none⟩) (v := ?v8n2k6) rfl (by kernel_rfl) (by kernel_rfl) (by kernel_rfl) (fun _ _ _ h => h) (Or.inl ⟨by rfl, ?y8n2k6⟩) hHeld ?z8n2k6
                case y8n2k6 => intro w hSw; (try dsimp only at hSw); go_simp <;> rfl
                try simp only [Act.put, List.setIfInBounds_toArray, List.set_cons_zero, List.set_cons_succ]
                refine wpAnyH_take (i := 9) (oi := ⟨some 68, Op.slice 25 (Operand.tmp 66) (some (Operand.tmp 67)) none none, 25, _, _, none⟩) (v := ?v9n2k7) rfl (by kernel_rfl) (by kernel_rfl) (by kernel_rfl) (fun _ _ _ h => h) (Or.inl ⟨by rfl, ?y9n2k7⟩) hHeld ?z9n2k7
                case y9n2k7 => intro w hSw; (try dsimp only at hSw); go_simp <;> rfl
                try simp only [Act.put, List.setIfInBounds_toArray, List.set_cons_zero, List.set_cons_succ]
                refine wpAnyH_ready (rs := [3, 5]) (by kernel_rfl) (by simp) ?_
                refine (AllReadyH.cons (o := ⟨some 62, Op.call { callee := Callee.builtin Builtin.append, args := #[Operand.const (Value.slice none 0 0), Operand.tmp 61], argTypes := #[25, 25] }, 25, _, _, none⟩) rfl (fun K hK => ?b3n2k9) (AllReadyH.cons (o := ⟨some 64, Op.buildSlice 25 1 #[(0, Operand.tmp 63)], 25, _, _, none⟩) rfl (fun K hK => ?b5n2k8) AllReadyH.nil))
                case b3n2k9 =>
                  refine step_append_src rfl (.const (.slice none 0 0)) (.tmp 61) 25 25 rfl 37 noRef.val 4 40 Try.underlying25 Try.infoRef rfl (.slice none 0 0) 0 [] rfl (World.ownsRow_nil _ _ _ _) _ p (refCells (es.take p)) rfl (src_sl (LT.out.keep KC.out (fun _ _ h => h)) (by rw [refCells_length, HTL.out]) (one_refs _)) (by unfold maxLen; omega) (by omega) ?_
                  intro A3 c3 u3 o3 k3 a3
                  simp only [Nat.zero_add, List.nil_append] at o3 a3 ⊢
                  have k3' : Kept noBlock _ u3 := k3.mono (fun i _ h => by simp [Value.ownBlock] at h)
                  have RB3 : Hid (∀ i, (Value.slice A3 p c3).ownBlock = some i → w5.heap.size ≤ i) := fun i hi => by
                    rcases a3 i hi with h | h
                    · simp [Value.ownBlock] at h
                    · exact Nat.le_trans KC.out.size h.1
                  have R3 := Lib.hid o3
                  (try replace HB8 := Lib.hid (k3'.blk HB8.out (fun h => h)))
                  replace KC := Lib.hid (KC.out.step k3')
                  clear o3 k3 a3 k3'
                  refine hK.out _ _ (CE.out _ KC.out) (fun hHeld => ?_)
                  clear hK K
                  try simp only [Act.put, List.setIfInBounds_toArray, List.set_cons_zero, List.set_cons_succ]
                  refine wpAnyH_ready (rs := [5]) (by kernel_rfl) (by simp) ?_
                  refine AllReadyH.cons (o := ⟨some 64, Op.buildSlice 25 1 #[(0, Operand.tmp 63)], 25, _, _, none⟩) rfl (fun K hK => ?_) AllReadyH.nil
                  refine step_oneR x rfl ?_
                  intro B8 u8 k8 h8 hB8
                  have HB8 := Lib.hid h8
                  (try replace R3 := Lib.hid (own_keep R3.out k8 (fun _ _ h => h)))
                  replace KC := Lib.hid (KC.out.step k8)
                  clear k8 h8 hB8
                  refine hK.out _ _ (CE.out _ KC.out) (fun hHeld => ?_)
                  clear hK K
                  try simp only [Act.put, List.setIfInBounds_toArray, List.set_cons_zero, List.set_cons_succ]
                  refine wpAnyH_ready (rs := [6]) (by kernel_rfl) (by simp) ?_
                  refine AllReadyH.cons (o := ⟨some 65, Op.call { callee := Callee.builtin Builtin.append, args := #[Operand.tmp 62, Operand.tmp 64], argTypes := #[25, 25] }, 25, _, _, none⟩) rfl (fun K hK => ?_) AllReadyH.nil
                  refine step_append_src rfl (.tmp 62) (.tmp 64) 25 25 rfl 37 noRef.val 4 40 Try.underlying25 Try.infoRef rfl (.slice A3 p c3) p (refCells (es.take p)) rfl R3.out _ 1 (refCells [x]) rfl (src_ref x HB8.out) (by unfold maxLen; omega) (by omega) ?_
                  intro A6 c6 u6 o6 k6 a6
                  have RB6 : Hid (∀ i, (Value.slice A6 (p + 1) c6).ownBlock = some i → w5.heap.size ≤ i) := fun i hi => by
                    rcases a6 i hi with h | h
                    · exact RB3.out i h
                    · exact Nat.le_trans KC.out.size h.1
                  have R6 := Lib.hid o6
                  replace KC : Hid (Kept noBlock w5 u6) := KC.out.trans k6 (fun i hi e => by have := RB3.out i e; omega)
                  clear o6 k6 a6 R3 RB3
                  refine hK.out _ _ (CE.out _ KC.out) (fun hHeld => ?_)
                  clear hK K
                  try simp only [Act.put, List.setIfInBounds_toArray, List.set_cons_zero, List.set_cons_succ]
                  refine wpAnyH_ready (rs := [10]) (by kernel_rfl) (by simp) ?_
                  refine AllReadyH.cons (o := ⟨some 69, Op.call { callee := Callee.builtin Builtin.append, args := #[Operand.tmp 65, Operand.tmp 68], argTypes := #[25, 25] }, 25, _, _, none⟩) rfl (fun K hK => ?_) AllReadyH.nil
                  refine step_append_src rfl (.tmp 65) (.tmp 68) 25 25 rfl 37 noRef.val 4 40 Try.underlying25 Try.infoRef rfl (.slice A6 (p + 1) c6) (p + 1) (refCells (es.take p) ++ refCells [x]) rfl R6.out _ (m - p) (refCells (es.drop p)) rfl (src_sl (LD.out.keep KC.out (fun _ _ h => h)) (by rw [refCells_length, HDL.out]) (one_refs _)) (by unfold maxLen; omega) (by omega) ?_
                  intro A10 c10 u10 o10 k10 a10
                  have RB10 : Hid (∀ i, (Value.slice A10 (p + 1 + (m - p)) c10).ownBlock = some i → w5.heap.size ≤ i) := fun i hi => by
                    rcases a10 i hi with h | h
                    · exact RB6.out i h
                    · exact Nat.le_trans KC.out.size h.1
                  have R10 := Lib.hid o10
                  replace KC : Hid (Kept noBlock w5 u10) := KC.out.trans k10 (fun i hi e => by have := RB6.out i e; omega)
                  have hc10 : p + 1 + (m - p) ≤ c10 := by
                    obtain ⟨_, _, e9, hle9⟩ := own_form o10
                    injection e9 with _ _ e9
                    omega
                  clear o10 k10 a10 R6 RB6
                  refine hK.out _ _ (CE.out _ KC.out) (fun hHeld => ?_)
                  clear hK K
                  try simp only [Act.put, List.setIfInBounds_toArray, List.set_cons_zero, List.set_cons_succ]
                  refine wpAnyH_take (i := 11) (oi := ⟨some 5, Op.assign (Operand.tmp 69), 25, _, _, none⟩) (v := ?v11n2k10) rfl (by kernel_rfl) (by kernel_rfl) (by kernel_rfl) (fun _ _ _ h => h) (Or.inl ⟨by rfl, ?y11n2k10⟩) hHeld ?z11n2k10
                  case y11n2k10 => intro w hSw; (try dsimp only at hSw); go_simp <;> rfl
                  try simp only [Act.put, List.setIfInBounds_toArray, List.set_cons_zero, List.set_cons_succ]
                  refine wpAnyH_done (by kernel_rfl) ?_ _
                  refine NoPanic.normal ?_
                  clear hHeld
                  have HLEN : Hid (p + 1 + (m - p) = (ordK kd (L.take (j + 1))).length) := by unfold Hid; rw [HS9.out, List.length_append, List.length_cons, HTL.out, HDL.out]; omega
                  have HROW : Hid (u10.ownsRow w1.heap.size 37 4 (.slice A10 (p + 1 + (m - p)) c10) (p + 1 + (m - p)) (refCells (ordK kd (L.take (j + 1))))) := by
                    unfold Hid
                    have e : refCells (ordK kd (L.take (j + 1))) = refCells (es.take p) ++ refCells [x] ++ refCells (es.drop p) := by
                      rw [HS9.out, ← refCells_append, ← refCells_append]
                      simp
                    rw [e]
                    exact own_base R10.out (fun i hi => Nat.le_trans (K3.out.step K5.out).size (RB10.out i hi))
                  have KE := Lib.hid (K3.out.step (K5.out.step KC.out))
                  go_wp2
                  go_roundw
                  case rel => exact ⟨j + 1, p + 1 + (m - p), A10, c10, by omega, by omega, hc10, rfl, by go_num, HLEN, HROW, KE⟩
                  case measure => simp [intOf]; omega
                case b5n2k8 =>
                  refine step_oneR x rfl ?_
                  intro B8 u8 k8 h8 hB8
                  have HB8 := Lib.hid h8
                  (try replace R3 := Lib.hid (own_keep R3.out k8 (fun _ _ h => h)))
                  replace KC := Lib.hid (KC.out.step k8)
                  clear k8 h8 hB8
                  refine hK.out _ _ (CE.out _ KC.out) (fun hHeld => ?_)
                  clear hK K
                  try simp only [Act.put, List.setIfInBounds_toArray, List.set_cons_zero, List.set_cons_succ]
                  refine wpAnyH_ready (rs := [3]) (by kernel_rfl) (by simp) ?_
                  refine AllReadyH.cons (o := ⟨some 62, Op.call { callee := Callee.builtin Builtin.append, args := #[Operand.const (Value.slice none 0 0), Operand.tmp 61], argTypes := #[25, 25] }, 25, _, _, none⟩) rfl (fun K hK => ?_) AllReadyH.nil
                  refine step_append_src rfl (.const (.slice none 0 0)) (.tmp 61) 25 25 rfl 37 noRef.val 4 40 Try.underlying25 Try.infoRef rfl (.slice none 0 0) 0 [] rfl (World.ownsRow_nil _ _ _ _) _ p (refCells (es.take p)) rfl (src_sl (LT.out.keep KC.out (fun _ _ h => h)) (by rw [refCells_length, HTL.out]) (one_refs _)) (by unfold maxLen; omega) (by omega) ?_
                  intro A3 c3 u3 o3 k3 a3
                  simp only [Nat.zero_add, List.nil_append] at o3 a3 ⊢
                  have k3' : Kept noBlock _ u3 := k3.mono (fun i _ h => by simp [Value.ownBlock] at h)
                  have RB3 : Hid (∀ i, (Value.slice A3 p c3).ownBlock = some i → w5.heap.size ≤ i) := fun i hi => by
                    rcases a3 i hi with h | h
                    · simp [Value.ownBlock] at h
                    · exact Nat.le_trans KC.out.size h.1
                  have R3 := Lib.hid o3
                  (try replace HB8 := Lib.hid (k3'.blk HB8.out (fun h => h)))
                  replace KC := Lib.hid (KC.out.step k3')
                  clear o3 k3 a3 k3'
                  refine hK.out _ _ (CE.out _ KC.out) (fun hHeld => ?_)
                  clear hK K
                  try simp only [Act.put, List.setIfInBounds_toArray, List.set_cons_zero, List.set_cons_succ]
                  refine wpAnyH_ready (rs := [6]) (by kernel_rfl) (by simp) ?_
                  refine AllReadyH.cons (o := ⟨some 65, Op.call { callee := Callee.builtin Builtin.append, args := #[Operand.tmp 62, Operand.tmp 64], argTypes := #[25, 25] }, 25, _, _, none⟩) rfl (fun K hK => ?_) AllReadyH.nil
                  refine step_append_src rfl (.tmp 62) (.tmp 64) 25 25 rfl 37 noRef.val 4 40 Try.underlying25 Try.infoRef rfl (.slice A3 p c3) p (refCells (es.take p)) rfl R3.out _ 1 (refCells [x]) rfl (src_ref x HB8.out) (by unfold maxLen; omega) (by omega) ?_
                  intro A6 c6 u6 o6 k6 a6
                  have RB6 : Hid (∀ i, (Value.slice A6 (p + 1) c6).ownBlock = some i → w5.heap.size ≤ i) := fun i hi => by
                    rcases a6 i hi with h | h
                    · exact RB3.out i h
                    · exact Nat.le_trans KC.out.size h.1
                  have R6 := Lib.hid o6
                  replace KC : Hid (Kept noBlock w5 u6) := KC.out.trans k6 (fun i hi e => by have := RB3.out i e; omega)
                  clear o6 k6 a6 R3 RB3
                  refine hK.out _ _ (CE.out _ KC.out) (fun hHeld => ?_)
                  clear hK K
                  try simp only [Act.put, List.setIfInBounds_toArray, List.set_cons_zero, List.set_cons_succ]
                  refine wpAnyH_ready (rs := [10]) (by kernel_rfl) (by simp) ?_
                  refine AllReadyH.cons (o := ⟨some 69, Op.call { callee := Callee.builtin Builtin.append, args := #[Operand.tmp 65, Operand.tmp 68], argTypes := #[25, 25] }, 25, _, _, none⟩) rfl (fun K hK => ?_) AllReadyH.nil
                  refine step_append_src rfl (.tmp 65) (.tmp 68) 25 25 rfl 37 noRef.val 4 40 Try.underlying25 Try.infoRef rfl (.slice A6 (p + 1) c6) (p + 1) (refCells (es.take p) ++ refCells [x]) rfl R6.out _ (m - p) (refCells (es.drop p)) rfl (src_sl (LD.out.keep KC.out (fun _ _ h => h)) (by rw [refCells_length, HDL.out]) (one_refs _)) (by unfold maxLen; omega) (by omega) ?_
                  intro A10 c10 u10 o10 k10 a10
                  have RB10 : Hid (∀ i, (Value.slice A10 (p + 1 + (m - p)) c10).ownBlock = some i → w5.heap.size ≤ i) := fun i hi => by
                    rcases a10 i hi with h | h
                    · exact RB6.out i h
                    · exact Nat.le_trans KC.out.size h.1
                  have R10 := Lib.hid o10
                  replace KC : Hid (Kept noBlock w5 u10) := KC.out.trans k10 (fun i hi e => by have := RB6.out i e; omega)
                  have hc10 : p + 1 + (m - p) ≤ c10 := by
                    obtain ⟨_, _, e9, hle9⟩ := own_form o10
                    injection e9 with _ _ e9
                    omega
                  clear o10 k10 a10 R6 RB6
                  refine hK.out _ _ (CE.out _ KC.out) (fun hHeld => ?_)
                  clear hK K
                  try simp only [Act.put, List.setIfInBounds_toArray, List.set_cons_zero, List.set_cons_succ]
                  refine wpAnyH_take (i := 11) (oi := ⟨some 5, Op.assign (Operand.tmp 69), 25, _, _, none⟩) (v := ?v11n2k11) rfl (by kernel_rfl) (by kernel_rfl) (by kernel_rfl) (fun _ _ _ h => h) (Or.inl ⟨by rfl, ?y11n2k11⟩) hHeld ?z11n2k11
                  case y11n2k11 => intro w hSw; (try dsimp only at hSw); go_simp <;> rfl
                  try simp only [Act.put, List.setIfInBounds_toArray, List.set_cons_zero, List.set_cons_succ]
                  refine wpAnyH_done (by kernel_rfl) ?_ _
                  refine NoPanic.normal ?_
                  clear hHeld
                  have HLEN : Hid (p + 1 + (m - p) = (ordK kd (L.take (j + 1))).length) := by unfold Hid; rw [HS9.out, List.length_append, List.length_cons, HTL.out, HDL.out]; omega
                  have HROW : Hid (u10.ownsRow w1.heap.size 37 4 (.slice A10 (p + 1 + (m - p)) c10) (p + 1 + (m - p)) (refCells (ordK kd (L.take (j + 1))))) := by
                    unfold Hid
                    have e : refCells (ordK kd (L.take (j + 1))) = refCells (es.take p) ++ refCells [x] ++ refCells (es.drop p) := by
                      rw [HS9.out, ← refCells_append, ← refCells_append]
                      simp
                    rw [e]
                    exact own_base R10.out (fun i hi => Nat.le_trans (K3.out.step K5.out).size (RB10.out i hi))
                  have KE := Lib.hid (K3.out.step (K5.out.step KC.out))
                  go_wp2
                  go_roundw
                  case rel => exact ⟨j + 1, p + 1 + (m - p), A10, c10, by omega, by omega, hc10, rfl, by go_num, HLEN, HROW, KE⟩
                  case measure => simp [intOf]; omega
      · have hbq : (x.kind != kd) = true := by simpa using hkd
        have HS : Hid (ordK kd (L.take (j + 1)) = ordK kd (L.take j)) := by unfold Hid ordK; rw [ST.out, if_neg hkd, List.append_nil]
        clear hkd HO HK1
        go_wp2
        go_roundw
        case rel => exact ⟨j + 1, m, A', c', by omega, by omega, hmc, rfl, by go_num, Lib.hid (by rw [HS.out, HM.out]), Lib.hid (by rw [HS.out]; exact OL.out), K3⟩
        case measure => simp [intOf]; omega
    · obtain rfl : j = n := by omega
      have htk : L.take j = L := List.take_of_length_le (by have := HL.out; omega)
      rw [htk] at HM HO
      clear htk
      go_wp2
      go_ret
      have hm := HM.out
      rw [← hm]
      exact ⟨A', c', rfl, own_base HO.out (fun i hi => Nat.le_trans K1.out.size (HO.out.lt i hi).1), K1.out.step HK1.out⟩
end Go.Proofs.Ytollmkkbeeeccaa
