/-
  The walk of EditsAll. No statement is proved here.
-/
import Derived.Test.YtjijdkdpmbfdmaaL10Round
import Derived.Test.YtjijdkdpmbfdmaaE10All
namespace Go.Proofs.Ytjijdkdpmbfdmaa
open Go.RowKit Tot

set_option maxRecDepth 100000 in
set_option maxHeartbeats 2000000 in
theorem eall10_walk (F : Nat → Prop) (a : Option Addr) (n cp : Nat) (ss : List StepV) (w : World) (h : Lies w F a (stepCells ss)) (hx : ∀ x ∈ ss, x.lies F w) (hl : ss.length = n) (hnc : n ≤ cp) :
    Calls Try.prog 8 #[.slice a n cp] w fun e w' => e = .returned (.bool true) ∧ Kept noBlock w w' := by
  obtain ⟨M, hM⟩ : ∃ M, M = min n 40 := ⟨_, rfl⟩
  have q1 : (if (40 : Int) < (n : Int) then (40 : Int) else (n : Int)) = (M : Int) := by split <;> omega
  have q2 : min (n : Int) 40 = (M : Int) := by omega
  have i1 : (M : Int) ≤ cp := by omega
  have hM40 : M ≤ 40 := by omega
  have hMn : M ≤ n := by omega
  have H := Lib.hid h
  have HX := Lib.hid hx
  have HL := Lib.hid hl
  clear h hx hl hM
  go_enter Try.func8, Try.ntmps8
  go_wp2_with fail
  refine (awake10_any w).mono ?_
  rintro en w1 ⟨rfl, k1⟩
  have ka := Kept.alloc noBlock w1 (.cells #[.slice none 0 0, .int .i64 0] 26)
  have ha := heap_alloc_new w1 (.cells #[.slice none 0 0, .int .i64 0] 26)
  go_upto_region 4 with (fail)
  obtain ⟨S, hS⟩ : ∃ S, S = w1.heap.size := ⟨_, rfl⟩
  rw [← hS] at ha ⊢
  have hSw := k1.size
  rw [← hS] at hSw
  generalize w1.alloc (.cells #[.slice none 0 0, .int .i64 0] 26) = u0 at ka ha ⊢
  have K0 := Lib.hid (k1.step ka)
  have L0 : Hid (LstS w u0 S [] 0 none 0 0) := ⟨ha, Sw.nil _ _, Good.nil, Nat.le_refl _, by decide, by decide, K0.out⟩
  clear ka ha hS k1 K0
  go_wp2_with fail
  go_loopw [19] (fun i wr => ∃ (k : Nat) (N : Fls) (f : Int) (A : Option Addr) (c : Nat), k ≤ M ∧ i = .int .i64 (k : Int) ∧ Hid (LstS w wr S N f A c k)) (fun i _ => M - (intOf i).toNat)
  case atStart => exact ⟨0, [], 0, none, 0, by omega, rfl, L0⟩
  case round =>
    obtain ⟨k, N, f, A, c, hkM, rfl, LS⟩ := hrel
    by_cases hlt : k < M
    · obtain ⟨x, hx⟩ : ∃ x, ss[k]? = some x := ⟨_, List.getElem?_eq_getElem (by have := HL.out; omega)⟩
      obtain ⟨ad, o, rfl, _, cc⟩ := (H.out.keep LS.out.kept (fun _ _ h => h)).elem (enc := StepV.cells) step_len (by omega) hx
      have e0 := cc 0 _ rfl
      have e1 := cc 1 _ rfl
      have e2 := cc 2 _ rfl
      have e3 := cc 3 _ rfl
      have e4 := cc 4 _ rfl
      have e5 := cc 5 _ rfl
      have e6 := cc 6 _ rfl
      have e7 := cc 7 _ rfl
      rw [Nat.add_zero] at e0
      have XL := Lib.hid ((HX.out x (List.mem_of_getElem? hx)).keep LS.out.kept (fun _ _ h => h))
      have ka := Kept.alloc noBlock wr (.cells #[.slice x.A x.add.length x.ca, .slice x.D x.drop.length x.cd, .int .u8 (x.floor.toNat : Int), .bool x.odd, .string x.any.name, .int .i64 x.any.kind, .int .i64 x.any.from_, .int .i64 x.any.to_] 33)
      have ha := heap_alloc_new wr (.cells #[.slice x.A x.add.length x.ca, .slice x.D x.drop.length x.cd, .int .u8 (x.floor.toNat : Int), .bool x.odd, .string x.any.name, .int .i64 x.any.kind, .int .i64 x.any.from_, .int .i64 x.any.to_] 33)
      clear cc hx
      go_upto_region 7 with (fail)
      obtain ⟨Y, hY⟩ : ∃ Y, Y = wr.heap.size := ⟨_, rfl⟩
      rw [← hY] at ha ⊢
      have hSY : S < Y := by rw [hY]; exact lt_of_blk LS.out.blk
      generalize wr.alloc (.cells #[.slice x.A x.add.length x.ca, .slice x.D x.drop.length x.cd, .int .u8 (x.floor.toNat : Int), .bool x.odd, .string x.any.name, .int .i64 x.any.kind, .int .i64 x.any.from_, .int .i64 x.any.to_] 33) = w3 at ka ha ⊢
      have L3 := Lib.hid (LS.out.keep ka)
      have LE := Lib.hid (edit_step (XL.out.keep ka (fun _ _ h => h)))
      have hE5 := editOf_add x
      have hE4 := editOf_drop x
      have hE0 := editOf_floor x
      have hSZ := editOf_size x
      obtain ⟨e, he⟩ : ∃ e, e = editOf x := ⟨_, rfl⟩
      rw [← he] at LE hE5 hE4 hE0 hSZ
      have DO := Lib.hid (do_step (f := f) L3.out.good (by have := L3.out.len; omega) (by omega) (by omega) hSZ)
      have HA := Lib.hid ha
      have HS3 : Hid (S < w3.heap.size) := lt_of_blk L3.out.blk
      have CE : Hid (∀ u, Kept noBlock w3 u → (u.cell? ⟨S, 0, none⟩ = some (.slice A N.length c) ∧ u.cell? ⟨S, 1, none⟩ = some (.int .i64 f)) ∧ (u.cell? ⟨Y, 0, none⟩ = some (.slice x.A x.add.length x.ca) ∧ u.cell? ⟨Y, 1, none⟩ = some (.slice x.D x.drop.length x.cd) ∧ u.cell? ⟨Y, 2, none⟩ = some (.int .u8 (x.floor.toNat : Int)) ∧ u.cell? ⟨Y, 3, none⟩ = some (.bool x.odd) ∧ u.cell? ⟨Y, 4, none⟩ = some (.string x.any.name) ∧ u.cell? ⟨Y, 5, none⟩ = some (.int .i64 x.any.kind) ∧ u.cell? ⟨Y, 6, none⟩ = some (.int .i64 x.any.from_) ∧ u.cell? ⟨Y, 7, none⟩ = some (.int .i64 x.any.to_))) :=
        fun u k => ⟨two_cells (k.blk L3.out.blk (fun h => h)), step_cells (k.blk HA.out (fun h => h))⟩
      clear e0 e1 e2 e3 e4 e5 e6 e7 ka ha LS XL he hSZ hY
      go_cut [6, 7] (fun p q wc => ∃ X A' c', p = .pointer (some ⟨X, 0, none⟩) ∧ q = .int .i64 (doE N f e).2 ∧ X ≠ S ∧ Hid (wc.heap[X]? = some (.cells #[.slice A' (doE N f e).1.length c', .int .i64 (doF N f e)] 26 (0, 0))) ∧ Hid (Sw wc (fun i => i ≠ S) (doE N f e).1 A' c') ∧ Hid (Kept noBlock w3 wc))
      case first =>
        have KC : Hid (Kept noBlock w3 w3.drew) := Kept.drew _ _
        refine wp_region_noPanic ?_
        refine wp_region_held_drew (S := fun u => (u.cell? ⟨S, 0, none⟩ = some (.slice A N.length c) ∧ u.cell? ⟨S, 1, none⟩ = some (.int .i64 f)) ∧ (u.cell? ⟨Y, 0, none⟩ = some (.slice x.A x.add.length x.ca) ∧ u.cell? ⟨Y, 1, none⟩ = some (.slice x.D x.drop.length x.cd) ∧ u.cell? ⟨Y, 2, none⟩ = some (.int .u8 (x.floor.toNat : Int)) ∧ u.cell? ⟨Y, 3, none⟩ = some (.bool x.odd) ∧ u.cell? ⟨Y, 4, none⟩ = some (.string x.any.name) ∧ u.cell? ⟨Y, 5, none⟩ = some (.int .i64 x.any.kind) ∧ u.cell? ⟨Y, 6, none⟩ = some (.int .i64 x.any.from_) ∧ u.cell? ⟨Y, 7, none⟩ = some (.int .i64 x.any.to_))) (by kernel_rfl) (CE.out _ KC.out) (fun hHeld => ?_)
        refine wpAnyH_take (i := 0) (oi := ⟨some 24, Op.load 26 (Operand.tmp 3), 26, _, _, none⟩) (v := ?v0n1k1) rfl (by kernel_rfl) (by kernel_rfl) (by kernel_rfl) (fun _ _ _ h => h) (Or.inl ⟨by rfl, ?y0n1k1⟩) hHeld ?z0n1k1
        case y0n1k1 => intro w hSw; (try dsimp only at hSw); go_simp <;> rfl
        try simp only [Act.put, List.setIfInBounds_toArray, List.set_cons_zero, List.set_cons_succ]
        refine wpAnyH_take (i := 1) (oi := ⟨some 25, Op.load 33 (Operand.tmp 5), 33, _, _, none⟩) (v := ?v1n1k2) rfl (by kernel_rfl) (by kernel_rfl) (by kernel_rfl) (fun _ _ _ h => h) (Or.inl ⟨by rfl, ?y1n1k2⟩) hHeld ?z1n1k2
        case y1n1k2 => intro w hSw; (try dsimp only at hSw); go_simp <;> rfl
        try simp only [Act.put, List.setIfInBounds_toArray, List.set_cons_zero, List.set_cons_succ]
        refine wpAnyH_ready (rs := [2, 7]) (by kernel_rfl) (by simp) ?_
        refine (AllReadyH.cons (o := ⟨some 26, Op.call { callee := Callee.value (Operand.func 12), args := #[Operand.tmp 25], argTypes := #[33] }, 36, _, _, none⟩) rfl (fun K hK => ?b2n1k4) (AllReadyH.cons (o := ⟨some 6, Op.alloc 26, 0, _, _, none⟩) rfl (fun K hK => ?b7n1k3) AllReadyH.nil))
        case b2n1k4 =>
          go_simp
          refine (LE.out _ KC.out).mono ?_
          rintro en u2 ⟨A2, a2, D2, d2, rfl, ev2, k2⟩
          have EV := Lib.hid ev2
          try have HX2 := Lib.hid (k2.blk HB.out (fun h => h))
          try clear HB
          try have HB := HX2
          try clear HX2
          replace KC := Lib.hid (KC.out.step k2)
          clear ev2 k2
          dsimp only
          refine hK.out _ _ (CE.out _ KC.out) (fun hHeld => ?_)
          clear hK K
          try simp only [Act.put, List.setIfInBounds_toArray, List.set_cons_zero, List.set_cons_succ]
          refine wpAnyH_ready (rs := [3, 7]) (by kernel_rfl) (by simp) ?_
          refine (AllReadyH.cons (o := ⟨some 27, Op.call { callee := Callee.value (Operand.func 13), args := #[Operand.tmp 24, Operand.tmp 26], argTypes := #[26, 36] }, 39, _, _, none⟩) rfl (fun K hK => ?b3n1k6) (AllReadyH.cons (o := ⟨some 6, Op.alloc 26, 0, _, _, none⟩) rfl (fun K hK => ?b7n1k5) AllReadyH.nil))
          case b3n1k6 =>
            go_simp
            refine (DO.out _ _ _ _ _ _ _ _ _ (L3.out.sw.kept KC.out) EV.out).mono ?_
            rintro en u4 ⟨A4, c4, rfl, sw4, k4⟩
            first
              | have SW := Lib.hid (sw4.mono (G := fun i => i ≠ X ∧ i ≠ S) (fun i hi => by have h1 := hi.1; have h2 := lt_of_blk HB.out; have h3 := HS3.out; have h4 := KC.out.size; omega))
              | have SW := Lib.hid (sw4.mono (G := fun i => i < u4.heap.size ∧ i ≠ S) (fun i hi => by have h1 := hi.1; have h2 := hi.2; have h3 := HS3.out; have h4 := KC.out.size; omega))
            try have HX2 := Lib.hid (k4.blk HB.out (fun h => h))
            try clear HB
            try have HB := HX2
            try clear HX2
            replace KC := Lib.hid (KC.out.step k4)
            clear sw4 k4
            dsimp only
            refine hK.out _ _ (CE.out _ KC.out) (fun hHeld => ?_)
            clear hK K
            try simp only [Act.put, List.setIfInBounds_toArray, List.set_cons_zero, List.set_cons_succ]
            refine wpAnyH_take (i := 4) (oi := ⟨some 23, Op.move (Operand.tmp 27), 39, _, _, none⟩) (v := ?v4n1k7) rfl (by kernel_rfl) (by kernel_rfl) (by kernel_rfl) (fun _ _ _ h => h) (Or.inl ⟨by rfl, ?y4n1k7⟩) hHeld ?z4n1k7
            case y4n1k7 => intro w hSw; (try dsimp only at hSw); go_simp <;> rfl
            try simp only [Act.put, List.setIfInBounds_toArray, List.set_cons_zero, List.set_cons_succ]
            refine wpAnyH_take (i := 5) (oi := ⟨some 28, Op.extract (Operand.tmp 23) 0, 26, _, _, none⟩) (v := ?v5n1k8) rfl (by kernel_rfl) (by kernel_rfl) (by kernel_rfl) (fun _ _ _ h => h) (Or.inl ⟨by rfl, ?y5n1k8⟩) hHeld ?z5n1k8
            case y5n1k8 => intro w hSw; (try dsimp only at hSw); go_simp <;> rfl
            try simp only [Act.put, List.setIfInBounds_toArray, List.set_cons_zero, List.set_cons_succ]
            refine wpAnyH_take (i := 6) (oi := ⟨some 29, Op.extract (Operand.tmp 23) 1, 38, _, _, none⟩) (v := ?v6n1k9) rfl (by kernel_rfl) (by kernel_rfl) (by kernel_rfl) (fun _ _ _ h => h) (Or.inl ⟨by rfl, ?y6n1k9⟩) hHeld ?z6n1k9
            case y6n1k9 => intro w hSw; (try dsimp only at hSw); go_simp <;> rfl
            try simp only [Act.put, List.setIfInBounds_toArray, List.set_cons_zero, List.set_cons_succ]
            refine wpAnyH_ready (rs := [7]) (by kernel_rfl) (by simp) ?_
            refine AllReadyH.cons (o := ⟨some 6, Op.alloc 26, 0, _, _, none⟩) rfl (fun K hK => ?_) AllReadyH.nil
            refine step_allocE ?_
            intro X u9 k9 hX9 hx9
            have HB := Lib.hid hx9
            have LX : Hid (w3.heap.size ≤ X) := Nat.le_trans KC.out.size hX9
            replace KC := Lib.hid (KC.out.step k9)
            try have EV5 := Lib.hid (EV.out.kept k9)
            try clear EV
            try have EV := EV5
            try clear EV5
            try have SW9 := Lib.hid ((SW.out.kept k9).mono (G := fun i => i ≠ X ∧ i ≠ S) (fun i hi => by have h1 := hi.1; have h2 := hi.2; omega))
            try clear SW
            try have SW := SW9
            try clear SW9
            clear k9 hX9 hx9
            refine hK.out _ _ (CE.out _ KC.out) (fun hHeld => ?_)
            clear hK K
            try simp only [Act.put, List.setIfInBounds_toArray, List.set_cons_zero, List.set_cons_succ]
            refine wpAnyH_ready (rs := [8]) (by kernel_rfl) (by simp) ?_
            refine AllReadyH.cons (o := ⟨none, Op.store 26 (Operand.tmp 6) (Operand.tmp 28), 0, _, _, none⟩) rfl (fun K hK => ?_) AllReadyH.nil
            refine step_storeE rfl rfl HB.out ?_
            have R := Lib.hid (do_end (f := doF N f e) HB.out SW.out KC.out LX.out HS3.out)
            replace KC := Lib.hid (KC.out.trans (setE_two (n := (doE N f e).1.length) (A := A4) (c := c4) (f := doF N f e) HB.out).2 (fun i hi e => by have := LX.out; omega))
            refine hK.out _ _ (CE.out _ KC.out) (fun hHeld => ?_)
            clear hK K
            try simp only [Act.put, List.setIfInBounds_toArray, List.set_cons_zero, List.set_cons_succ]
            refine wpAnyH_take (i := 9) (oi := ⟨some 7, Op.assign (Operand.tmp 29), 38, _, _, none⟩) (v := ?v9n1k10) rfl (by kernel_rfl) (by kernel_rfl) (by kernel_rfl) (fun _ _ _ h => h) (Or.inl ⟨by rfl, ?y9n1k10⟩) hHeld ?z9n1k10
            case y9n1k10 => intro w hSw; (try dsimp only at hSw); go_simp <;> rfl
            try simp only [Act.put, List.setIfInBounds_toArray, List.set_cons_zero, List.set_cons_succ]
            refine wpAnyH_done (by kernel_rfl) ?_ _
            refine NoPanic.normal ?_
            clear hHeld
            go_wp2
            go_meet
            case rel =>
              obtain ⟨X', A', c', h1, h2, h3, h4, h5⟩ := R.out
              exact ⟨X', A', c', h1, rfl, h2, h3, h4, h5⟩
          case b7n1k5 =>
            refine step_allocE ?_
            intro X u9 k9 hX9 hx9
            have HB := Lib.hid hx9
            have LX : Hid (w3.heap.size ≤ X) := Nat.le_trans KC.out.size hX9
            replace KC := Lib.hid (KC.out.step k9)
            try have EV5 := Lib.hid (EV.out.kept k9)
            try clear EV
            try have EV := EV5
            try clear EV5
            try have SW9 := Lib.hid ((SW.out.kept k9).mono (G := fun i => i ≠ X ∧ i ≠ S) (fun i hi => by have h1 := hi.1; have h2 := hi.2; omega))
            try clear SW
            try have SW := SW9
            try clear SW9
            clear k9 hX9 hx9
            refine hK.out _ _ (CE.out _ KC.out) (fun hHeld => ?_)
            clear hK K
            try simp only [Act.put, List.setIfInBounds_toArray, List.set_cons_zero, List.set_cons_succ]
            refine wpAnyH_ready (rs := [3]) (by kernel_rfl) (by simp) ?_
            refine AllReadyH.cons (o := ⟨some 27, Op.call { callee := Callee.value (Operand.func 13), args := #[Operand.tmp 24, Operand.tmp 26], argTypes := #[26, 36] }, 39, _, _, none⟩) rfl (fun K hK => ?_) AllReadyH.nil
            go_simp
            refine (DO.out _ _ _ _ _ _ _ _ _ (L3.out.sw.kept KC.out) EV.out).mono ?_
            rintro en u4 ⟨A4, c4, rfl, sw4, k4⟩
            first
              | have SW := Lib.hid (sw4.mono (G := fun i => i ≠ X ∧ i ≠ S) (fun i hi => by have h1 := hi.1; have h2 := lt_of_blk HB.out; have h3 := HS3.out; have h4 := KC.out.size; omega))
              | have SW := Lib.hid (sw4.mono (G := fun i => i < u4.heap.size ∧ i ≠ S) (fun i hi => by have h1 := hi.1; have h2 := hi.2; have h3 := HS3.out; have h4 := KC.out.size; omega))
            try have HX2 := Lib.hid (k4.blk HB.out (fun h => h))
            try clear HB
            try have HB := HX2
            try clear HX2
            replace KC := Lib.hid (KC.out.step k4)
            clear sw4 k4
            dsimp only
            refine hK.out _ _ (CE.out _ KC.out) (fun hHeld => ?_)
            clear hK K
            try simp only [Act.put, List.setIfInBounds_toArray, List.set_cons_zero, List.set_cons_succ]
            refine wpAnyH_take (i := 4) (oi := ⟨some 23, Op.move (Operand.tmp 27), 39, _, _, none⟩) (v := ?v4n1k11) rfl (by kernel_rfl) (by kernel_rfl) (by kernel_rfl) (fun _ _ _ h => h) (Or.inl ⟨by rfl, ?y4n1k11⟩) hHeld ?z4n1k11
            case y4n1k11 => intro w hSw; (try dsimp only at hSw); go_simp <;> rfl
            try simp only [Act.put, List.setIfInBounds_toArray, List.set_cons_zero, List.set_cons_succ]
            refine wpAnyH_take (i := 5) (oi := ⟨some 28, Op.extract (Operand.tmp 23) 0, 26, _, _, none⟩) (v := ?v5n1k12) rfl (by kernel_rfl) (by kernel_rfl) (by kernel_rfl) (fun _ _ _ h => h) (Or.inl ⟨by rfl, ?y5n1k12⟩) hHeld ?z5n1k12
            case y5n1k12 => intro w hSw; (try dsimp only at hSw); go_simp <;> rfl
            try simp only [Act.put, List.setIfInBounds_toArray, List.set_cons_zero, List.set_cons_succ]
            refine wpAnyH_take (i := 6) (oi := ⟨some 29, Op.extract (Operand.tmp 23) 1, 38, _, _, none⟩) (v := ?v6n1k13) rfl (by kernel_rfl) (by kernel_rfl) (by kernel_rfl) (fun _ _ _ h => h) (Or.inl ⟨by rfl, ?y6n1k13⟩) hHeld ?z6n1k13
            case y6n1k13 => intro w hSw; (try dsimp only at hSw); go_simp <;> rfl
            try simp only [Act.put, List.setIfInBounds_toArray, List.set_cons_zero, List.set_cons_succ]
            refine wpAnyH_ready (rs := [8]) (by kernel_rfl) (by simp) ?_
            refine AllReadyH.cons (o := ⟨none, Op.store 26 (Operand.tmp 6) (Operand.tmp 28), 0, _, _, none⟩) rfl (fun K hK => ?_) AllReadyH.nil
            refine step_storeE rfl rfl HB.out ?_
            have R := Lib.hid (do_end (f := doF N f e) HB.out SW.out KC.out LX.out HS3.out)
            replace KC := Lib.hid (KC.out.trans (setE_two (n := (doE N f e).1.length) (A := A4) (c := c4) (f := doF N f e) HB.out).2 (fun i hi e => by have := LX.out; omega))
            refine hK.out _ _ (CE.out _ KC.out) (fun hHeld => ?_)
            clear hK K
            try simp only [Act.put, List.setIfInBounds_toArray, List.set_cons_zero, List.set_cons_succ]
            refine wpAnyH_take (i := 9) (oi := ⟨some 7, Op.assign (Operand.tmp 29), 38, _, _, none⟩) (v := ?v9n1k14) rfl (by kernel_rfl) (by kernel_rfl) (by kernel_rfl) (fun _ _ _ h => h) (Or.inl ⟨by rfl, ?y9n1k14⟩) hHeld ?z9n1k14
            case y9n1k14 => intro w hSw; (try dsimp only at hSw); go_simp <;> rfl
            try simp only [Act.put, List.setIfInBounds_toArray, List.set_cons_zero, List.set_cons_succ]
            refine wpAnyH_done (by kernel_rfl) ?_ _
            refine NoPanic.normal ?_
            clear hHeld
            go_wp2
            go_meet
            case rel =>
              obtain ⟨X', A', c', h1, h2, h3, h4, h5⟩ := R.out
              exact ⟨X', A', c', h1, rfl, h2, h3, h4, h5⟩
        case b7n1k3 =>
          refine step_allocE ?_
          intro X u9 k9 hX9 hx9
          have HB := Lib.hid hx9
          have LX : Hid (w3.heap.size ≤ X) := Nat.le_trans KC.out.size hX9
          replace KC := Lib.hid (KC.out.step k9)
          try have EV5 := Lib.hid (EV.out.kept k9)
          try clear EV
          try have EV := EV5
          try clear EV5
          try have SW9 := Lib.hid ((SW.out.kept k9).mono (G := fun i => i ≠ X ∧ i ≠ S) (fun i hi => by have h1 := hi.1; have h2 := hi.2; omega))
          try clear SW
          try have SW := SW9
          try clear SW9
          clear k9 hX9 hx9
          refine hK.out _ _ (CE.out _ KC.out) (fun hHeld => ?_)
          clear hK K
          try simp only [Act.put, List.setIfInBounds_toArray, List.set_cons_zero, List.set_cons_succ]
          refine wpAnyH_ready (rs := [2]) (by kernel_rfl) (by simp) ?_
          refine AllReadyH.cons (o := ⟨some 26, Op.call { callee := Callee.value (Operand.func 12), args := #[Operand.tmp 25], argTypes := #[33] }, 36, _, _, none⟩) rfl (fun K hK => ?_) AllReadyH.nil
          go_simp
          refine (LE.out _ KC.out).mono ?_
          rintro en u2 ⟨A2, a2, D2, d2, rfl, ev2, k2⟩
          have EV := Lib.hid ev2
          try have HX2 := Lib.hid (k2.blk HB.out (fun h => h))
          try clear HB
          try have HB := HX2
          try clear HX2
          replace KC := Lib.hid (KC.out.step k2)
          clear ev2 k2
          dsimp only
          refine hK.out _ _ (CE.out _ KC.out) (fun hHeld => ?_)
          clear hK K
          try simp only [Act.put, List.setIfInBounds_toArray, List.set_cons_zero, List.set_cons_succ]
          refine wpAnyH_ready (rs := [3]) (by kernel_rfl) (by simp) ?_
          refine AllReadyH.cons (o := ⟨some 27, Op.call { callee := Callee.value (Operand.func 13), args := #[Operand.tmp 24, Operand.tmp 26], argTypes := #[26, 36] }, 39, _, _, none⟩) rfl (fun K hK => ?_) AllReadyH.nil
          go_simp
          refine (DO.out _ _ _ _ _ _ _ _ _ (L3.out.sw.kept KC.out) EV.out).mono ?_
          rintro en u4 ⟨A4, c4, rfl, sw4, k4⟩
          first
            | have SW := Lib.hid (sw4.mono (G := fun i => i ≠ X ∧ i ≠ S) (fun i hi => by have h1 := hi.1; have h2 := lt_of_blk HB.out; have h3 := HS3.out; have h4 := KC.out.size; omega))
            | have SW := Lib.hid (sw4.mono (G := fun i => i < u4.heap.size ∧ i ≠ S) (fun i hi => by have h1 := hi.1; have h2 := hi.2; have h3 := HS3.out; have h4 := KC.out.size; omega))
          try have HX2 := Lib.hid (k4.blk HB.out (fun h => h))
          try clear HB
          try have HB := HX2
          try clear HX2
          replace KC := Lib.hid (KC.out.step k4)
          clear sw4 k4
          dsimp only
          refine hK.out _ _ (CE.out _ KC.out) (fun hHeld => ?_)
          clear hK K
          try simp only [Act.put, List.setIfInBounds_toArray, List.set_cons_zero, List.set_cons_succ]
          refine wpAnyH_take (i := 4) (oi := ⟨some 23, Op.move (Operand.tmp 27), 39, _, _, none⟩) (v := ?v4n1k15) rfl (by kernel_rfl) (by kernel_rfl) (by kernel_rfl) (fun _ _ _ h => h) (Or.inl ⟨by rfl, ?y4n1k15⟩) hHeld ?z4n1k15
          case y4n1k15 => intro w hSw; (try dsimp only at hSw); go_simp <;> rfl
          try simp only [Act.put, List.setIfInBounds_toArray, List.set_cons_zero, List.set_cons_succ]
          refine wpAnyH_take (i := 5) (oi := ⟨some 28, Op.extract (Operand.tmp 23) 0, 26, _, _, none⟩) (v := ?v5n1k16) rfl (by kernel_rfl) (by kernel_rfl) (by kernel_rfl) (fun _ _ _ h => h) (Or.inl ⟨by rfl, ?y5n1k16⟩) hHeld ?z5n1k16
          case y5n1k16 => intro w hSw; (try dsimp only at hSw); go_simp <;> rfl
          try simp only [Act.put, List.setIfInBounds_toArray, List.set_cons_zero, List.set_cons_succ]
          refine wpAnyH_take (i := 6) (oi := ⟨some 29, Op.extract (Operand.tmp 23) 1, 38, _, _, none⟩) (v := ?v6n1k17) rfl (by kernel_rfl) (by kernel_rfl) (by kernel_rfl) (fun _ _ _ h => h) (Or.inl ⟨by rfl, ?y6n1k17⟩) hHeld ?z6n1k17
          case y6n1k17 => intro w hSw; (try dsimp only at hSw); go_simp <;> rfl
          try simp only [Act.put, List.setIfInBounds_toArray, List.set_cons_zero, List.set_cons_succ]
          refine wpAnyH_ready (rs := [8]) (by kernel_rfl) (by simp) ?_
          refine AllReadyH.cons (o := ⟨none, Op.store 26 (Operand.tmp 6) (Operand.tmp 28), 0, _, _, none⟩) rfl (fun K hK => ?_) AllReadyH.nil
          refine step_storeE rfl rfl HB.out ?_
          have R := Lib.hid (do_end (f := doF N f e) HB.out SW.out KC.out LX.out HS3.out)
          replace KC := Lib.hid (KC.out.trans (setE_two (n := (doE N f e).1.length) (A := A4) (c := c4) (f := doF N f e) HB.out).2 (fun i hi e => by have := LX.out; omega))
          refine hK.out _ _ (CE.out _ KC.out) (fun hHeld => ?_)
          clear hK K
          try simp only [Act.put, List.setIfInBounds_toArray, List.set_cons_zero, List.set_cons_succ]
          refine wpAnyH_take (i := 9) (oi := ⟨some 7, Op.assign (Operand.tmp 29), 38, _, _, none⟩) (v := ?v9n1k18) rfl (by kernel_rfl) (by kernel_rfl) (by kernel_rfl) (fun _ _ _ h => h) (Or.inl ⟨by rfl, ?y9n1k18⟩) hHeld ?z9n1k18
          case y9n1k18 => intro w hSw; (try dsimp only at hSw); go_simp <;> rfl
          try simp only [Act.put, List.setIfInBounds_toArray, List.set_cons_zero, List.set_cons_succ]
          refine wpAnyH_done (by kernel_rfl) ?_ _
          refine NoPanic.normal ?_
          clear hHeld
          go_wp2
          go_meet
          case rel =>
            obtain ⟨X', A', c', h1, h2, h3, h4, h5⟩ := R.out
            exact ⟨X', A', c', h1, rfl, h2, h3, h4, h5⟩
      case rest =>
        obtain ⟨X, A', c', rfl, rfl, hXS, HX2, SW, KC⟩ := hcut
        have LC := Lib.hid (L3.out.keep KC.out)
        have hlen := doE_len (f := f) (e := e) LC.out.good.up
        have hgood := doE_good (f := f) (e := e) LC.out.good
        have hfloor := doE_floor (N := N) (f := f) (e := e)
        have hdf : (doE N f e).2 = 0 → doF N f e = e.floor := fun h => if_pos h
        obtain ⟨N', hN'⟩ : ∃ N', N' = (doE N f e).1 := ⟨_, rfl⟩
        obtain ⟨r, hr⟩ : ∃ r, r = (doE N f e).2 := ⟨_, rfl⟩
        obtain ⟨z, hz⟩ : ∃ z, z = doF N f e := ⟨_, rfl⟩
        obtain ⟨y, hy⟩ : ∃ y, y = e.floor := ⟨_, rfl⟩
        rw [← hN'] at HX2 SW hlen hgood
        rw [← hr] at hfloor hdf ⊢
        rw [← hz] at HX2 hdf
        rw [← hy] at hfloor hdf hE0
        clear hN' hr hz hy DO LE HA CE KC L3
        obtain ⟨x0, x1⟩ := two_cells HX2.out
        obtain ⟨s0, s1⟩ := two_cells LC.out.blk
        have f0 : wc.frozen? ⟨S, 0, none⟩ = false := frozen_of_row _ _ _ _ _ LC.out.blk
        have f1 : wc.frozen? ⟨S, 1, none⟩ = false := frozen_of_row _ _ _ _ _ LC.out.blk
        have hl5 := LC.out.len
        by_cases hr0 : r = 0
        · obtain ⟨g1, g2⟩ := hfloor hr0
          obtain rfl := hdf hr0
          subst hr0
          have LN := Lib.hid (LC.out.store (k' := k + 1) hSw SW.out hgood (by omega) (by omega) g2)
          unfold setE at LN
          clear hlen hgood hfloor hdf
          go_wp2
          go_roundw
          case rel => exact ⟨k + 1, N', z, A', c', by omega, by go_num, LN⟩
          case measure => simp [intOf]; omega
        · have hr1 : (r == 0) = false := by simpa using hr0
          have LN := Lib.hid (LC.out.more (k' := k + 1) (by omega))
          clear hlen hgood hfloor hdf
          go_wp2
          go_roundw
          case rel => exact ⟨k + 1, N, f, A, c, by omega, by go_num, LN⟩
          case measure => simp [intOf]; omega
    · obtain rfl : k = M := by omega
      have hl5 := LS.out.len
      obtain ⟨NL, hNL⟩ : ∃ NL, NL = N.length := ⟨_, rfl⟩
      have EA := eall_any (fun i => i ≠ S) N f A c wr LS.out.sw (by omega)
      unfold setv evl allE at EA
      simp only [List.length_map, List.length_nil] at EA
      rw [← hNL] at EA
      have EA := Lib.hid EA
      obtain ⟨s0, s1⟩ := two_cells LS.out.blk
      have b0 := LS.out.blk
      rw [← hNL] at s0 b0
      have hNL2 : NL ≤ 200 := by omega
      have HNL := Lib.hid hNL
      have B0 := Lib.hid b0
      clear hlt hNL b0
      go_wp2_with fail
      refine EA.out.mono ?_
      rintro en w4 ⟨A4, c4, rfl, o4, k4⟩
      have hgd := doE_all LS.out.good LS.out.f0 LS.out.f1
      have hEv : Ev w4 (fun _ => True) (allE N f) A4 c4 none 0 := ⟨Lies.of_rows o4 (fun _ _ => trivial), Lies.nil _ _ _, by obtain ⟨_, _, e, hle⟩ := own_form o4; injection e with _ _ e; unfold allE; simp only [List.length_map]; rw [← HNL.out]; omega, Nat.le_refl _⟩
      have hd := edo_any (fun _ => True) (fun _ => True) [] 0 none 0 (allE N f) A4 c4 none 0 w4 (Sw.nil _ _) Good.nil (by simp) hEv (by unfold allE; simp only [List.length_map]; omega) (by simp [allE]) (fun k hk => by cases hk)
      unfold doF at hd
      rw [hgd] at hd
      unfold setv evl allE at hd
      simp only [List.length_map, List.length_nil, if_true] at hd
      rw [← HNL.out] at hd
      have DO := Lib.hid hd
      have L4 := Lib.hid (LS.out.keep k4)
      have B4 := Lib.hid (k4.blk B0.out (fun h => h))
      clear EA o4 hgd hEv hd s0 s1 k4 B0
      go_wp2_with fail
      refine DO.out.mono ?_
      rintro en w5 ⟨A5, c5, rfl, o5, k5⟩
      have ka := Kept.alloc noBlock w5 (.cells #[.slice A5 NL c5, .int .i64 f] 26)
      have ha := heap_alloc_new w5 (.cells #[.slice A5 NL c5, .int .i64 f] 26)
      go_upto_region 12 with (fail)
      obtain ⟨X, hX⟩ : ∃ X, X = w5.heap.size := ⟨_, rfl⟩
      rw [← hX] at ha ⊢
      generalize w5.alloc (.cells #[.slice A5 NL c5, .int .i64 f] 26) = u6 at ka ha ⊢
      obtain ⟨x0, x1⟩ := two_cells ha
      have HA := Lib.hid ha
      have L6 := Lib.hid (L4.out.keep (k5.step ka))
      have B6 := Lib.hid ((k5.step ka).blk B4.out (fun h => h))
      have ST := Lib.hid (Sw.of_own (F := fun _ => True) (own_keep o5 ka (fun _ _ h => h)) HNL.out.symm (fun _ _ => trivial))
      clear ka ha k5 DO o5 B4 L4 hX
      obtain ⟨s0, s1⟩ := two_cells B6.out
      have hff : (f == f) = true := by simp
      have hfn : (f != f) = false := by simp
      have hNn : ((NL : Int) == (NL : Int)) = true := by simp
      go_wp2_with fail
      go_loopw [62] (fun i wr => ∃ (j : Nat), j ≤ NL ∧ i = .int .i64 (j : Int) ∧ Hid (Kept noBlock u6 wr)) (fun i _ => NL - (intOf i).toNat)
      case atStart => exact ⟨0, by omega, rfl, Kept.refl _ _⟩
      case round =>
        obtain ⟨j, hjN, rfl, HK⟩ := hrel
        obtain ⟨s0, s1⟩ := two_cells (HK.out.blk B6.out (fun h => h))
        obtain ⟨x0, x1⟩ := two_cells (HK.out.blk HA.out (fun h => h))
        by_cases hlt : j < NL
        · obtain ⟨x, hx⟩ : ∃ x, (N.map (·.2))[j]? = some x := ⟨_, List.getElem?_eq_getElem (by rw [List.length_map, ← HNL.out]; exact hlt)⟩
          obtain ⟨g1, o1, rfl, _, cc⟩ := (L6.out.sw.la.keep HK.out (fun _ _ h => h)).elem (enc := RefV.cells) ref_len (by omega) hx
          obtain ⟨g2, o2, rfl, _, dd⟩ := (ST.out.la.keep HK.out (fun _ _ h => h)).elem (enc := RefV.cells) ref_len (by omega) hx
          have y0 := cc 0 _ rfl
          have y1 := cc 1 _ rfl
          have y2 := cc 2 _ rfl
          have y3 := cc 3 _ rfl
          have z0 := dd 0 _ rfl
          have z1 := dd 1 _ rfl
          have z2 := dd 2 _ rfl
          have z3 := dd 3 _ rfl
          rw [Nat.add_zero] at y0 z0
          have hc := L6.out.sw.ca
          rw [← HNL.out] at hc
          have hc5 := ST.out.ca
          rw [← HNL.out] at hc5
          have NE := fun u => ref_neq u x x
          rw [decide_eq_true rfl] at NE
          unfold RefV.val at NE
          clear cc dd hx
          go_upto_region 17 with (fail)
          go_quiet (fail)
          have K5 := Lib.hid (HK.out.step (Kept.drewN noBlock wr nq))
          generalize wr.drewN nq = w8 at K5 ⊢
          clear NE
          go_wp2
          go_roundw
          case rel => exact ⟨j + 1, by omega, by go_num, K5⟩
          case measure => simp [intOf]; omega
        · obtain rfl : j = NL := by omega
          go_wp2
          go_ret
          exact ⟨rfl, L6.out.kept.step HK.out⟩
end Go.Proofs.Ytjijdkdpmbfdmaa
