/-
  The walk of EditsOnce. No statement is proved here.
-/
import Derived.Test.YtjijdkdpmbfdmaaL10Round
import Derived.Test.YtjijdkdpmbfdmaaL10Zz
namespace Go.Proofs.Ytjijdkdpmbfdmaa
open Go.RowKit Tot

set_option maxRecDepth 100000 in
set_option maxHeartbeats 2000000 in
theorem eonce_walk (F : Nat → Prop) (a : Option Addr) (n cp : Nat) (ss : List StepV) (gz : UInt8) (w : World) (h : Lies w F a (stepCells ss)) (hx : ∀ x ∈ ss, x.lies F w) (hl : ss.length = n) (hnc : n ≤ cp) :
    Calls Try.prog 10 #[.slice a n cp, .int .u8 (gz.toNat : Int)] w fun e w' => e = .returned (.bool true) ∧ Kept noBlock w w' := by
  have hgz := gz.toNat_lt
  obtain ⟨g, hg⟩ : ∃ g, g = gz.toNat := ⟨_, rfl⟩
  rw [← hg] at hgz ⊢
  obtain ⟨M, hM⟩ : ∃ M, M = min n 30 := ⟨_, rfl⟩
  have q1 : (if (30 : Int) < (n : Int) then (30 : Int) else (n : Int)) = (M : Int) := by split <;> omega
  have q2 : min (n : Int) 30 = (M : Int) := by omega
  have i1 : (M : Int) ≤ cp := by omega
  have hM30 : M ≤ 30 := by omega
  have hMn : M ≤ n := by omega
  have H := Lib.hid h
  have HX := Lib.hid hx
  have HL := Lib.hid hl
  clear h hx hl hM hg
  go_enter Try.func10, Try.ntmps10
  go_wp2_with fail
  refine (awake10_any w).mono ?_
  rintro en w1 ⟨rfl, k1⟩
  have ka := Kept.alloc noBlock w1 (.cells #[.slice none 0 0, .int .i64 0] 26)
  have ha := heap_alloc_new w1 (.cells #[.slice none 0 0, .int .i64 0] 26)
  go_upto_region 4 with (fail)
  obtain ⟨S, hS⟩ : ∃ S, S = w1.heap.size := ⟨_, rfl⟩
  rw [← hS] at ha ⊢
  have hSw := k1.size
  rw [← hS] at hSw
  generalize w1.alloc (.cells #[.slice none 0 0, .int .i64 0] 26) = u0 at ka ha ⊢
  have K0 := Lib.hid (k1.step ka)
  have L0 : Hid (LstS w u0 S [] 0 none 0 0) := ⟨ha, Sw.nil _ _, Good.nil, Nat.le_refl _, by decide, by decide, K0.out⟩
  clear ka ha hS k1 K0
  go_wp2_with fail
  go_loopw [27] (fun i wr => ∃ (k : Nat) (N : Fls) (f : Int) (A : Option Addr) (c : Nat), k ≤ M ∧ i = .int .i64 (k : Int) ∧ Hid (LstS w wr S N f A c k) ∧ Hid (∀ p ∈ N, Few p.1)) (fun i _ => M - (intOf i).toNat)
  case atStart => exact ⟨0, [], 0, none, 0, by omega, rfl, L0, fun p hp => (by cases hp)⟩
  case round =>
    obtain ⟨k, N, f, A, c, hkM, rfl, LS, HF⟩ := hrel
    by_cases hlt : k < M
    · obtain ⟨x, hx⟩ : ∃ x, ss[k]? = some x := ⟨_, List.getElem?_eq_getElem (by have := HL.out; omega)⟩
      obtain ⟨ad, o, rfl, _, cc⟩ := (H.out.keep LS.out.kept (fun _ _ h => h)).elem (enc := StepV.cells) step_len (by omega) hx
      have e0 := cc 0 _ rfl
      have e1 := cc 1 _ rfl
      have e2 := cc 2 _ rfl
      have e3 := cc 3 _ rfl
      have e4 := cc 4 _ rfl
      have e5 := cc 5 _ rfl
      have e6 := cc 6 _ rfl
      have e7 := cc 7 _ rfl
      rw [Nat.add_zero] at e0
      have XL := Lib.hid ((HX.out x (List.mem_of_getElem? hx)).keep LS.out.kept (fun _ _ h => h))
      have ka := Kept.alloc noBlock wr (.cells #[.slice x.A x.add.length x.ca, .slice x.D x.drop.length x.cd, .int .u8 (x.floor.toNat : Int), .bool x.odd, .string x.any.name, .int .i64 x.any.kind, .int .i64 x.any.from_, .int .i64 x.any.to_] 33)
      have ha := heap_alloc_new wr (.cells #[.slice x.A x.add.length x.ca, .slice x.D x.drop.length x.cd, .int .u8 (x.floor.toNat : Int), .bool x.odd, .string x.any.name, .int .i64 x.any.kind, .int .i64 x.any.from_, .int .i64 x.any.to_] 33)
      clear cc hx
      go_upto_region 7 with (fail)
      obtain ⟨Y, hY⟩ : ∃ Y, Y = wr.heap.size := ⟨_, rfl⟩
      rw [← hY] at ha ⊢
      have hSY : S < Y := by rw [hY]; exact lt_of_blk LS.out.blk
      generalize wr.alloc (.cells #[.slice x.A x.add.length x.ca, .slice x.D x.drop.length x.cd, .int .u8 (x.floor.toNat : Int), .bool x.odd, .string x.any.name, .int .i64 x.any.kind, .int .i64 x.any.from_, .int .i64 x.any.to_] 33) = w3 at ka ha ⊢
      have L3 := Lib.hid (LS.out.keep ka)
      have LE := Lib.hid (edit_step (XL.out.keep ka (fun _ _ h => h)))
      have hE5 := editOf_add x
      have hE4 := editOf_drop x
      have hE0 := editOf_floor x
      have hSZ := editOf_size x
      have hEF : x.odd = false → ∀ r ∈ (editOf x).add, Few r.name := editOf_few
      obtain ⟨e, he⟩ : ∃ e, e = editOf x := ⟨_, rfl⟩
      rw [← he] at LE hE5 hE4 hE0 hSZ hEF
      have HEF := Lib.hid hEF
      clear hEF
      have DO := Lib.hid (do_step (f := f) L3.out.good (by have := L3.out.len; omega) (by omega) (by omega) hSZ)
      have HA := Lib.hid ha
      have HS3 : Hid (S < w3.heap.size) := lt_of_blk L3.out.blk
      have CE : Hid (∀ u, Kept noBlock w3 u → (u.cell? ⟨S, 0, none⟩ = some (.slice A N.length c) ∧ u.cell? ⟨S, 1, none⟩ = some (.int .i64 f)) ∧ (u.cell? ⟨Y, 0, none⟩ = some (.slice x.A x.add.length x.ca) ∧ u.cell? ⟨Y, 1, none⟩ = some (.slice x.D x.drop.length x.cd) ∧ u.cell? ⟨Y, 2, none⟩ = some (.int .u8 (x.floor.toNat : Int)) ∧ u.cell? ⟨Y, 3, none⟩ = some (.bool x.odd) ∧ u.cell? ⟨Y, 4, none⟩ = some (.string x.any.name) ∧ u.cell? ⟨Y, 5, none⟩ = some (.int .i64 x.any.kind) ∧ u.cell? ⟨Y, 6, none⟩ = some (.int .i64 x.any.from_) ∧ u.cell? ⟨Y, 7, none⟩ = some (.int .i64 x.any.to_))) :=
        fun u k => ⟨two_cells (k.blk L3.out.blk (fun h => h)), step_cells (k.blk HA.out (fun h => h))⟩
      clear e0 e1 e2 e3 e4 e5 e6 e7 ka ha LS XL he hSZ hY
      go_cut [8, 9] (fun p q wc => ∃ X A' c', p = .pointer (some ⟨X, 0, none⟩) ∧ q = .int .i64 (doE N f e).2 ∧ X ≠ S ∧ Hid (wc.heap[X]? = some (.cells #[.slice A' (doE N f e).1.length c', .int .i64 (doF N f e)] 26 (0, 0))) ∧ Hid (Sw wc (fun i => i ≠ S) (doE N f e).1 A' c') ∧ Hid (Kept noBlock w3 wc))
      case first =>
        have KC : Hid (Kept noBlock w3 w3.drew) := Kept.drew _ _
        refine wp_region_noPanic ?_
        refine wp_region_held_drew (S := fun u => (u.cell? ⟨S, 0, none⟩ = some (.slice A N.length c) ∧ u.cell? ⟨S, 1, none⟩ = some (.int .i64 f)) ∧ (u.cell? ⟨Y, 0, none⟩ = some (.slice x.A x.add.length x.ca) ∧ u.cell? ⟨Y, 1, none⟩ = some (.slice x.D x.drop.length x.cd) ∧ u.cell? ⟨Y, 2, none⟩ = some (.int .u8 (x.floor.toNat : Int)) ∧ u.cell? ⟨Y, 3, none⟩ = some (.bool x.odd) ∧ u.cell? ⟨Y, 4, none⟩ = some (.string x.any.name) ∧ u.cell? ⟨Y, 5, none⟩ = some (.int .i64 x.any.kind) ∧ u.cell? ⟨Y, 6, none⟩ = some (.int .i64 x.any.from_) ∧ u.cell? ⟨Y, 7, none⟩ = some (.int .i64 x.any.to_))) (by kernel_rfl) (CE.out _ KC.out) (fun hHeld => ?_)
        refine wpAnyH_take (i := 0) (oi := ⟨some 32, Op.load 26 (Operand.tmp 5), 26, _, _, none⟩) (v := ?v0n1k1) rfl (by kernel_rfl) (by kernel_rfl) (by kernel_rfl) (fun _ _ _ h => h) (Or.inl ⟨by rfl, ?y0n1k1⟩) hHeld ?z0n1k1
        case y0n1k1 => intro w hSw; (try dsimp only at hSw); go_simp <;> rfl
        try simp only [Act.put, List.setIfInBounds_toArray, List.set_cons_zero, List.set_cons_succ]
        refine wpAnyH_take (i := 1) (oi := ⟨some 33, Op.load 33 (Operand.tmp 7), 33, _, _, none⟩) (v := ?v1n1k2) rfl (by kernel_rfl) (by kernel_rfl) (by kernel_rfl) (fun _ _ _ h => h) (Or.inl ⟨by rfl, ?y1n1k2⟩) hHeld ?z1n1k2
        case y1n1k2 => intro w hSw; (try dsimp only at hSw); go_simp <;> rfl
        try simp only [Act.put, List.setIfInBounds_toArray, List.set_cons_zero, List.set_cons_succ]
        refine wpAnyH_ready (rs := [2, 7]) (by kernel_rfl) (by simp) ?_
        refine (AllReadyH.cons (o := ⟨some 34, Op.call { callee := Callee.value (Operand.func 12), args := #[Operand.tmp 33], argTypes := #[33] }, 36, _, _, none⟩) rfl (fun K hK => ?b2n1k4) (AllReadyH.cons (o := ⟨some 8, Op.alloc 26, 0, _, _, none⟩) rfl (fun K hK => ?b7n1k3) AllReadyH.nil))
        case b2n1k4 =>
          go_simp
          refine (LE.out _ KC.out).mono ?_
          rintro en u2 ⟨A2, a2, D2, d2, rfl, ev2, k2⟩
          have EV := Lib.hid ev2
          try have HX2 := Lib.hid (k2.blk HB.out (fun h => h))
          try clear HB
          try have HB := HX2
          try clear HX2
          replace KC := Lib.hid (KC.out.step k2)
          clear ev2 k2
          dsimp only
          refine hK.out _ _ (CE.out _ KC.out) (fun hHeld => ?_)
          clear hK K
          try simp only [Act.put, List.setIfInBounds_toArray, List.set_cons_zero, List.set_cons_succ]
          refine wpAnyH_ready (rs := [3, 7]) (by kernel_rfl) (by simp) ?_
          refine (AllReadyH.cons (o := ⟨some 35, Op.call { callee := Callee.value (Operand.func 13), args := #[Operand.tmp 32, Operand.tmp 34], argTypes := #[26, 36] }, 39, _, _, none⟩) rfl (fun K hK => ?b3n1k6) (AllReadyH.cons (o := ⟨some 8, Op.alloc 26, 0, _, _, none⟩) rfl (fun K hK => ?b7n1k5) AllReadyH.nil))
          case b3n1k6 =>
            go_simp
            refine (DO.out _ _ _ _ _ _ _ _ _ (L3.out.sw.kept KC.out) EV.out).mono ?_
            rintro en u4 ⟨A4, c4, rfl, sw4, k4⟩
            first
              | have SW := Lib.hid (sw4.mono (G := fun i => i ≠ X ∧ i ≠ S) (fun i hi => by have h1 := hi.1; have h2 := lt_of_blk HB.out; have h3 := HS3.out; have h4 := KC.out.size; omega))
              | have SW := Lib.hid (sw4.mono (G := fun i => i < u4.heap.size ∧ i ≠ S) (fun i hi => by have h1 := hi.1; have h2 := hi.2; have h3 := HS3.out; have h4 := KC.out.size; omega))
            try have HX2 := Lib.hid (k4.blk HB.out (fun h => h))
            try clear HB
            try have HB := HX2
            try clear HX2
            replace KC := Lib.hid (KC.out.step k4)
            clear sw4 k4
            dsimp only
            refine hK.out _ _ (CE.out _ KC.out) (fun hHeld => ?_)
            clear hK K
            try simp only [Act.put, List.setIfInBounds_toArray, List.set_cons_zero, List.set_cons_succ]
            refine wpAnyH_take (i := 4) (oi := ⟨some 31, Op.move (Operand.tmp 35), 39, _, _, none⟩) (v := ?v4n1k7) rfl (by kernel_rfl) (by kernel_rfl) (by kernel_rfl) (fun _ _ _ h => h) (Or.inl ⟨by rfl, ?y4n1k7⟩) hHeld ?z4n1k7
            case y4n1k7 => intro w hSw; (try dsimp only at hSw); go_simp <;> rfl
            try simp only [Act.put, List.setIfInBounds_toArray, List.set_cons_zero, List.set_cons_succ]
            refine wpAnyH_take (i := 5) (oi := ⟨some 36, Op.extract (Operand.tmp 31) 0, 26, _, _, none⟩) (v := ?v5n1k8) rfl (by kernel_rfl) (by kernel_rfl) (by kernel_rfl) (fun _ _ _ h => h) (Or.inl ⟨by rfl, ?y5n1k8⟩) hHeld ?z5n1k8
            case y5n1k8 => intro w hSw; (try dsimp only at hSw); go_simp <;> rfl
            try simp only [Act.put, List.setIfInBounds_toArray, List.set_cons_zero, List.set_cons_succ]
            refine wpAnyH_take (i := 6) (oi := ⟨some 37, Op.extract (Operand.tmp 31) 1, 38, _, _, none⟩) (v := ?v6n1k9) rfl (by kernel_rfl) (by kernel_rfl) (by kernel_rfl) (fun _ _ _ h => h) (Or.inl ⟨by rfl, ?y6n1k9⟩) hHeld ?z6n1k9
            case y6n1k9 => intro w hSw; (try dsimp only at hSw); go_simp <;> rfl
            try simp only [Act.put, List.setIfInBounds_toArray, List.set_cons_zero, List.set_cons_succ]
            refine wpAnyH_ready (rs := [7]) (by kernel_rfl) (by simp) ?_
            refine AllReadyH.cons (o := ⟨some 8, Op.alloc 26, 0, _, _, none⟩) rfl (fun K hK => ?_) AllReadyH.nil
            refine step_allocE ?_
            intro X u9 k9 hX9 hx9
            have HB := Lib.hid hx9
            have LX : Hid (w3.heap.size ≤ X) := Nat.le_trans KC.out.size hX9
            replace KC := Lib.hid (KC.out.step k9)
            try have EV5 := Lib.hid (EV.out.kept k9)
            try clear EV
            try have EV := EV5
            try clear EV5
            try have SW9 := Lib.hid ((SW.out.kept k9).mono (G := fun i => i ≠ X ∧ i ≠ S) (fun i hi => by have h1 := hi.1; have h2 := hi.2; omega))
            try clear SW
            try have SW := SW9
            try clear SW9
            clear k9 hX9 hx9
            refine hK.out _ _ (CE.out _ KC.out) (fun hHeld => ?_)
            clear hK K
            try simp only [Act.put, List.setIfInBounds_toArray, List.set_cons_zero, List.set_cons_succ]
            refine wpAnyH_ready (rs := [8]) (by kernel_rfl) (by simp) ?_
            refine AllReadyH.cons (o := ⟨none, Op.store 26 (Operand.tmp 8) (Operand.tmp 36), 0, _, _, none⟩) rfl (fun K hK => ?_) AllReadyH.nil
            refine step_storeE rfl rfl HB.out ?_
            have R := Lib.hid (do_end (f := doF N f e) HB.out SW.out KC.out LX.out HS3.out)
            replace KC := Lib.hid (KC.out.trans (setE_two (n := (doE N f e).1.length) (A := A4) (c := c4) (f := doF N f e) HB.out).2 (fun i hi e => by have := LX.out; omega))
            refine hK.out _ _ (CE.out _ KC.out) (fun hHeld => ?_)
            clear hK K
            try simp only [Act.put, List.setIfInBounds_toArray, List.set_cons_zero, List.set_cons_succ]
            refine wpAnyH_take (i := 9) (oi := ⟨some 9, Op.assign (Operand.tmp 37), 38, _, _, none⟩) (v := ?v9n1k10) rfl (by kernel_rfl) (by kernel_rfl) (by kernel_rfl) (fun _ _ _ h => h) (Or.inl ⟨by rfl, ?y9n1k10⟩) hHeld ?z9n1k10
            case y9n1k10 => intro w hSw; (try dsimp only at hSw); go_simp <;> rfl
            try simp only [Act.put, List.setIfInBounds_toArray, List.set_cons_zero, List.set_cons_succ]
            refine wpAnyH_done (by kernel_rfl) ?_ _
            refine NoPanic.normal ?_
            clear hHeld
            go_wp2
            go_meet
            case rel =>
              obtain ⟨X', A', c', h1, h2, h3, h4, h5⟩ := R.out
              exact ⟨X', A', c', h1, rfl, h2, h3, h4, h5⟩
          case b7n1k5 =>
            refine step_allocE ?_
            intro X u9 k9 hX9 hx9
            have HB := Lib.hid hx9
            have LX : Hid (w3.heap.size ≤ X) := Nat.le_trans KC.out.size hX9
            replace KC := Lib.hid (KC.out.step k9)
            try have EV5 := Lib.hid (EV.out.kept k9)
            try clear EV
            try have EV := EV5
            try clear EV5
            try have SW9 := Lib.hid ((SW.out.kept k9).mono (G := fun i => i ≠ X ∧ i ≠ S) (fun i hi => by have h1 := hi.1; have h2 := hi.2; omega))
            try clear SW
            try have SW := SW9
            try clear SW9
            clear k9 hX9 hx9
            refine hK.out _ _ (CE.out _ KC.out) (fun hHeld => ?_)
            clear hK K
            try simp only [Act.put, List.setIfInBounds_toArray, List.set_cons_zero, List.set_cons_succ]
            refine wpAnyH_ready (rs := [3]) (by kernel_rfl) (by simp) ?_
            refine AllReadyH.cons (o := ⟨some 35, Op.call { callee := Callee.value (Operand.func 13), args := #[Operand.tmp 32, Operand.tmp 34], argTypes := #[26, 36] }, 39, _, _, none⟩) rfl (fun K hK => ?_) AllReadyH.nil
            go_simp
            refine (DO.out _ _ _ _ _ _ _ _ _ (L3.out.sw.kept KC.out) EV.out).mono ?_
            rintro en u4 ⟨A4, c4, rfl, sw4, k4⟩
            first
              | have SW := Lib.hid (sw4.mono (G := fun i => i ≠ X ∧ i ≠ S) (fun i hi => by have h1 := hi.1; have h2 := lt_of_blk HB.out; have h3 := HS3.out; have h4 := KC.out.size; omega))
              | have SW := Lib.hid (sw4.mono (G := fun i => i < u4.heap.size ∧ i ≠ S) (fun i hi => by have h1 := hi.1; have h2 := hi.2; have h3 := HS3.out; have h4 := KC.out.size; omega))
            try have HX2 := Lib.hid (k4.blk HB.out (fun h => h))
            try clear HB
            try have HB := HX2
            try clear HX2
            replace KC := Lib.hid (KC.out.step k4)
            clear sw4 k4
            dsimp only
            refine hK.out _ _ (CE.out _ KC.out) (fun hHeld => ?_)
            clear hK K
            try simp only [Act.put, List.setIfInBounds_toArray, List.set_cons_zero, List.set_cons_succ]
            refine wpAnyH_take (i := 4) (oi := ⟨some 31, Op.move (Operand.tmp 35), 39, _, _, none⟩) (v := ?v4n1k11) rfl (by kernel_rfl) (by kernel_rfl) (by kernel_rfl) (fun _ _ _ h => h) (Or.inl ⟨by rfl, ?y4n1k11⟩) hHeld ?z4n1k11
            case y4n1k11 => intro w hSw; (try dsimp only at hSw); go_simp <;> rfl
            try simp only [Act.put, List.setIfInBounds_toArray, List.set_cons_zero, List.set_cons_succ]
            refine wpAnyH_take (i := 5) (oi := ⟨some 36, Op.extract (Operand.tmp 31) 0, 26, _, _, none⟩) (v := ?v5n1k12) rfl (by kernel_rfl) (by kernel_rfl) (by kernel_rfl) (fun _ _ _ h => h) (Or.inl ⟨by rfl, ?y5n1k12⟩) hHeld ?z5n1k12
            case y5n1k12 => intro w hSw; (try dsimp only at hSw); go_simp <;> rfl
            try simp only [Act.put, List.setIfInBounds_toArray, List.set_cons_zero, List.set_cons_succ]
            refine wpAnyH_take (i := 6) (oi := ⟨some 37, Op.extract (Operand.tmp 31) 1, 38, _, _, none⟩) (v := ?v6n1k13) rfl (by kernel_rfl) (by kernel_rfl) (by kernel_rfl) (fun _ _ _ h => h) (Or.inl ⟨by rfl, ?y6n1k13⟩) hHeld ?z6n1k13
            case y6n1k13 => intro w hSw; (try dsimp only at hSw); go_simp <;> rfl
            try simp only [Act.put, List.setIfInBounds_toArray, List.set_cons_zero, List.set_cons_succ]
            refine wpAnyH_ready (rs := [8]) (by kernel_rfl) (by simp) ?_
            refine AllReadyH.cons (o := ⟨none, Op.store 26 (Operand.tmp 8) (Operand.tmp 36), 0, _, _, none⟩) rfl (fun K hK => ?_) AllReadyH.nil
            refine step_storeE rfl rfl HB.out ?_
            have R := Lib.hid (do_end (f := doF N f e) HB.out SW.out KC.out LX.out HS3.out)
            replace KC := Lib.hid (KC.out.trans (setE_two (n := (doE N f e).1.length) (A := A4) (c := c4) (f := doF N f e) HB.out).2 (fun i hi e => by have := LX.out; omega))
            refine hK.out _ _ (CE.out _ KC.out) (fun hHeld => ?_)
            clear hK K
            try simp only [Act.put, List.setIfInBounds_toArray, List.set_cons_zero, List.set_cons_succ]
            refine wpAnyH_take (i := 9) (oi := ⟨some 9, Op.assign (Operand.tmp 37), 38, _, _, none⟩) (v := ?v9n1k14) rfl (by kernel_rfl) (by kernel_rfl) (by kernel_rfl) (fun _ _ _ h => h) (Or.inl ⟨by rfl, ?y9n1k14⟩) hHeld ?z9n1k14
            case y9n1k14 => intro w hSw; (try dsimp only at hSw); go_simp <;> rfl
            try simp only [Act.put, List.setIfInBounds_toArray, List.set_cons_zero, List.set_cons_succ]
            refine wpAnyH_done (by kernel_rfl) ?_ _
            refine NoPanic.normal ?_
            clear hHeld
            go_wp2
            go_meet
            case rel =>
              obtain ⟨X', A', c', h1, h2, h3, h4, h5⟩ := R.out
              exact ⟨X', A', c', h1, rfl, h2, h3, h4, h5⟩
        case b7n1k3 =>
          refine step_allocE ?_
          intro X u9 k9 hX9 hx9
          have HB := Lib.hid hx9
          have LX : Hid (w3.heap.size ≤ X) := Nat.le_trans KC.out.size hX9
          replace KC := Lib.hid (KC.out.step k9)
          try have EV5 := Lib.hid (EV.out.kept k9)
          try clear EV
          try have EV := EV5
          try clear EV5
          try have SW9 := Lib.hid ((SW.out.kept k9).mono (G := fun i => i ≠ X ∧ i ≠ S) (fun i hi => by have h1 := hi.1; have h2 := hi.2; omega))
          try clear SW
          try have SW := SW9
          try clear SW9
          clear k9 hX9 hx9
          refine hK.out _ _ (CE.out _ KC.out) (fun hHeld => ?_)
          clear hK K
          try simp only [Act.put, List.setIfInBounds_toArray, List.set_cons_zero, List.set_cons_succ]
          refine wpAnyH_ready (rs := [2]) (by kernel_rfl) (by simp) ?_
          refine AllReadyH.cons (o := ⟨some 34, Op.call { callee := Callee.value (Operand.func 12), args := #[Operand.tmp 33], argTypes := #[33] }, 36, _, _, none⟩) rfl (fun K hK => ?_) AllReadyH.nil
          go_simp
          refine (LE.out _ KC.out).mono ?_
          rintro en u2 ⟨A2, a2, D2, d2, rfl, ev2, k2⟩
          have EV := Lib.hid ev2
          try have HX2 := Lib.hid (k2.blk HB.out (fun h => h))
          try clear HB
          try have HB := HX2
          try clear HX2
          replace KC := Lib.hid (KC.out.step k2)
          clear ev2 k2
          dsimp only
          refine hK.out _ _ (CE.out _ KC.out) (fun hHeld => ?_)
          clear hK K
          try simp only [Act.put, List.setIfInBounds_toArray, List.set_cons_zero, List.set_cons_succ]
          refine wpAnyH_ready (rs := [3]) (by kernel_rfl) (by simp) ?_
          refine AllReadyH.cons (o := ⟨some 35, Op.call { callee := Callee.value (Operand.func 13), args := #[Operand.tmp 32, Operand.tmp 34], argTypes := #[26, 36] }, 39, _, _, none⟩) rfl (fun K hK => ?_) AllReadyH.nil
          go_simp
          refine (DO.out _ _ _ _ _ _ _ _ _ (L3.out.sw.kept KC.out) EV.out).mono ?_
          rintro en u4 ⟨A4, c4, rfl, sw4, k4⟩
          first
            | have SW := Lib.hid (sw4.mono (G := fun i => i ≠ X ∧ i ≠ S) (fun i hi => by have h1 := hi.1; have h2 := lt_of_blk HB.out; have h3 := HS3.out; have h4 := KC.out.size; omega))
            | have SW := Lib.hid (sw4.mono (G := fun i => i < u4.heap.size ∧ i ≠ S) (fun i hi => by have h1 := hi.1; have h2 := hi.2; have h3 := HS3.out; have h4 := KC.out.size; omega))
          try have HX2 := Lib.hid (k4.blk HB.out (fun h => h))
          try clear HB
          try have HB := HX2
          try clear HX2
          replace KC := Lib.hid (KC.out.step k4)
          clear sw4 k4
          dsimp only
          refine hK.out _ _ (CE.out _ KC.out) (fun hHeld => ?_)
          clear hK K
          try simp only [Act.put, List.setIfInBounds_toArray, List.set_cons_zero, List.set_cons_succ]
          refine wpAnyH_take (i := 4) (oi := ⟨some 31, Op.move (Operand.tmp 35), 39, _, _, none⟩) (v := ?v4n1k15) rfl (by kernel_rfl) (by kernel_rfl) (by kernel_rfl) (fun _ _ _ h => h) (Or.inl ⟨by rfl, ?y4n1k15⟩) hHeld ?z4n1k15
          case y4n1k15 => intro w hSw; (try dsimp only at hSw); go_simp <;> rfl
          try simp only [Act.put, List.setIfInBounds_toArray, List.set_cons_zero, List.set_cons_succ]
          refine wpAnyH_take (i := 5) (oi := ⟨some 36, Op.extract (Operand.tmp 31) 0, 26, _, _, none⟩) (v := ?v5n1k16) rfl (by kernel_rfl) (by kernel_rfl) (by kernel_rfl) (fun _ _ _ h => h) (Or.inl ⟨by rfl, ?y5n1k16⟩) hHeld ?z5n1k16
          case y5n1k16 => intro w hSw; (try dsimp only at hSw); go_simp <;> rfl
          try simp only [Act.put, List.setIfInBounds_toArray, List.set_cons_zero, List.set_cons_succ]
          refine wpAnyH_take (i := 6) (oi := ⟨some 37, Op.extract (Operand.tmp 31) 1, 38, _, _, none⟩) (v := ?v6n1k17) rfl (by kernel_rfl) (by kernel_rfl) (by kernel_rfl) (fun _ _ _ h => h) (Or.inl ⟨by rfl, ?y6n1k17⟩) hHeld ?z6n1k17
          case y6n1k17 => intro w hSw; (try dsimp only at hSw); go_simp <;> rfl
          try simp only [Act.put, List.setIfInBounds_toArray, List.set_cons_zero, List.set_cons_succ]
          refine wpAnyH_ready (rs := [8]) (by kernel_rfl) (by simp) ?_
          refine AllReadyH.cons (o := ⟨none, Op.store 26 (Operand.tmp 8) (Operand.tmp 36), 0, _, _, none⟩) rfl (fun K hK => ?_) AllReadyH.nil
          refine step_storeE rfl rfl HB.out ?_
          have R := Lib.hid (do_end (f := doF N f e) HB.out SW.out KC.out LX.out HS3.out)
          replace KC := Lib.hid (KC.out.trans (setE_two (n := (doE N f e).1.length) (A := A4) (c := c4) (f := doF N f e) HB.out).2 (fun i hi e => by have := LX.out; omega))
          refine hK.out _ _ (CE.out _ KC.out) (fun hHeld => ?_)
          clear hK K
          try simp only [Act.put, List.setIfInBounds_toArray, List.set_cons_zero, List.set_cons_succ]
          refine wpAnyH_take (i := 9) (oi := ⟨some 9, Op.assign (Operand.tmp 37), 38, _, _, none⟩) (v := ?v9n1k18) rfl (by kernel_rfl) (by kernel_rfl) (by kernel_rfl) (fun _ _ _ h => h) (Or.inl ⟨by rfl, ?y9n1k18⟩) hHeld ?z9n1k18
          case y9n1k18 => intro w hSw; (try dsimp only at hSw); go_simp <;> rfl
          try simp only [Act.put, List.setIfInBounds_toArray, List.set_cons_zero, List.set_cons_succ]
          refine wpAnyH_done (by kernel_rfl) ?_ _
          refine NoPanic.normal ?_
          clear hHeld
          go_wp2
          go_meet
          case rel =>
            obtain ⟨X', A', c', h1, h2, h3, h4, h5⟩ := R.out
            exact ⟨X', A', c', h1, rfl, h2, h3, h4, h5⟩
      case rest =>
        obtain ⟨X, A', c', rfl, rfl, hXS, HX2, SW, KC⟩ := hcut
        have LC := Lib.hid (L3.out.keep KC.out)
        have hlen := doE_len (f := f) (e := e) LC.out.good.up
        have hgood := doE_good (f := f) (e := e) LC.out.good
        have hfloor := doE_floor (N := N) (f := f) (e := e)
        have hdf : (doE N f e).2 = 0 → doF N f e = e.floor := fun h => if_pos h
        have hfew : x.odd = false → ∀ p ∈ (doE N f e).1, Few p.1 := fun h => doE_names LC.out.good HF.out (HEF.out h)
        obtain ⟨N', hN'⟩ : ∃ N', N' = (doE N f e).1 := ⟨_, rfl⟩
        obtain ⟨r, hr⟩ : ∃ r, r = (doE N f e).2 := ⟨_, rfl⟩
        obtain ⟨z, hz⟩ : ∃ z, z = doF N f e := ⟨_, rfl⟩
        obtain ⟨y, hy⟩ : ∃ y, y = e.floor := ⟨_, rfl⟩
        rw [← hN'] at HX2 SW hlen hgood hfew
        rw [← hr] at hfloor hdf ⊢
        rw [← hz] at HX2 hdf
        rw [← hy] at hfloor hdf hE0
        obtain ⟨y0, y1, y2, y3, y4, y5, y6, y7⟩ := step_cells (KC.out.blk HA.out (fun h => h))
        have HFW := Lib.hid hfew
        clear hN' hr hz hy DO LE HA CE KC L3 HEF hfew y0 y1 y2 y4 y5 y6 y7
        obtain ⟨x0, x1⟩ := two_cells HX2.out
        obtain ⟨s0, s1⟩ := two_cells LC.out.blk
        have f0 : wc.frozen? ⟨S, 0, none⟩ = false := frozen_of_row _ _ _ _ _ LC.out.blk
        have f1 : wc.frozen? ⟨S, 1, none⟩ = false := frozen_of_row _ _ _ _ _ LC.out.blk
        have hl5 := LC.out.len
        obtain ⟨od, hod⟩ : ∃ od, od = x.odd := ⟨_, rfl⟩
        rw [← hod] at y3 HFW
        clear hod
        have LM := Lib.hid (LC.out.more (k' := k + 1) (by omega))
        by_cases hr0 : r = 0
        · obtain ⟨g1, g2⟩ := hfloor hr0
          obtain rfl := hdf hr0
          subst hr0
          cases od with
          | false =>
            have LN := Lib.hid (LC.out.store (k' := k + 1) hSw SW.out hgood (by omega) (by omega) g2)
            unfold setE at LN
            have HFN : Hid (∀ p ∈ N', Few p.1) := HFW.out rfl
            clear hlen hgood hfloor hdf HFW
            go_wp2
            go_roundw
            case rel => exact ⟨k + 1, N', z, A', c', by omega, by go_num, LN, HFN⟩
            case measure => simp [intOf]; omega
          | true =>
            clear hlen hgood hfloor hdf HFW
            go_wp2
            go_roundw
            case rel => exact ⟨k + 1, N, f, A, c, by omega, by go_num, LM, HF⟩
            case measure => simp [intOf]; omega
        · have hr1 : (r == 0) = false := by simpa using hr0
          clear hlen hgood hfloor hdf HFW
          go_wp2
          go_roundw
          case rel => exact ⟨k + 1, N, f, A, c, by omega, by go_num, LM, HF⟩
          case measure => simp [intOf]; omega
    · obtain rfl : k = M := by omega
      have hl5 := LS.out.len
      have hf1 := LS.out.f1
      obtain ⟨ha1, hMg⟩ := once_add (f := f) LS.out.good HF.out hgz hf1
      have ha2 := once_again (f := f) hgz hMg.up
      have ha3 := once_del (f := f) LS.out.good hf1 hMg.up
      have ha4 := once_none (f := f) HF.out
      obtain ⟨hf8, hf9⟩ := once_find (g := g) LS.out.good HF.out
      obtain ⟨MM, hMM⟩ : ∃ MM, MM = N ++ [(zz, rZ g)] := ⟨_, rfl⟩
      obtain ⟨NL, hNL⟩ : ∃ NL, NL = N.length := ⟨_, rfl⟩
      have hML : MM.length = NL + 1 := by rw [hMM, hNL]; simp
      rw [← hMM] at ha1 ha2 ha3 hMg hf8
      have D1 := do_step (N := N) (f := f) (e := ⟨[rZ g], [], f⟩) LS.out.good (by omega) (by simp) (by simp) (fun k hk => by cases hk)
      have D2 := do_step (N := MM) (f := f) (e := ⟨[rZ g], [], f⟩) hMg (by omega) (by simp) (by simp) (fun k hk => by cases hk)
      have D3 := do_step (N := MM) (f := f) (e := ⟨[], [zz], f⟩) hMg (by omega) (by simp) (by simp) (fun k hk => by rw [List.mem_singleton] at hk; rw [hk]; decide)
      have D4 := do_step (N := N) (f := f) (e := ⟨[], [zz], f⟩) LS.out.good (by omega) (by simp) (by simp) (fun k hk => by rw [List.mem_singleton] at hk; rw [hk]; decide)
      unfold doF at D1 D2 D3 D4
      rw [ha1] at D1
      rw [ha2] at D2
      rw [ha3] at D3
      rw [ha4] at D4
      simp only [List.length_singleton, List.length_nil, if_true] at D1 D2 D3 D4
      rw [← hNL] at hf8
      simp only [← hNL, hML] at D1 D2 D3 D4
      have b0 := LS.out.blk
      rw [← hNL] at b0
      have HNL := Lib.hid hNL
      have HML := Lib.hid hML
      have B0 := Lib.hid b0
      have D1 := Lib.hid D1
      have D2 := Lib.hid D2
      have D3 := Lib.hid D3
      have D4 := Lib.hid D4
      have F8 := Lib.hid hf8
      have F9 := Lib.hid hf9
      have hNs : NL ≤ 150 := by omega
      have ka := Kept.alloc noBlock wr (.cells #[.string ⟨#[122, 122]⟩, .int .i64 2, .int .i64 (g : Int), .int .i64 (g : Int)] 31)
      have ha := heap_alloc_new wr (.cells #[.string ⟨#[122, 122]⟩, .int .i64 2, .int .i64 (g : Int), .int .i64 (g : Int)] 31)
      clear hlt hNL hML hMM ha1 ha2 ha3 ha4 hf8 hf9 b0 hl5
      go_upto_region 12 with (fail)
      obtain ⟨R, hR⟩ : ∃ R, R = wr.heap.size := ⟨_, rfl⟩
      rw [← hR] at ha ⊢
      generalize wr.alloc (.cells #[.string ⟨#[122, 122]⟩, .int .i64 2, .int .i64 (g : Int), .int .i64 (g : Int)] 31) = u1 at ka ha ⊢
      have L1 := Lib.hid (LS.out.keep ka)
      have B1 := Lib.hid (ka.blk B0.out (fun h => h))
      have R1 := Lib.hid ha
      clear ka ha LS B0 hR
      obtain ⟨s0, s1⟩ := two_cells B1.out
      obtain ⟨r0, r1, r2, r3⟩ := ref_cells R1.out
      have kb := Kept.alloc noBlock u1 (.cells #[.string ⟨#[122, 122]⟩, .int .i64 2, .int .i64 (g : Int), .int .i64 (g : Int)] 31)
      have hb := heap_alloc_new u1 (.cells #[.string ⟨#[122, 122]⟩, .int .i64 2, .int .i64 (g : Int), .int .i64 (g : Int)] 31)
      have C1 := Lib.hid (D1.out _ A c (some ⟨u1.heap.size, 0, none⟩) 1 none 0 _ (fun _ => True) (L1.out.sw.kept kb) ⟨ref_new (x := rZ g) hb trivial, Lies.nil _ _ _, Nat.le_refl _, Nat.le_refl _⟩)
      have KB := Lib.hid kb
      obtain ⟨p0, p1⟩ := two_cells (kb.blk B1.out (fun h => h))
      clear D1 kb hb
      go_wp2_with fail
      refine C1.out.mono ?_
      rintro en w3 ⟨A3, c3, rfl, sw3, k3⟩
      have ka := Kept.alloc noBlock w3 (.cells #[.slice A3 (NL + 1) c3, .int .i64 f] 26)
      have ha := heap_alloc_new w3 (.cells #[.slice A3 (NL + 1) c3, .int .i64 f] 26)
      go_upto_region 13 with (fail)
      obtain ⟨X, hX⟩ : ∃ X, X = w3.heap.size := ⟨_, rfl⟩
      rw [← hX] at ha ⊢
      generalize w3.alloc (.cells #[.slice A3 (NL + 1) c3, .int .i64 f] 26) = u4 at ka ha ⊢
      have k14 := (KB.out.step k3).step ka
      have L4 := Lib.hid (L1.out.keep k14)
      have B4 := Lib.hid (k14.blk B1.out (fun h => h))
      have R4 := Lib.hid (k14.blk R1.out (fun h => h))
      have X4 := Lib.hid ha
      have SX4 : Hid (Sw u4 (fun _ => True) MM A3 c3) := (sw3.kept ka).mono (fun _ _ => trivial)
      clear ka ha k14 KB C1 L1 B1 R1 sw3 k3 s0 s1 p0 p1 r0 r1 r2 r3 hX
      obtain ⟨x0, x1⟩ := two_cells X4.out
      obtain ⟨r0, r1, r2, r3⟩ := ref_cells R4.out
      have kb := Kept.alloc noBlock u4 (.cells #[.string ⟨#[122, 122]⟩, .int .i64 2, .int .i64 (g : Int), .int .i64 (g : Int)] 31)
      have hb := heap_alloc_new u4 (.cells #[.string ⟨#[122, 122]⟩, .int .i64 2, .int .i64 (g : Int), .int .i64 (g : Int)] 31)
      have C2 := Lib.hid (D2.out _ A3 c3 (some ⟨u4.heap.size, 0, none⟩) 1 none 0 _ (fun _ => True) (SX4.out.kept kb) ⟨ref_new (x := rZ g) hb trivial, Lies.nil _ _ _, Nat.le_refl _, Nat.le_refl _⟩)
      have KB := Lib.hid kb
      obtain ⟨p0, p1⟩ := two_cells (kb.blk X4.out (fun h => h))
      clear D2 kb hb
      go_wp2_with fail
      refine C2.out.mono ?_
      rintro en w5 ⟨A5, c5, rfl, _, k5⟩
      have ka := Kept.alloc noBlock w5 (.cells #[.slice A5 0 c5, .int .i64 0] 26)
      go_upto_region 14 with (fail)
      generalize w5.alloc (.cells #[.slice A5 0 c5, .int .i64 0] 26) = u6 at ka ⊢
      have k46 := (KB.out.step k5).step ka
      have L6 := Lib.hid (L4.out.keep k46)
      have B6 := Lib.hid (k46.blk B4.out (fun h => h))
      have X6 := Lib.hid (k46.blk X4.out (fun h => h))
      have SX6 := Lib.hid (SX4.out.kept k46)
      clear ka k46 KB C2 L4 B4 R4 X4 SX4 k5 x0 x1 p0 p1 r0 r1 r2 r3
      obtain ⟨x0, x1⟩ := two_cells X6.out
      have kb := Kept.alloc noBlock u6 (.cells #[.string ⟨#[122, 122]⟩] 9)
      have hb := heap_alloc_new u6 (.cells #[.string ⟨#[122, 122]⟩] 9)
      have C3 := Lib.hid (D3.out _ A3 c3 none 0 (some ⟨u6.heap.size, 0, none⟩) 1 _ (fun _ => True) (SX6.out.kept kb) ⟨Lies.nil _ _ _, fun _ => ⟨_, rfl, trivial, fun j u hu => by
        have hu1 : [Value.string ⟨#[122, 122]⟩][j]? = some u := hu
        rw [add_plain, cell_of_row _ _ _ _ _ _ hb]
        simpa using hu1⟩, Nat.le_refl _, Nat.le_refl _⟩)
      have KB := Lib.hid kb
      obtain ⟨p0, p1⟩ := two_cells (kb.blk X6.out (fun h => h))
      clear D3 kb hb
      go_wp2_with fail
      refine C3.out.mono ?_
      rintro en w7 ⟨A7, c7, rfl, sw7, k7⟩
      have ka := Kept.alloc noBlock w7 (.cells #[.slice A7 NL c7, .int .i64 f] 26)
      have ha := heap_alloc_new w7 (.cells #[.slice A7 NL c7, .int .i64 f] 26)
      go_upto_region 15 with (fail)
      obtain ⟨Y, hY⟩ : ∃ Y, Y = w7.heap.size := ⟨_, rfl⟩
      rw [← hY] at ha ⊢
      generalize w7.alloc (.cells #[.slice A7 NL c7, .int .i64 f] 26) = u8 at ka ha ⊢
      have k68 := (KB.out.step k7).step ka
      have L8 := Lib.hid (L6.out.keep k68)
      have B8 := Lib.hid (k68.blk B6.out (fun h => h))
      have X8 := Lib.hid (k68.blk X6.out (fun h => h))
      have SX8 := Lib.hid (SX6.out.kept k68)
      have Y8 := Lib.hid ha
      have SY8 : Hid (Sw u8 (fun _ => True) N A7 c7) := (sw7.kept ka).mono (fun _ _ => trivial)
      clear ka ha k68 KB C3 L6 B6 X6 SX6 sw7 k7 x0 x1 p0 p1 hY
      obtain ⟨y0, y1⟩ := two_cells Y8.out
      have kb := Kept.alloc noBlock u8 (.cells #[.string ⟨#[122, 122]⟩] 9)
      have hb := heap_alloc_new u8 (.cells #[.string ⟨#[122, 122]⟩] 9)
      have C4 := Lib.hid (D4.out _ A7 c7 none 0 (some ⟨u8.heap.size, 0, none⟩) 1 _ (fun _ => True) (SY8.out.kept kb) ⟨Lies.nil _ _ _, fun _ => ⟨_, rfl, trivial, fun j u hu => by
        have hu1 : [Value.string ⟨#[122, 122]⟩][j]? = some u := hu
        rw [add_plain, cell_of_row _ _ _ _ _ _ hb]
        simpa using hu1⟩, Nat.le_refl _, Nat.le_refl _⟩)
      have KB := Lib.hid kb
      obtain ⟨p0, p1⟩ := two_cells (kb.blk Y8.out (fun h => h))
      clear D4 kb hb
      go_wp2_with fail
      refine C4.out.mono ?_
      rintro en w9 ⟨A9, c9, rfl, _, k9⟩
      have ka := Kept.alloc noBlock w9 (.cells #[.slice A9 0 c9, .int .i64 0] 26)
      go_upto_region 16 with (fail)
      generalize w9.alloc (.cells #[.slice A9 0 c9, .int .i64 0] 26) = v0 at ka ⊢
      have k80 := (KB.out.step k9).step ka
      have L0' := Lib.hid (L8.out.keep k80)
      have CE : Hid (∀ u, Kept noBlock v0 u → (u.cell? ⟨S, 0, none⟩ = some (.slice A NL c) ∧ u.cell? ⟨S, 1, none⟩ = some (.int .i64 f)) ∧ (u.cell? ⟨X, 0, none⟩ = some (.slice A3 (NL + 1) c3) ∧ u.cell? ⟨X, 1, none⟩ = some (.int .i64 f)) ∧ (u.cell? ⟨Y, 0, none⟩ = some (.slice A7 NL c7) ∧ u.cell? ⟨Y, 1, none⟩ = some (.int .i64 f))) := fun u k =>
        ⟨two_cells ((k80.step k).blk B8.out (fun h => h)), two_cells ((k80.step k).blk X8.out (fun h => h)), two_cells ((k80.step k).blk Y8.out (fun h => h))⟩
      have FA := Lib.hid (fun u (k : Kept noBlock v0 u) => find_any (fun _ => True) A3 (NL + 1) c3 f (MM.map (·.2)) zz u (SX8.out.kept (k80.step k)).la (by rw [List.length_map]; exact HML.out) (by omega))
      have FB := Lib.hid (fun u (k : Kept noBlock v0 u) => find_any (fun _ => True) A7 NL c7 f (N.map (·.2)) zz u (SY8.out.kept (k80.step k)).la (by rw [List.length_map]; exact HNL.out.symm) (by omega))
      rw [F8.out] at FA
      rw [F9.out] at FB
      have KC : Hid (Kept noBlock v0 v0.drew) := Kept.drew _ _
      have hNn : ((NL : Int) == (NL : Int)) = true := by simp
      clear ka k80 KB C4 L8 B8 X8 SX8 Y8 SY8 k9 y0 y1 p0 p1
      refine wp_region_noPanic ?_
      refine wp_region_held_drew (S := fun u => (u.cell? ⟨S, 0, none⟩ = some (.slice A NL c) ∧ u.cell? ⟨S, 1, none⟩ = some (.int .i64 f)) ∧ (u.cell? ⟨X, 0, none⟩ = some (.slice A3 (NL + 1) c3) ∧ u.cell? ⟨X, 1, none⟩ = some (.int .i64 f)) ∧ (u.cell? ⟨Y, 0, none⟩ = some (.slice A7 NL c7) ∧ u.cell? ⟨Y, 1, none⟩ = some (.int .i64 f))) (by kernel_rfl) (CE.out _ KC.out) (fun hHeld => ?_)
      refine wpAnyH_take (i := 0) (oi := ⟨some 90, Op.move (Operand.tmp 12), 38, _, _, none⟩) (v := ?v0n2k1) rfl (by kernel_rfl) (by kernel_rfl) (by kernel_rfl) (fun _ _ _ h => h) (Or.inl ⟨by rfl, ?y0n2k1⟩) hHeld ?z0n2k1
      case y0n2k1 => intro w hSw; (try dsimp only at hSw); go_simp <;> rfl
      try simp only [Act.put, List.setIfInBounds_toArray, List.set_cons_zero, List.set_cons_succ]
      refine wpAnyH_take (i := 1) (oi := ⟨some 91, Op.binOp BinOp.eql 38 (Operand.tmp 90) (Operand.const (Value.int IntKind.i64 0)) 38, 4, _, _, none⟩) (v := ?v1n2k2) rfl (by kernel_rfl) (by kernel_rfl) (by kernel_rfl) (fun _ _ _ h => h) (Or.inl ⟨by rfl, ?y1n2k2⟩) hHeld ?z1n2k2
      case y1n2k2 => intro w hSw; (try dsimp only at hSw); go_simp <;> rfl
      try simp only [Act.put, List.setIfInBounds_toArray, List.set_cons_zero, List.set_cons_succ]
      refine wpAnyH_take (i := 2) (oi := ⟨some 92, Op.move (Operand.tmp 91), 4, _, _, none⟩) (v := ?v2n2k3) rfl (by kernel_rfl) (by kernel_rfl) (by kernel_rfl) (fun _ _ _ h => h) (Or.inl ⟨by rfl, ?y2n2k3⟩) hHeld ?z2n2k3
      case y2n2k3 => intro w hSw; (try dsimp only at hSw); go_simp <;> rfl
      try simp only [Act.put, List.setIfInBounds_toArray, List.set_cons_zero, List.set_cons_succ]
      refine wpAnyH_take (i := 3) (oi := ⟨some 93, Op.move (Operand.tmp 14), 38, _, _, some (2, true)⟩) (v := ?v3n2k4) rfl (by kernel_rfl) (by kernel_rfl) (by kernel_rfl) (fun _ _ _ h => h) (Or.inl ⟨by rfl, ?y3n2k4⟩) hHeld ?z3n2k4
      case y3n2k4 => intro w hSw; (try dsimp only at hSw); go_simp <;> rfl
      try simp only [Act.put, List.setIfInBounds_toArray, List.set_cons_zero, List.set_cons_succ]
      refine wpAnyH_take (i := 4) (oi := ⟨some 94, Op.binOp BinOp.eql 38 (Operand.tmp 93) (Operand.const (Value.int IntKind.i64 5)) 38, 4, _, _, some (2, true)⟩) (v := ?v4n2k5) rfl (by kernel_rfl) (by kernel_rfl) (by kernel_rfl) (fun _ _ _ h => h) (Or.inl ⟨by rfl, ?y4n2k5⟩) hHeld ?z4n2k5
      case y4n2k5 => intro w hSw; (try dsimp only at hSw); go_simp <;> rfl
      try simp only [Act.put, List.setIfInBounds_toArray, List.set_cons_zero, List.set_cons_succ]
      refine wpAnyH_take (i := 5) (oi := ⟨some 95, Op.pick (Operand.tmp 92) (Operand.tmp 94) (Operand.const (Value.bool false)), 4, _, _, none⟩) (v := ?v5n2k6) rfl (by kernel_rfl) (by kernel_rfl) (by kernel_rfl) (fun _ _ _ h => h) (Or.inl ⟨by rfl, ?y5n2k6⟩) hHeld ?z5n2k6
      case y5n2k6 => intro w hSw; (try dsimp only at hSw); go_simp <;> rfl
      try simp only [Act.put, List.setIfInBounds_toArray, List.set_cons_zero, List.set_cons_succ]
      refine wpAnyH_take (i := 6) (oi := ⟨some 96, Op.move (Operand.tmp 95), 4, _, _, none⟩) (v := ?v6n2k7) rfl (by kernel_rfl) (by kernel_rfl) (by kernel_rfl) (fun _ _ _ h => h) (Or.inl ⟨by rfl, ?y6n2k7⟩) hHeld ?z6n2k7
      case y6n2k7 => intro w hSw; (try dsimp only at hSw); go_simp <;> rfl
      try simp only [Act.put, List.setIfInBounds_toArray, List.set_cons_zero, List.set_cons_succ]
      refine wpAnyH_take (i := 7) (oi := ⟨some 97, Op.move (Operand.tmp 16), 38, _, _, some (6, true)⟩) (v := ?v7n2k8) rfl (by kernel_rfl) (by kernel_rfl) (by kernel_rfl) (fun _ _ _ h => h) (Or.inl ⟨by rfl, ?y7n2k8⟩) hHeld ?z7n2k8
      case y7n2k8 => intro w hSw; (try dsimp only at hSw); go_simp <;> rfl
      try simp only [Act.put, List.setIfInBounds_toArray, List.set_cons_zero, List.set_cons_succ]
      refine wpAnyH_take (i := 8) (oi := ⟨some 98, Op.binOp BinOp.eql 38 (Operand.tmp 97) (Operand.const (Value.int IntKind.i64 0)) 38, 4, _, _, some (6, true)⟩) (v := ?v8n2k9) rfl (by kernel_rfl) (by kernel_rfl) (by kernel_rfl) (fun _ _ _ h => h) (Or.inl ⟨by rfl, ?y8n2k9⟩) hHeld ?z8n2k9
      case y8n2k9 => intro w hSw; (try dsimp only at hSw); go_simp <;> rfl
      try simp only [Act.put, List.setIfInBounds_toArray, List.set_cons_zero, List.set_cons_succ]
      refine wpAnyH_take (i := 9) (oi := ⟨some 99, Op.pick (Operand.tmp 96) (Operand.tmp 98) (Operand.const (Value.bool false)), 4, _, _, none⟩) (v := ?v9n2k10) rfl (by kernel_rfl) (by kernel_rfl) (by kernel_rfl) (fun _ _ _ h => h) (Or.inl ⟨by rfl, ?y9n2k10⟩) hHeld ?z9n2k10
      case y9n2k10 => intro w hSw; (try dsimp only at hSw); go_simp <;> rfl
      try simp only [Act.put, List.setIfInBounds_toArray, List.set_cons_zero, List.set_cons_succ]
      refine wpAnyH_take (i := 10) (oi := ⟨some 100, Op.move (Operand.tmp 99), 4, _, _, none⟩) (v := ?v10n2k11) rfl (by kernel_rfl) (by kernel_rfl) (by kernel_rfl) (fun _ _ _ h => h) (Or.inl ⟨by rfl, ?y10n2k11⟩) hHeld ?z10n2k11
      case y10n2k11 => intro w hSw; (try dsimp only at hSw); go_simp <;> rfl
      try simp only [Act.put, List.setIfInBounds_toArray, List.set_cons_zero, List.set_cons_succ]
      refine wpAnyH_take (i := 11) (oi := ⟨some 101, Op.move (Operand.tmp 18), 38, _, _, some (10, true)⟩) (v := ?v11n2k12) rfl (by kernel_rfl) (by kernel_rfl) (by kernel_rfl) (fun _ _ _ h => h) (Or.inl ⟨by rfl, ?y11n2k12⟩) hHeld ?z11n2k12
      case y11n2k12 => intro w hSw; (try dsimp only at hSw); go_simp <;> rfl
      try simp only [Act.put, List.setIfInBounds_toArray, List.set_cons_zero, List.set_cons_succ]
      refine wpAnyH_take (i := 12) (oi := ⟨some 102, Op.binOp BinOp.eql 38 (Operand.tmp 101) (Operand.const (Value.int IntKind.i64 6)) 38, 4, _, _, some (10, true)⟩) (v := ?v12n2k13) rfl (by kernel_rfl) (by kernel_rfl) (by kernel_rfl) (fun _ _ _ h => h) (Or.inl ⟨by rfl, ?y12n2k13⟩) hHeld ?z12n2k13
      case y12n2k13 => intro w hSw; (try dsimp only at hSw); go_simp <;> rfl
      try simp only [Act.put, List.setIfInBounds_toArray, List.set_cons_zero, List.set_cons_succ]
      refine wpAnyH_take (i := 13) (oi := ⟨some 103, Op.pick (Operand.tmp 100) (Operand.tmp 102) (Operand.const (Value.bool false)), 4, _, _, none⟩) (v := ?v13n2k14) rfl (by kernel_rfl) (by kernel_rfl) (by kernel_rfl) (fun _ _ _ h => h) (Or.inl ⟨by rfl, ?y13n2k14⟩) hHeld ?z13n2k14
      case y13n2k14 => intro w hSw; (try dsimp only at hSw); go_simp <;> rfl
      try simp only [Act.put, List.setIfInBounds_toArray, List.set_cons_zero, List.set_cons_succ]
      refine wpAnyH_take (i := 14) (oi := ⟨some 104, Op.move (Operand.tmp 103), 4, _, _, none⟩) (v := ?v14n2k15) rfl (by kernel_rfl) (by kernel_rfl) (by kernel_rfl) (fun _ _ _ h => h) (Or.inl ⟨by rfl, ?y14n2k15⟩) hHeld ?z14n2k15
      case y14n2k15 => intro w hSw; (try dsimp only at hSw); go_simp <;> rfl
      try simp only [Act.put, List.setIfInBounds_toArray, List.set_cons_zero, List.set_cons_succ]
      refine wpAnyH_take (i := 15) (oi := ⟨some 105, Op.fieldAddr 26 (Operand.tmp 15) 0, 0, _, _, some (14, true)⟩) (v := ?v15n2k16) rfl (by kernel_rfl) (by kernel_rfl) (by kernel_rfl) (fun _ _ _ h => h) (Or.inl ⟨by rfl, ?y15n2k16⟩) hHeld ?z15n2k16
      case y15n2k16 => intro w hSw; (try dsimp only at hSw); go_simp <;> rfl
      try simp only [Act.put, List.setIfInBounds_toArray, List.set_cons_zero, List.set_cons_succ]
      refine wpAnyH_take (i := 16) (oi := ⟨some 106, Op.load 24 (Operand.tmp 105), 24, _, _, some (14, true)⟩) (v := ?v16n2k17) rfl (by kernel_rfl) (by kernel_rfl) (by kernel_rfl) (fun _ _ _ h => h) (Or.inl ⟨by rfl, ?y16n2k17⟩) hHeld ?z16n2k17
      case y16n2k17 => intro w hSw; (try dsimp only at hSw); go_simp <;> rfl
      try simp only [Act.put, List.setIfInBounds_toArray, List.set_cons_zero, List.set_cons_succ]
      refine wpAnyH_take (i := 17) (oi := ⟨some 107, Op.call { callee := Callee.builtin Builtin.len, args := #[Operand.tmp 106], argTypes := #[24] }, 3, _, _, some (14, true)⟩) (v := ?v17n2k18) rfl (by kernel_rfl) (by kernel_rfl) (by kernel_rfl) (fun _ _ _ h => h) (Or.inl ⟨by rfl, ?y17n2k18⟩) hHeld ?z17n2k18
      case y17n2k18 => intro w hSw; (try dsimp only at hSw); go_simp <;> rfl
      try simp only [Act.put, List.setIfInBounds_toArray, List.set_cons_zero, List.set_cons_succ]
      refine wpAnyH_take (i := 18) (oi := ⟨some 108, Op.fieldAddr 26 (Operand.tmp 5) 0, 0, _, _, some (14, true)⟩) (v := ?v18n2k19) rfl (by kernel_rfl) (by kernel_rfl) (by kernel_rfl) (fun _ _ _ h => h) (Or.inl ⟨by rfl, ?y18n2k19⟩) hHeld ?z18n2k19
      case y18n2k19 => intro w hSw; (try dsimp only at hSw); go_simp <;> rfl
      try simp only [Act.put, List.setIfInBounds_toArray, List.set_cons_zero, List.set_cons_succ]
      refine wpAnyH_take (i := 19) (oi := ⟨some 109, Op.load 24 (Operand.tmp 108), 24, _, _, some (14, true)⟩) (v := ?v19n2k20) rfl (by kernel_rfl) (by kernel_rfl) (by kernel_rfl) (fun _ _ _ h => h) (Or.inl ⟨by rfl, ?y19n2k20⟩) hHeld ?z19n2k20
      case y19n2k20 => intro w hSw; (try dsimp only at hSw); go_simp <;> rfl
      try simp only [Act.put, List.setIfInBounds_toArray, List.set_cons_zero, List.set_cons_succ]
      refine wpAnyH_take (i := 20) (oi := ⟨some 110, Op.call { callee := Callee.builtin Builtin.len, args := #[Operand.tmp 109], argTypes := #[24] }, 3, _, _, some (14, true)⟩) (v := ?v20n2k21) rfl (by kernel_rfl) (by kernel_rfl) (by kernel_rfl) (fun _ _ _ h => h) (Or.inl ⟨by rfl, ?y20n2k21⟩) hHeld ?z20n2k21
      case y20n2k21 => intro w hSw; (try dsimp only at hSw); go_simp <;> rfl
      try simp only [Act.put, List.setIfInBounds_toArray, List.set_cons_zero, List.set_cons_succ]
      refine wpAnyH_take (i := 21) (oi := ⟨some 111, Op.binOp BinOp.eql 3 (Operand.tmp 107) (Operand.tmp 110) 3, 4, _, _, some (14, true)⟩) (v := ?v21n2k22) rfl (by kernel_rfl) (by kernel_rfl) (by kernel_rfl) (fun _ _ _ h => h) (Or.inl ⟨by rfl, ?y21n2k22⟩) hHeld ?z21n2k22
      case y21n2k22 => intro w hSw; (try dsimp only at hSw); go_simp <;> rfl
      try simp only [Act.put, List.setIfInBounds_toArray, List.set_cons_zero, List.set_cons_succ]
      refine wpAnyH_take (i := 22) (oi := ⟨some 112, Op.pick (Operand.tmp 104) (Operand.tmp 111) (Operand.const (Value.bool false)), 4, _, _, none⟩) (v := ?v22n2k23) rfl (by kernel_rfl) (by kernel_rfl) (by kernel_rfl) (fun _ _ _ h => h) (Or.inl ⟨by rfl, ?y22n2k23⟩) hHeld ?z22n2k23
      case y22n2k23 => intro w hSw; (try dsimp only at hSw); go_simp <;> rfl
      try simp only [Act.put, List.setIfInBounds_toArray, List.set_cons_zero, List.set_cons_succ]
      refine wpAnyH_take (i := 23) (oi := ⟨some 113, Op.move (Operand.tmp 112), 4, _, _, none⟩) (v := ?v23n2k24) rfl (by kernel_rfl) (by kernel_rfl) (by kernel_rfl) (fun _ _ _ h => h) (Or.inl ⟨by rfl, ?y23n2k24⟩) hHeld ?z23n2k24
      case y23n2k24 => intro w hSw; (try dsimp only at hSw); go_simp <;> rfl
      try simp only [Act.put, List.setIfInBounds_toArray, List.set_cons_zero, List.set_cons_succ]
      refine wpAnyH_take (i := 24) (oi := ⟨some 114, Op.load 26 (Operand.tmp 11), 26, _, _, some (23, true)⟩) (v := ?v24n2k25) rfl (by kernel_rfl) (by kernel_rfl) (by kernel_rfl) (fun _ _ _ h => h) (Or.inl ⟨by rfl, ?y24n2k25⟩) hHeld ?z24n2k25
      case y24n2k25 => intro w hSw; (try dsimp only at hSw); go_simp <;> rfl
      try simp only [Act.put, List.setIfInBounds_toArray, List.set_cons_zero, List.set_cons_succ]
      refine wpAnyH_take (i := 26) (oi := ⟨some 116, Op.fieldAddr 26 (Operand.tmp 5) 0, 0, _, _, some (23, true)⟩) (v := ?v26n2k26) rfl (by kernel_rfl) (by kernel_rfl) (by kernel_rfl) (fun _ _ _ h => h) (Or.inl ⟨by rfl, ?y26n2k26⟩) hHeld ?z26n2k26
      case y26n2k26 => intro w hSw; (try dsimp only at hSw); go_simp <;> rfl
      try simp only [Act.put, List.setIfInBounds_toArray, List.set_cons_zero, List.set_cons_succ]
      refine wpAnyH_take (i := 27) (oi := ⟨some 117, Op.load 24 (Operand.tmp 116), 24, _, _, some (23, true)⟩) (v := ?v27n2k27) rfl (by kernel_rfl) (by kernel_rfl) (by kernel_rfl) (fun _ _ _ h => h) (Or.inl ⟨by rfl, ?y27n2k27⟩) hHeld ?z27n2k27
      case y27n2k27 => intro w hSw; (try dsimp only at hSw); go_simp <;> rfl
      try simp only [Act.put, List.setIfInBounds_toArray, List.set_cons_zero, List.set_cons_succ]
      refine wpAnyH_take (i := 28) (oi := ⟨some 118, Op.call { callee := Callee.builtin Builtin.len, args := #[Operand.tmp 117], argTypes := #[24] }, 3, _, _, some (23, true)⟩) (v := ?v28n2k28) rfl (by kernel_rfl) (by kernel_rfl) (by kernel_rfl) (fun _ _ _ h => h) (Or.inl ⟨by rfl, ?y28n2k28⟩) hHeld ?z28n2k28
      case y28n2k28 => intro w hSw; (try dsimp only at hSw); go_simp <;> rfl
      try simp only [Act.put, List.setIfInBounds_toArray, List.set_cons_zero, List.set_cons_succ]
      refine wpAnyH_ready (rs := [25]) (by kernel_rfl) (by simp) ?_
      refine AllReadyH.cons (o := ⟨some 115, Op.call { callee := Callee.value (Operand.func 18), args := #[Operand.tmp 114, Operand.const (Value.string { data := #[122, 122] })], argTypes := #[26, 9] }, 3, _, _, some (23, true)⟩) rfl (fun K hK => ?_) AllReadyH.nil
      go_simp
      refine (FA.out _ KC.out).mono ?_
      rintro en z1 ⟨rfl, q1⟩
      replace KC := Lib.hid (KC.out.step q1)
      clear q1
      dsimp only
      refine hK.out _ _ (CE.out _ KC.out) (fun hHeld => ?_)
      clear hK K
      try simp only [Act.put, List.setIfInBounds_toArray, List.set_cons_zero, List.set_cons_succ]
      refine wpAnyH_take (i := 29) (oi := ⟨some 119, Op.binOp BinOp.eql 3 (Operand.tmp 115) (Operand.tmp 118) 3, 4, _, _, some (23, true)⟩) (v := ?v29n2k29) rfl (by kernel_rfl) (by kernel_rfl) (by kernel_rfl) (fun _ _ _ h => h) (Or.inl ⟨by rfl, ?y29n2k29⟩) hHeld ?z29n2k29
      case y29n2k29 => intro w hSw; (try dsimp only at hSw); go_simp <;> rfl
      try simp only [Act.put, List.setIfInBounds_toArray, List.set_cons_zero, List.set_cons_succ]
      refine wpAnyH_take (i := 30) (oi := ⟨some 120, Op.pick (Operand.tmp 113) (Operand.tmp 119) (Operand.const (Value.bool false)), 4, _, _, none⟩) (v := ?v30n2k30) rfl (by kernel_rfl) (by kernel_rfl) (by kernel_rfl) (fun _ _ _ h => h) (Or.inl ⟨by rfl, ?y30n2k30⟩) hHeld ?z30n2k30
      case y30n2k30 => intro w hSw; (try dsimp only at hSw); go_simp <;> rfl
      try simp only [Act.put, List.setIfInBounds_toArray, List.set_cons_zero, List.set_cons_succ]
      refine wpAnyH_take (i := 31) (oi := ⟨some 121, Op.move (Operand.tmp 120), 4, _, _, none⟩) (v := ?v31n2k31) rfl (by kernel_rfl) (by kernel_rfl) (by kernel_rfl) (fun _ _ _ h => h) (Or.inl ⟨by rfl, ?y31n2k31⟩) hHeld ?z31n2k31
      case y31n2k31 => intro w hSw; (try dsimp only at hSw); go_simp <;> rfl
      try simp only [Act.put, List.setIfInBounds_toArray, List.set_cons_zero, List.set_cons_succ]
      refine wpAnyH_take (i := 32) (oi := ⟨some 122, Op.load 26 (Operand.tmp 15), 26, _, _, some (31, true)⟩) (v := ?v32n2k32) rfl (by kernel_rfl) (by kernel_rfl) (by kernel_rfl) (fun _ _ _ h => h) (Or.inl ⟨by rfl, ?y32n2k32⟩) hHeld ?z32n2k32
      case y32n2k32 => intro w hSw; (try dsimp only at hSw); go_simp <;> rfl
      try simp only [Act.put, List.setIfInBounds_toArray, List.set_cons_zero, List.set_cons_succ]
      refine wpAnyH_ready (rs := [33]) (by kernel_rfl) (by simp) ?_
      refine AllReadyH.cons (o := ⟨some 123, Op.call { callee := Callee.value (Operand.func 18), args := #[Operand.tmp 122, Operand.const (Value.string { data := #[122, 122] })], argTypes := #[26, 9] }, 3, _, _, some (31, true)⟩) rfl (fun K hK => ?_) AllReadyH.nil
      go_simp
      refine (FB.out _ KC.out).mono ?_
      rintro en z2 ⟨rfl, q1⟩
      replace KC := Lib.hid (KC.out.step q1)
      clear q1
      dsimp only
      refine hK.out _ _ (CE.out _ KC.out) (fun hHeld => ?_)
      clear hK K
      try simp only [Act.put, List.setIfInBounds_toArray, List.set_cons_zero, List.set_cons_succ]
      refine wpAnyH_take (i := 34) (oi := ⟨some 124, Op.binOp BinOp.eql 3 (Operand.tmp 123) (Operand.const (Value.int IntKind.i64 (-1))) 3, 4, _, _, some (31, true)⟩) (v := ?v34n2k33) rfl (by kernel_rfl) (by kernel_rfl) (by kernel_rfl) (fun _ _ _ h => h) (Or.inl ⟨by rfl, ?y34n2k33⟩) hHeld ?z34n2k33
      case y34n2k33 => intro w hSw; (try dsimp only at hSw); go_simp <;> rfl
      try simp only [Act.put, List.setIfInBounds_toArray, List.set_cons_zero, List.set_cons_succ]
      refine wpAnyH_take (i := 35) (oi := ⟨some 125, Op.pick (Operand.tmp 121) (Operand.tmp 124) (Operand.const (Value.bool false)), 4, _, _, none⟩) (v := ?v35n2k34) rfl (by kernel_rfl) (by kernel_rfl) (by kernel_rfl) (fun _ _ _ h => h) (Or.inl ⟨by rfl, ?y35n2k34⟩) hHeld ?z35n2k34
      case y35n2k34 => intro w hSw; (try dsimp only at hSw); go_simp <;> rfl
      try simp only [Act.put, List.setIfInBounds_toArray, List.set_cons_zero, List.set_cons_succ]
      refine wpAnyH_take (i := 36) (oi := ⟨some 4, Op.assign (Operand.tmp 125), 4, _, _, none⟩) (v := ?v36n2k35) rfl (by kernel_rfl) (by kernel_rfl) (by kernel_rfl) (fun _ _ _ h => h) (Or.inl ⟨by rfl, ?y36n2k35⟩) hHeld ?z36n2k35
      case y36n2k35 => intro w hSw; (try dsimp only at hSw); go_simp <;> rfl
      try simp only [Act.put, List.setIfInBounds_toArray, List.set_cons_zero, List.set_cons_succ]
      refine wpAnyH_done (by kernel_rfl) ?_ _
      refine NoPanic.normal ?_
      have KZ := Lib.hid (L0'.out.kept.step KC.out)
      clear hHeld
      go_wp2
      go_ret
      exact ⟨rfl, KZ.out⟩
end Go.Proofs.Ytjijdkdpmbfdmaa
