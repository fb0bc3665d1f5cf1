/-
  How the statements of layer 7 lay rows and states. No statement is proved here.
-/
import Derived.Test.YtgmjnjbmolalmaaStBytes
namespace Go.Proofs.Ytgmjnjbmolalmaa
open Go.RowKit Tot

set_option maxRecDepth 100000 in
set_option maxHeartbeats 1000000 in
theorem lays_any (F : Nat → Prop) (w1 : World) (b : Nat) (acc : List UInt8) (A : Option Addr) (n c : Nat) (B : Option Addr) (m d : Nat) (ps : Prs) (xs : Sns) (w : World) (hp : Pen w1 w b acc) (h1 : Lies w1 F A (PR.cells ps)) (h2 : Lies w1 F B (SN.cells xs)) (hF : ∀ i, F i → i ≠ b)
    (hn : ps.length = n) (hm : xs.length = m) (hc : n ≤ c) (hd : m ≤ d) (hb : acc.length + (rowsB ps xs).length ≤ 140737488355328) :
    Calls Try.prog 28 #[.pointer (some ⟨b, 0, none⟩), .slice A n c, .slice B m d] w fun e w' => e = .returned (.tuple #[]) ∧ Pen w1 w' b (acc ++ rowsB ps xs) := by
  rw [rowsB_length] at hb
  have nle : n ≤ 140737488355328 := by
    have : ps.length ≤ (ps.flatMap prB).length := by
      clear hb h1 hn
      induction ps with
      | nil => simp
      | cons p r ih => rw [List.flatMap_cons, List.length_append, prB_length, List.length_cons]; omega
    omega
  have mle : m ≤ 140737488355328 := by
    have : xs.length ≤ (xs.flatMap snB).length := by
      clear hb h2 hm
      induction xs with
      | nil => simp
      | cons p r ih => rw [List.flatMap_cons, List.length_append, snB_length, List.length_cons]; omega
    omega
  have H1 := Lib.hid h1
  have H2 := Lib.hid h2
  have HF := Lib.hid hF
  have HN := Lib.hid hn
  have HM := Lib.hid hm
  have FIN : Hid (∀ w' acc', acc' = acc ++ be8 (n : Int) ++ ps.flatMap prB ++ be8 (m : Int) ++ xs.flatMap snB → Pen w1 w' b acc' → Pen w1 w' b (acc ++ rowsB ps xs)) := fun w' acc' e h => by
    rw [e] at h
    unfold rowsB
    rw [hn, hm]
    simpa using h
  have LP : Hid (∀ k x, ps[k]? = some x → acc.length + 16 + ((ps.take k).flatMap prB).length + (17 + x.1.size + x.2.1.size) + (xs.flatMap snB).length ≤ 140737488355328) := fun k x hx => by
    have h3 := flatMap_le prB ps (k + 1)
    rw [flatMap_take prB ps k x hx, List.length_append, prB_length] at h3
    omega
  have LS : Hid (∀ k x, xs[k]? = some x → acc.length + 16 + (ps.flatMap prB).length + ((xs.take k).flatMap snB).length + (32 + x.2.2.value.size) ≤ 140737488355328) := fun k x hx => by
    have h3 := flatMap_le snB xs (k + 1)
    rw [flatMap_take snB xs k x hx, List.length_append, snB_length] at h3
    omega
  have HBND := Lib.hid hb
  clear h1 h2 hF hn hm
  go_enter Try.func28, Try.ntmps28
  go_wp2_with fail
  refine (pen_num hp _ (by omega)).mono ?_
  rintro e w2 ⟨rfl, p2⟩
  have P2 := Lib.hid p2
  clear p2 hp hb
  go_wp2_with fail
  go_loopw [16] (fun i wr => ∃ (k : Nat) (ac : List UInt8), k ≤ n ∧ i = .int .i64 (k : Int) ∧ Hid (ac = acc ++ be8 (n : Int) ++ (ps.take k).flatMap prB) ∧ Hid (Pen w1 wr b ac)) (fun i _ => n - (intOf i).toNat)
  case atStart => exact ⟨0, _, by omega, rfl, rfl, by unfold Hid; simpa using P2.out⟩
  case round =>
    obtain ⟨k, ac, hk, rfl, HA, HP⟩ := hrel
    by_cases hlt : k < n
    · obtain ⟨x, hx⟩ : ∃ x, ps[k]? = some x := ⟨_, List.getElem?_eq_getElem (by have := HN.out; omega)⟩
      obtain ⟨g, o, rfl, _, cc⟩ := (HP.out.lies H1.out HF.out).elem PR.enc_len (by omega) hx
      have c0 := cc 0 _ rfl
      have c1 := cc 1 _ rfl
      have c2 := cc 2 _ rfl
      rw [Nat.add_zero] at c0
      have hlen := LP.out k x hx
      have hac : ac.length = acc.length + 8 + ((ps.take k).flatMap prB).length := by rw [HA.out]; simp only [List.length_append, be8_length]
      have HX := Lib.hid hx
      obtain ⟨xk, xv, xg⟩ := x
      simp only at c0 c1 c2 hlen
      have q1 : ac.length + 8 + xk.size ≤ 140737488355328 := by omega
      have q2 : ac.length + 8 + xk.size + 8 + xv.size + 1 ≤ 140737488355328 := by omega
      have px := PenX.start HP.out (.cells #[.string xk, .string xv, .bool xg] 61)
      clear hx cc hlen hac
      go_upto_region 4 with (fail)
      generalize wr.alloc (.cells #[.string xk, .string xv, .bool xg] 61) = u at px ⊢
      have CE : Hid (∀ u ys, PenX w1 u b wr.heap.size (.cells #[.string xk, .string xv, .bool xg] 61 (0, 0)) ys → u.cell? ⟨wr.heap.size, 0, none⟩ = some (.string xk) ∧ u.cell? ⟨wr.heap.size, 1, none⟩ = some (.string xv) ∧ u.cell? ⟨wr.heap.size, 2, none⟩ = some (.bool xg)) := fun u ys h => ⟨cell_of_row _ _ _ _ _ _ h.2.1, cell_of_row _ _ _ _ _ _ h.2.1, cell_of_row _ _ _ _ _ _ h.2.1⟩
      have px0 := px.drew
      clear px c0 c1 c2
      refine wp_region_noPanic ?_
      refine wp_region_held_drew (S := fun w' => w'.cell? ⟨wr.heap.size, 0, none⟩ = some (.string xk) ∧ w'.cell? ⟨wr.heap.size, 1, none⟩ = some (.string xv) ∧ w'.cell? ⟨wr.heap.size, 2, none⟩ = some (.bool xg)) (by kernel_rfl) (CE.out _ _ px0) (fun hHeld => ?_)
      refine wpAnyH_take (i := 0) (oi := ⟨some 20, Op.move (Operand.tmp 0), 73, _, _, none⟩) (v := ?v0n18k1) rfl (by kernel_rfl) (by kernel_rfl) (by kernel_rfl) (fun _ _ _ h => h) (Or.inl ⟨by rfl, ?y0n18k1⟩) hHeld ?z0n18k1
      case y0n18k1 => intro w hSw; (try dsimp only at hSw); go_simp <;> rfl
      try simp only [Act.put, List.setIfInBounds_toArray, List.set_cons_zero, List.set_cons_succ]
      refine wpAnyH_take (i := 1) (oi := ⟨some 21, Op.fieldAddr 61 (Operand.tmp 7) 0, 0, _, _, none⟩) (v := ?v1n18k2) rfl (by kernel_rfl) (by kernel_rfl) (by kernel_rfl) (fun _ _ _ h => h) (Or.inl ⟨by rfl, ?y1n18k2⟩) hHeld ?z1n18k2
      case y1n18k2 => intro w hSw; (try dsimp only at hSw); go_simp <;> rfl
      try simp only [Act.put, List.setIfInBounds_toArray, List.set_cons_zero, List.set_cons_succ]
      refine wpAnyH_take (i := 2) (oi := ⟨some 22, Op.load 9 (Operand.tmp 21), 9, _, _, none⟩) (v := ?v2n18k3) rfl (by kernel_rfl) (by kernel_rfl) (by kernel_rfl) (fun _ _ _ h => h) (Or.inl ⟨by rfl, ?y2n18k3⟩) hHeld ?z2n18k3
      case y2n18k3 => intro w hSw; (try dsimp only at hSw); go_simp <;> rfl
      try simp only [Act.put, List.setIfInBounds_toArray, List.set_cons_zero, List.set_cons_succ]
      refine wpAnyH_take (i := 4) (oi := ⟨some 24, Op.fieldAddr 61 (Operand.tmp 7) 1, 0, _, _, none⟩) (v := ?v4n18k4) rfl (by kernel_rfl) (by kernel_rfl) (by kernel_rfl) (fun _ _ _ h => h) (Or.inl ⟨by rfl, ?y4n18k4⟩) hHeld ?z4n18k4
      case y4n18k4 => intro w hSw; (try dsimp only at hSw); go_simp <;> rfl
      try simp only [Act.put, List.setIfInBounds_toArray, List.set_cons_zero, List.set_cons_succ]
      refine wpAnyH_take (i := 5) (oi := ⟨some 25, Op.load 9 (Operand.tmp 24), 9, _, _, none⟩) (v := ?v5n18k5) rfl (by kernel_rfl) (by kernel_rfl) (by kernel_rfl) (fun _ _ _ h => h) (Or.inl ⟨by rfl, ?y5n18k5⟩) hHeld ?z5n18k5
      case y5n18k5 => intro w hSw; (try dsimp only at hSw); go_simp <;> rfl
      try simp only [Act.put, List.setIfInBounds_toArray, List.set_cons_zero, List.set_cons_succ]
      refine wpAnyH_ready (rs := [3]) (by kernel_rfl) (by simp) ?_
      refine AllReadyH.cons (o := ⟨some 23, Op.call { callee := Callee.value (Operand.func 46), args := #[Operand.tmp 20, Operand.tmp 22], argTypes := #[73, 9] }, 73, _, _, none⟩) rfl (fun K hK => ?_) AllReadyH.nil
      go_simp
      refine (penx_text px0 _ q1).mono ?_
      rintro e u1 ⟨rfl, px1⟩
      dsimp only
      refine hK.out _ _ (CE.out _ _ px1) (fun hHeld => ?_)
      clear hK K
      try simp only [Act.put, List.setIfInBounds_toArray, List.set_cons_zero, List.set_cons_succ]
      refine wpAnyH_ready (rs := [6]) (by kernel_rfl) (by simp) ?_
      refine AllReadyH.cons (o := ⟨some 26, Op.call { callee := Callee.value (Operand.func 46), args := #[Operand.tmp 23, Operand.tmp 25], argTypes := #[73, 9] }, 73, _, _, none⟩) rfl (fun K hK => ?_) AllReadyH.nil
      go_simp
      refine (penx_text px1 _ (by rw [List.length_append, tx_length]; omega)).mono ?_
      rintro e u2 ⟨rfl, px2⟩
      dsimp only
      refine hK.out _ _ (CE.out _ _ px2) (fun hHeld => ?_)
      clear hK K
      try simp only [Act.put, List.setIfInBounds_toArray, List.set_cons_zero, List.set_cons_succ]
      refine wpAnyH_done (by kernel_rfl) ?_ _
      refine NoPanic.normal ?_
      have hx2 := px2.drew
      obtain ⟨_, _, e2⟩ := CE.out _ _ px2
      have PX2 := Lib.hid px2
      clear hHeld px0 px1 px2 hx2 CE
      cases xg
      · go_wp2_with fail
        refine (penx_byte PX2.out 0 (by simp only [List.length_append, tx_length]; omega)).mono ?_
        rintro e u4 ⟨rfl, px4⟩
        have HP4 := Lib.hid px4.pen
        have HA4 : Hid (ac ++ tx xk ++ tx xv ++ [0] = acc ++ be8 (n : Int) ++ (ps.take (k + 1)).flatMap prB) := by
          unfold Hid
          rw [flatMap_take prB ps k _ HX.out, HA.out]
          unfold prB
          simp
        clear px4 PX2 q1 q2 e2
        go_wp2
        go_roundw
        case rel => exact ⟨k + 1, _, by omega, by go_num, HA4, HP4⟩
        case measure => simp [intOf]; omega
      · go_wp2_with fail
        refine (penx_byte PX2.out 1 (by simp only [List.length_append, tx_length]; omega)).mono ?_
        rintro e u4 ⟨rfl, px4⟩
        have HP4 := Lib.hid px4.pen
        have HA4 : Hid (ac ++ tx xk ++ tx xv ++ [1] = acc ++ be8 (n : Int) ++ (ps.take (k + 1)).flatMap prB) := by
          unfold Hid
          rw [flatMap_take prB ps k _ HX.out, HA.out]
          unfold prB
          simp
        clear px4 PX2 q1 q2 e2
        go_wp2
        go_roundw
        case rel => exact ⟨k + 1, _, by omega, by go_num, HA4, HP4⟩
        case measure => simp [intOf]; omega
    · obtain rfl : k = n := by omega
      have ha := HA.out
      rw [List.take_of_length_le (by have := HN.out; omega)] at ha
      have hac : ac.length = acc.length + 8 + (ps.flatMap prB).length := by rw [ha]; simp only [List.length_append, be8_length]
      have hb := HBND.out
      have HA2 := Lib.hid ha
      clear ha
      go_wp2_with fail
      refine (pen_num HP.out _ (by omega)).mono ?_
      rintro e w3 ⟨rfl, p3⟩
      have P3 := Lib.hid p3
      clear p3 hac hb
      go_wp2_with fail
      go_loopw [40] (fun i wr => ∃ (k : Nat) (ad : List UInt8), k ≤ m ∧ i = .int .i64 (k : Int) ∧ Hid (ad = ac ++ be8 (m : Int) ++ (xs.take k).flatMap snB) ∧ Hid (Pen w1 wr b ad)) (fun i _ => m - (intOf i).toNat)
      case atStart => exact ⟨0, _, by omega, rfl, rfl, by unfold Hid; simpa using P3.out⟩
      case round =>
        obtain ⟨j, ad, hj, rfl, HD, HPD⟩ := hrel
        by_cases hlt2 : j < m
        · obtain ⟨x, hx⟩ : ∃ x, xs[j]? = some x := ⟨_, List.getElem?_eq_getElem (by have := HM.out; omega)⟩
          obtain ⟨g, o, rfl, _, cc⟩ := (HPD.out.lies H2.out HF.out).elem SN.enc_len (by omega) hx
          have c0 := cc 0 _ rfl
          have c1 := cc 1 _ rfl
          have c2 := cc 2 _ rfl
          have c3 := cc 3 _ rfl
          rw [Nat.add_zero] at c0
          have hlen := LS.out j x hx
          have hac : ad.length = acc.length + 16 + (ps.flatMap prB).length + ((xs.take j).flatMap snB).length := by rw [HD.out, HA2.out]; simp only [List.length_append, be8_length]; omega
          have HX := Lib.hid hx
          obtain ⟨xc, xq, xe, xv⟩ := x
          simp only at c0 c1 c2 c3 hlen
          have q1 : ad.length + 8 ≤ 140737488355328 := by omega
          have q2 : ad.length + 8 + 8 ≤ 140737488355328 := by omega
          have q3 : ad.length + 8 + 8 + 8 ≤ 140737488355328 := by omega
          have q4 : ad.length + 8 + 8 + 8 + 8 + xv.size ≤ 140737488355328 := by omega
          have px := PenX.start HPD.out (.cells #[.int .i64 xc, .int .i64 xq, .int .i64 xe, .string xv] 84)
          clear hx cc hlen hac
          go_upto_region 13 with (fail)
          generalize wr.alloc (.cells #[.int .i64 xc, .int .i64 xq, .int .i64 xe, .string xv] 84) = u at px ⊢
          have CE : Hid (∀ u ys, PenX w1 u b wr.heap.size (.cells #[.int .i64 xc, .int .i64 xq, .int .i64 xe, .string xv] 84 (0, 0)) ys → u.cell? ⟨wr.heap.size, 0, none⟩ = some (.int .i64 xc) ∧ u.cell? ⟨wr.heap.size, 1, none⟩ = some (.int .i64 xq) ∧ u.cell? ⟨wr.heap.size, 2, none⟩ = some (.int .i64 xe) ∧ u.cell? ⟨wr.heap.size, 3, none⟩ = some (.string xv)) := fun u ys h => ⟨cell_of_row _ _ _ _ _ _ h.2.1, cell_of_row _ _ _ _ _ _ h.2.1, cell_of_row _ _ _ _ _ _ h.2.1, cell_of_row _ _ _ _ _ _ h.2.1⟩
          have px0 := px.drew
          clear px c0 c1 c2 c3
          refine wp_region_noPanic ?_
          refine wp_region_held_drew (S := fun w' => w'.cell? ⟨wr.heap.size, 0, none⟩ = some (.int .i64 xc) ∧ w'.cell? ⟨wr.heap.size, 1, none⟩ = some (.int .i64 xq) ∧ w'.cell? ⟨wr.heap.size, 2, none⟩ = some (.int .i64 xe) ∧ w'.cell? ⟨wr.heap.size, 3, none⟩ = some (.string xv)) (by kernel_rfl) (CE.out _ _ px0) (fun hHeld => ?_)
          refine wpAnyH_take (i := 0) (oi := ⟨some 44, Op.move (Operand.tmp 0), 73, _, _, none⟩) (v := ?v0n19k1) rfl (by kernel_rfl) (by kernel_rfl) (by kernel_rfl) (fun _ _ _ h => h) (Or.inl ⟨by rfl, ?y0n19k1⟩) hHeld ?z0n19k1
          case y0n19k1 => intro w hSw; (try dsimp only at hSw); go_simp <;> rfl
          try simp only [Act.put, List.setIfInBounds_toArray, List.set_cons_zero, List.set_cons_succ]
          refine wpAnyH_take (i := 1) (oi := ⟨some 45, Op.fieldAddr 84 (Operand.tmp 9) 0, 0, _, _, none⟩) (v := ?v1n19k2) rfl (by kernel_rfl) (by kernel_rfl) (by kernel_rfl) (fun _ _ _ h => h) (Or.inl ⟨by rfl, ?y1n19k2⟩) hHeld ?z1n19k2
          case y1n19k2 => intro w hSw; (try dsimp only at hSw); go_simp <;> rfl
          try simp only [Act.put, List.setIfInBounds_toArray, List.set_cons_zero, List.set_cons_succ]
          refine wpAnyH_take (i := 2) (oi := ⟨some 46, Op.load 3 (Operand.tmp 45), 3, _, _, none⟩) (v := ?v2n19k3) rfl (by kernel_rfl) (by kernel_rfl) (by kernel_rfl) (fun _ _ _ h => h) (Or.inl ⟨by rfl, ?y2n19k3⟩) hHeld ?z2n19k3
          case y2n19k3 => intro w hSw; (try dsimp only at hSw); go_simp <;> rfl
          try simp only [Act.put, List.setIfInBounds_toArray, List.set_cons_zero, List.set_cons_succ]
          refine wpAnyH_take (i := 4) (oi := ⟨some 48, Op.fieldAddr 84 (Operand.tmp 9) 1, 0, _, _, none⟩) (v := ?v4n19k4) rfl (by kernel_rfl) (by kernel_rfl) (by kernel_rfl) (fun _ _ _ h => h) (Or.inl ⟨by rfl, ?y4n19k4⟩) hHeld ?z4n19k4
          case y4n19k4 => intro w hSw; (try dsimp only at hSw); go_simp <;> rfl
          try simp only [Act.put, List.setIfInBounds_toArray, List.set_cons_zero, List.set_cons_succ]
          refine wpAnyH_take (i := 5) (oi := ⟨some 49, Op.load 3 (Operand.tmp 48), 3, _, _, none⟩) (v := ?v5n19k5) rfl (by kernel_rfl) (by kernel_rfl) (by kernel_rfl) (fun _ _ _ h => h) (Or.inl ⟨by rfl, ?y5n19k5⟩) hHeld ?z5n19k5
          case y5n19k5 => intro w hSw; (try dsimp only at hSw); go_simp <;> rfl
          try simp only [Act.put, List.setIfInBounds_toArray, List.set_cons_zero, List.set_cons_succ]
          refine wpAnyH_take (i := 7) (oi := ⟨some 51, Op.fieldAddr 84 (Operand.tmp 9) 2, 0, _, _, none⟩) (v := ?v7n19k6) rfl (by kernel_rfl) (by kernel_rfl) (by kernel_rfl) (fun _ _ _ h => h) (Or.inl ⟨by rfl, ?y7n19k6⟩) hHeld ?z7n19k6
          case y7n19k6 => intro w hSw; (try dsimp only at hSw); go_simp <;> rfl
          try simp only [Act.put, List.setIfInBounds_toArray, List.set_cons_zero, List.set_cons_succ]
          refine wpAnyH_take (i := 8) (oi := ⟨some 52, Op.fieldAddr 44 (Operand.tmp 51) 0, 0, _, _, none⟩) (v := ?v8n19k7) rfl (by kernel_rfl) (by kernel_rfl) (by kernel_rfl) (fun _ _ _ h => h) (Or.inl ⟨by rfl, ?y8n19k7⟩) hHeld ?z8n19k7
          case y8n19k7 => intro w hSw; (try dsimp only at hSw); go_simp <;> rfl
          try simp only [Act.put, List.setIfInBounds_toArray, List.set_cons_zero, List.set_cons_succ]
          refine wpAnyH_take (i := 9) (oi := ⟨some 53, Op.load 42 (Operand.tmp 52), 42, _, _, none⟩) (v := ?v9n19k8) rfl (by kernel_rfl) (by kernel_rfl) (by kernel_rfl) (fun _ _ _ h => h) (Or.inl ⟨by rfl, ?y9n19k8⟩) hHeld ?z9n19k8
          case y9n19k8 => intro w hSw; (try dsimp only at hSw); go_simp <;> rfl
          try simp only [Act.put, List.setIfInBounds_toArray, List.set_cons_zero, List.set_cons_succ]
          refine wpAnyH_take (i := 11) (oi := ⟨some 55, Op.fieldAddr 84 (Operand.tmp 9) 2, 0, _, _, none⟩) (v := ?v11n19k9) rfl (by kernel_rfl) (by kernel_rfl) (by kernel_rfl) (fun _ _ _ h => h) (Or.inl ⟨by rfl, ?y11n19k9⟩) hHeld ?z11n19k9
          case y11n19k9 => intro w hSw; (try dsimp only at hSw); go_simp <;> rfl
          try simp only [Act.put, List.setIfInBounds_toArray, List.set_cons_zero, List.set_cons_succ]
          refine wpAnyH_take (i := 12) (oi := ⟨some 56, Op.fieldAddr 44 (Operand.tmp 55) 1, 0, _, _, none⟩) (v := ?v12n19k10) rfl (by kernel_rfl) (by kernel_rfl) (by kernel_rfl) (fun _ _ _ h => h) (Or.inl ⟨by rfl, ?y12n19k10⟩) hHeld ?z12n19k10
          case y12n19k10 => intro w hSw; (try dsimp only at hSw); go_simp <;> rfl
          try simp only [Act.put, List.setIfInBounds_toArray, List.set_cons_zero, List.set_cons_succ]
          refine wpAnyH_take (i := 13) (oi := ⟨some 57, Op.load 9 (Operand.tmp 56), 9, _, _, none⟩) (v := ?v13n19k11) rfl (by kernel_rfl) (by kernel_rfl) (by kernel_rfl) (fun _ _ _ h => h) (Or.inl ⟨by rfl, ?y13n19k11⟩) hHeld ?z13n19k11
          case y13n19k11 => intro w hSw; (try dsimp only at hSw); go_simp <;> rfl
          try simp only [Act.put, List.setIfInBounds_toArray, List.set_cons_zero, List.set_cons_succ]
          refine wpAnyH_ready (rs := [3]) (by kernel_rfl) (by simp) ?_
          refine AllReadyH.cons (o := ⟨some 47, Op.call { callee := Callee.value (Operand.func 44), args := #[Operand.tmp 44, Operand.tmp 46], argTypes := #[73, 3] }, 73, _, _, none⟩) rfl (fun K hK => ?_) AllReadyH.nil
          go_simp
          refine (penx_num px0 _ q1).mono ?_
          rintro e u1 ⟨rfl, px1⟩
          dsimp only
          refine hK.out _ _ (CE.out _ _ px1) (fun hHeld => ?_)
          clear hK K
          try simp only [Act.put, List.setIfInBounds_toArray, List.set_cons_zero, List.set_cons_succ]
          refine wpAnyH_ready (rs := [6]) (by kernel_rfl) (by simp) ?_
          refine AllReadyH.cons (o := ⟨some 50, Op.call { callee := Callee.value (Operand.func 44), args := #[Operand.tmp 47, Operand.tmp 49], argTypes := #[73, 3] }, 73, _, _, none⟩) rfl (fun K hK => ?_) AllReadyH.nil
          go_simp
          refine (penx_num px1 _ (by simp only [List.length_append, be8_length]; omega)).mono ?_
          rintro e u2 ⟨rfl, px2⟩
          dsimp only
          refine hK.out _ _ (CE.out _ _ px2) (fun hHeld => ?_)
          clear hK K
          try simp only [Act.put, List.setIfInBounds_toArray, List.set_cons_zero, List.set_cons_succ]
          refine wpAnyH_ready (rs := [10]) (by kernel_rfl) (by simp) ?_
          refine AllReadyH.cons (o := ⟨some 54, Op.call { callee := Callee.value (Operand.func 44), args := #[Operand.tmp 50, Operand.tmp 53], argTypes := #[73, 3] }, 73, _, _, none⟩) rfl (fun K hK => ?_) AllReadyH.nil
          go_simp
          refine (penx_num px2 _ (by simp only [List.length_append, be8_length]; omega)).mono ?_
          rintro e u3 ⟨rfl, px3⟩
          dsimp only
          refine hK.out _ _ (CE.out _ _ px3) (fun hHeld => ?_)
          clear hK K
          try simp only [Act.put, List.setIfInBounds_toArray, List.set_cons_zero, List.set_cons_succ]
          refine wpAnyH_ready (rs := [14]) (by kernel_rfl) (by simp) ?_
          refine AllReadyH.cons (o := ⟨some 58, Op.call { callee := Callee.value (Operand.func 46), args := #[Operand.tmp 54, Operand.tmp 57], argTypes := #[73, 9] }, 73, _, _, none⟩) rfl (fun K hK => ?_) AllReadyH.nil
          go_simp
          refine (penx_text px3 _ (by simp only [List.length_append, be8_length]; omega)).mono ?_
          rintro e u4 ⟨rfl, px4⟩
          dsimp only
          refine hK.out _ _ (CE.out _ _ px4) (fun hHeld => ?_)
          clear hK K
          try simp only [Act.put, List.setIfInBounds_toArray, List.set_cons_zero, List.set_cons_succ]
          refine wpAnyH_done (by kernel_rfl) ?_ _
          refine NoPanic.normal ?_
          have HP4 := Lib.hid px4.pen
          have HA4 : Hid (ad ++ be8 xc ++ be8 xq ++ be8 xe ++ tx xv = ac ++ be8 (m : Int) ++ (xs.take (j + 1)).flatMap snB) := by
            unfold Hid
            rw [flatMap_take snB xs j _ HX.out, HD.out]
            unfold snB
            simp
          clear hHeld px0 px1 px2 px3 px4 CE q1 q2 q3 q4
          go_wp2
          go_roundw
          case rel => exact ⟨j + 1, _, by omega, by go_num, HA4, HP4⟩
          case measure => simp [intOf]; omega
        · obtain rfl : j = m := by omega
          have hd2 := HD.out
          rw [List.take_of_length_le (by have := HM.out; omega), HA2.out] at hd2
          have R := Lib.hid (FIN.out _ _ hd2 HPD.out)
          clear hd2
          go_wp2
          go_end0
          exact ⟨rfl, R.out⟩
set_option maxRecDepth 100000 in
set_option maxHeartbeats 1000000 in
theorem lbytes_any (F : Nat → Prop) (s : StV) (A : Option Addr) (c : Nat) (B : Option Addr) (d : Nat) (n : Nat) (w : World) (h : Sv w F s A c B d) (hn : s.bytes.length = n) (hx : n ≤ 140737488355328) :
    Calls Try.prog 25 #[stv s A c B d] w fun e w' => e = .returned (.string (str s.bytes)) ∧ Kept noBlock w w' := by
  have ka := Kept.alloc noBlock w (.cells #[.int .i64 s.index, .int .i64 s.term, .slice A s.pairs.length c, .slice B s.sess.length d] 33)
  have ha := heap_alloc_new w (.cells #[.int .i64 s.index, .int .i64 s.term, .slice A s.pairs.length c, .slice B s.sess.length d] 33)
  have hs1 : (w.alloc (.cells #[.int .i64 s.index, .int .i64 s.term, .slice A s.pairs.length c, .slice B s.sess.length d] 33)).heap.size = w.heap.size + 1 := by simp
  have KA := Lib.hid ka
  have HA := Lib.hid ha
  have HS1 := Lib.hid hs1
  have hlen := s.bytes_length
  rw [hn] at hlen
  have HLEN := Lib.hid hlen
  have HN := Lib.hid hn
  have HL1 := Lib.hid h.lp.lt
  have HL2 := Lib.hid h.ls.lt
  have hcp := h.cp
  have hcs := h.cs
  clear ka ha hs1 hlen hn h
  unfold stv
  go_enter Try.func25, Try.ntmps25
  go_upto_region 1 with (fail)
  generalize w.alloc (.cells #[.int .i64 s.index, .int .i64 s.term, .slice A s.pairs.length c, .slice B s.sess.length d] 33) = w1 at KA HA HS1 ⊢
  have p0 := Pen.new w1
  obtain ⟨b, hb⟩ : ∃ b, b = w1.heap.size := ⟨_, rfl⟩
  have kn := Kept.alloc noBlock w1 (.cells #[.slice none 0 0] 75)
  have CE : Hid (∀ u xs, Pen (w1.alloc (.cells #[.slice none 0 0] 75)) u b xs → u.cell? ⟨w.heap.size, 0, none⟩ = some (.int .i64 s.index) ∧ u.cell? ⟨w.heap.size, 1, none⟩ = some (.int .i64 s.term) ∧ u.cell? ⟨w.heap.size, 2, none⟩ = some (.slice A s.pairs.length c) ∧ u.cell? ⟨w.heap.size, 3, none⟩ = some (.slice B s.sess.length d)) := fun u xs h => st_cells (h.1.blk (kn.blk HA.out (fun h => h)) (by rw [hb, HS1.out]; omega))
  have CE0 : Hid (∀ u, Kept noBlock w1 u → u.cell? ⟨w.heap.size, 0, none⟩ = some (.int .i64 s.index) ∧ u.cell? ⟨w.heap.size, 1, none⟩ = some (.int .i64 s.term)) := fun u k => by
    obtain ⟨a0, a1, _, _⟩ := st_cells (k.blk HA.out (fun h => h))
    exact ⟨a0, a1⟩
  rw [← hb] at p0
  have HB := Lib.hid hb
  have KN := Lib.hid kn
  have p1 := p0.drew
  go_upto_region 2 with (fail)
  rw [← hb]
  clear p0 hb kn
  refine wp_region_noPanic ?_
  refine wp_region_held_drew (S := fun u => u.cell? ⟨w.heap.size, 0, none⟩ = some (.int .i64 s.index) ∧ u.cell? ⟨w.heap.size, 1, none⟩ = some (.int .i64 s.term)) (by kernel_rfl) ⟨(CE.out _ _ p1).1, (CE.out _ _ p1).2.1⟩ (fun hHeld => ?_)
  refine wpAnyH_take (i := 0) (oi := ⟨some 6, Op.move (Operand.tmp 3), 73, _, _, none⟩) (v := ?v0n20k1) rfl (by kernel_rfl) (by kernel_rfl) (by kernel_rfl) (fun _ _ _ h => h) (Or.inl ⟨by rfl, ?y0n20k1⟩) hHeld ?z0n20k1
  case y0n20k1 => intro w hSw; (try dsimp only at hSw); go_simp <;> rfl
  try simp only [Act.put, List.setIfInBounds_toArray, List.set_cons_zero, List.set_cons_succ]
  refine wpAnyH_take (i := 1) (oi := ⟨some 7, Op.fieldAddr 33 (Operand.tmp 1) 0, 0, _, _, none⟩) (v := ?v1n20k2) rfl (by kernel_rfl) (by kernel_rfl) (by kernel_rfl) (fun _ _ _ h => h) (Or.inl ⟨by rfl, ?y1n20k2⟩) hHeld ?z1n20k2
  case y1n20k2 => intro w hSw; (try dsimp only at hSw); go_simp <;> rfl
  try simp only [Act.put, List.setIfInBounds_toArray, List.set_cons_zero, List.set_cons_succ]
  refine wpAnyH_take (i := 2) (oi := ⟨some 8, Op.load 3 (Operand.tmp 7), 3, _, _, none⟩) (v := ?v2n20k3) rfl (by kernel_rfl) (by kernel_rfl) (by kernel_rfl) (fun _ _ _ h => h) (Or.inl ⟨by rfl, ?y2n20k3⟩) hHeld ?z2n20k3
  case y2n20k3 => intro w hSw; (try dsimp only at hSw); go_simp <;> rfl
  try simp only [Act.put, List.setIfInBounds_toArray, List.set_cons_zero, List.set_cons_succ]
  refine wpAnyH_take (i := 4) (oi := ⟨some 10, Op.fieldAddr 33 (Operand.tmp 1) 1, 0, _, _, none⟩) (v := ?v4n20k4) rfl (by kernel_rfl) (by kernel_rfl) (by kernel_rfl) (fun _ _ _ h => h) (Or.inl ⟨by rfl, ?y4n20k4⟩) hHeld ?z4n20k4
  case y4n20k4 => intro w hSw; (try dsimp only at hSw); go_simp <;> rfl
  try simp only [Act.put, List.setIfInBounds_toArray, List.set_cons_zero, List.set_cons_succ]
  refine wpAnyH_take (i := 5) (oi := ⟨some 11, Op.load 3 (Operand.tmp 10), 3, _, _, none⟩) (v := ?v5n20k5) rfl (by kernel_rfl) (by kernel_rfl) (by kernel_rfl) (fun _ _ _ h => h) (Or.inl ⟨by rfl, ?y5n20k5⟩) hHeld ?z5n20k5
  case y5n20k5 => intro w hSw; (try dsimp only at hSw); go_simp <;> rfl
  try simp only [Act.put, List.setIfInBounds_toArray, List.set_cons_zero, List.set_cons_succ]
  refine wpAnyH_ready (rs := [3]) (by kernel_rfl) (by simp) ?_
  refine AllReadyH.cons (o := ⟨some 9, Op.call { callee := Callee.value (Operand.func 44), args := #[Operand.tmp 6, Operand.tmp 8], argTypes := #[73, 3] }, 73, _, _, none⟩) rfl (fun K hK => ?_) AllReadyH.nil
  go_simp
  refine (pen_num p1 _ (by simp)).mono ?_
  rintro e w2 ⟨rfl, p2⟩
  dsimp only
  refine hK.out _ _ ⟨(CE.out _ _ p2).1, (CE.out _ _ p2).2.1⟩ (fun hHeld => ?_)
  clear hK K
  try simp only [Act.put, List.setIfInBounds_toArray, List.set_cons_zero, List.set_cons_succ]
  refine wpAnyH_ready (rs := [6]) (by kernel_rfl) (by simp) ?_
  refine AllReadyH.cons (o := ⟨some 12, Op.call { callee := Callee.value (Operand.func 44), args := #[Operand.tmp 9, Operand.tmp 11], argTypes := #[73, 3] }, 73, _, _, none⟩) rfl (fun K hK => ?_) AllReadyH.nil
  go_simp
  refine (pen_num p2 _ (by simp [be8_length])).mono ?_
  rintro e w3 ⟨rfl, p3⟩
  dsimp only
  refine hK.out _ _ ⟨(CE.out _ _ p3).1, (CE.out _ _ p3).2.1⟩ (fun hHeld => ?_)
  clear hK K
  try simp only [Act.put, List.setIfInBounds_toArray, List.set_cons_zero, List.set_cons_succ]
  refine wpAnyH_done (by kernel_rfl) ?_ _
  refine NoPanic.normal ?_
  clear hHeld p1 p2
  obtain ⟨c0, c1, c2, c3⟩ := CE.out _ _ p3
  have P3 := Lib.hid p3
  clear p3
  have PUT := Lib.hid (lays_any (fun i => i < w.heap.size) (w1.alloc (.cells #[.slice none 0 0] 75)) b ([] ++ be8 s.index ++ be8 s.term) A s.pairs.length c B s.sess.length d s.pairs s.sess w3 P3.out
    (HL1.out.keep (KA.out.step KN.out) (fun _ _ h => h)) (HL2.out.keep (KA.out.step KN.out) (fun _ _ h => h)) (fun i hi e => by have := HB.out; have := HS1.out; omega) rfl rfl hcp hcs (by have := HLEN.out; simp only [List.length_append, be8_length, List.length_nil]; omega))
  go_wp2_with fail
  refine PUT.out.mono ?_
  rintro e w4 ⟨rfl, p4⟩
  have he : [] ++ be8 s.index ++ be8 s.term ++ rowsB s.pairs s.sess = s.bytes := by unfold StV.bytes; simp
  rw [he] at p4
  clear PUT c0 c1 c2 c3 he
  go_wp2_with fail
  refine (pen_bytes p4 n HN.out hx).mono ?_
  rintro e w5 ⟨P, cp, rfl, ho, k5⟩
  have CV := run_str_lies (P := Try.prog) 37 9 5 Try.underlying37 Try.underlying5 Try.underlying9 (Lies.of_own (F := fun _ => True) ho (fun _ _ => trivial)) HN.out cp
  have K5 : Hid (Kept noBlock w w5) := (KA.out.step KN.out).trans k5 (fun i hi h => by have := HB.out; have := KA.out.size; omega)
  clear ho k5
  change (convert 37 9 (.slice P n cp)).run Try.prog w5 = .ok (.string (str s.bytes)) w5 at CV
  obtain ⟨X, hX⟩ : ∃ X, X = str s.bytes := ⟨_, rfl⟩
  rw [← hX] at CV
  have HXX := Lib.hid hX
  clear hX
  go_wp2
  go_ret
  rw [← HXX.out]
  exact ⟨rfl, K5.out⟩
end Go.Proofs.Ytgmjnjbmolalmaa
