/-
  The contract of the statements' own bytes of an edit. No statement is proved here.
-/
import Derived.Test.YtjijdkdpmbfdmaaE10Bytes
import Derived.Test.YtjijdkdpmbfdmaaPen2
import Derived.Deep.DeepCutAuto
namespace Go.Proofs.Ytjijdkdpmbfdmaa
open Go.RowKit Tot

set_option maxRecDepth 100000 in
set_option maxHeartbeats 1000000 in
theorem lebytes_any (F : Nat → Prop) (e : EditV) (A : Option Addr) (c : Nat) (D : Option Addr) (b0 : Nat) (n : Nat) (w : World) (hv : Ev w F e A c D b0) (hn : e.bytes.length = n) (hx : n ≤ 140737488355328) :
    Calls Try.prog 24 #[evl e A c D b0] w fun e' w' => e' = .returned (.string (str e.bytes)) ∧ Kept noBlock w w' := by
  obtain ⟨na, hna⟩ : ∃ n, n = e.add.length := ⟨_, rfl⟩
  obtain ⟨nd, hnd⟩ : ∃ n, n = e.drop.length := ⟨_, rfl⟩
  obtain ⟨fl, hfl⟩ : ∃ fl, fl = e.floor := ⟨_, rfl⟩
  have hca := hv.ca
  have hcb := hv.cb
  have hla := refB_ge e.add
  have hld := tx_ge e.drop
  have hbl := e.bytes_length
  obtain ⟨hpa, hpd⟩ := edit_parts e
  rw [hn] at hbl hpa hpd
  rw [← hna] at hca hla
  rw [← hnd] at hcb hld
  obtain ⟨la, hlae⟩ : ∃ l, l = (e.add.flatMap refB).length := ⟨_, rfl⟩
  obtain ⟨ld, hlde⟩ : ∃ l, l = (e.drop.flatMap tx).length := ⟨_, rfl⟩
  rw [← hlae] at hla hbl hpd
  rw [← hlde] at hld hbl
  have ka := Kept.alloc noBlock w (.cells #[.slice A na c, .slice D nd b0, .int .i64 fl] 36)
  have ha := heap_alloc_new w (.cells #[.slice A na c, .slice D nd b0, .int .i64 fl] 36)
  have hs1 : (w.alloc (.cells #[.slice A na c, .slice D nd b0, .int .i64 fl] 36)).heap.size = w.heap.size + 1 := by simp
  have KA := Lib.hid ka
  have HA := Lib.hid ha
  have HS1 := Lib.hid hs1
  have HV := Lib.hid hv.lt
  have HNA := Lib.hid hna
  have HND := Lib.hid hnd
  have HFL := Lib.hid hfl
  have HN := Lib.hid hn
  have HPA := Lib.hid hpa
  have HPD := Lib.hid hpd
  have HLA := Lib.hid hlae
  unfold evl
  rw [← hna, ← hnd, ← hfl]
  clear ka ha hs1 hv hn hna hnd hfl hpa hpd hlae hlde
  go_enter Try.func24, Try.ntmps24
  go_upto_region 1 with (fail)
  generalize w.alloc (.cells #[.slice A na c, .slice D nd b0, .int .i64 fl] 36) = w1 at KA HA HS1 ⊢
  have p0 := Pen.new w1
  obtain ⟨b, hb⟩ : ∃ b, b = w1.heap.size := ⟨_, rfl⟩
  have kn := Kept.alloc noBlock w1 (.cells #[.slice none 0 0] 77)
  obtain ⟨wP, hwP⟩ : ∃ wP, wP = w1.alloc (.cells #[.slice none 0 0] 77) := ⟨_, rfl⟩
  have CE : Hid (∀ u xs, Pen wP u b xs → u.cell? ⟨w.heap.size, 0, none⟩ = some (.slice A na c) ∧ u.cell? ⟨w.heap.size, 1, none⟩ = some (.slice D nd b0) ∧ u.cell? ⟨w.heap.size, 2, none⟩ = some (.int .i64 fl)) := fun u xs h => ed_cells (h.1.blk (by rw [hwP]; exact kn.blk HA.out (fun h => h)) (by rw [hb, HS1.out]; omega))
  have CE0 : Hid (∀ u, Kept noBlock w1 u → u.cell? ⟨w.heap.size, 0, none⟩ = some (.slice A na c) ∧ u.cell? ⟨w.heap.size, 1, none⟩ = some (.slice D nd b0) ∧ u.cell? ⟨w.heap.size, 2, none⟩ = some (.int .i64 fl)) := fun u k => ed_cells (k.blk HA.out (fun h => h))
  rw [← hb, ← hwP] at p0
  have HB := Lib.hid hb
  have KN : Hid (Kept noBlock w1 wP) := by unfold Hid; rw [hwP]; exact kn
  have p1 := p0.drew
  have HWP := Lib.hid hwP
  go_upto_region 2 with (fail)
  rw [← hb, ← hwP]
  clear p0 hb kn hwP
  refine wp_region_noPanic ?_
  refine wp_region_held_drew (S := fun u => u.cell? ⟨w.heap.size, 0, none⟩ = some (.slice A na c) ∧ u.cell? ⟨w.heap.size, 1, none⟩ = some (.slice D nd b0) ∧ u.cell? ⟨w.heap.size, 2, none⟩ = some (.int .i64 fl)) (by kernel_rfl) (CE.out _ _ p1) (fun hHeld => ?_)
  refine wpAnyH_take (i := 0) (oi := ⟨some 10, Op.move (Operand.tmp 3), 75, _, _, none⟩) (v := ?v0n3k1) rfl (by kernel_rfl) (by kernel_rfl) (by kernel_rfl) (fun _ _ _ h => h) (Or.inl ⟨by rfl, ?y0n3k1⟩) hHeld ?z0n3k1
  case y0n3k1 => intro w hSw; (try dsimp only at hSw); go_simp <;> rfl
  try simp only [Act.put, List.setIfInBounds_toArray, List.set_cons_zero, List.set_cons_succ]
  refine wpAnyH_take (i := 1) (oi := ⟨some 11, Op.fieldAddr 36 (Operand.tmp 1) 2, 0, _, _, none⟩) (v := ?v1n3k2) rfl (by kernel_rfl) (by kernel_rfl) (by kernel_rfl) (fun _ _ _ h => h) (Or.inl ⟨by rfl, ?y1n3k2⟩) hHeld ?z1n3k2
  case y1n3k2 => intro w hSw; (try dsimp only at hSw); go_simp <;> rfl
  try simp only [Act.put, List.setIfInBounds_toArray, List.set_cons_zero, List.set_cons_succ]
  refine wpAnyH_take (i := 2) (oi := ⟨some 12, Op.load 3 (Operand.tmp 11), 3, _, _, none⟩) (v := ?v2n3k3) rfl (by kernel_rfl) (by kernel_rfl) (by kernel_rfl) (fun _ _ _ h => h) (Or.inl ⟨by rfl, ?y2n3k3⟩) hHeld ?z2n3k3
  case y2n3k3 => intro w hSw; (try dsimp only at hSw); go_simp <;> rfl
  try simp only [Act.put, List.setIfInBounds_toArray, List.set_cons_zero, List.set_cons_succ]
  refine wpAnyH_take (i := 4) (oi := ⟨some 14, Op.fieldAddr 36 (Operand.tmp 1) 0, 0, _, _, none⟩) (v := ?v4n3k4) rfl (by kernel_rfl) (by kernel_rfl) (by kernel_rfl) (fun _ _ _ h => h) (Or.inl ⟨by rfl, ?y4n3k4⟩) hHeld ?z4n3k4
  case y4n3k4 => intro w hSw; (try dsimp only at hSw); go_simp <;> rfl
  try simp only [Act.put, List.setIfInBounds_toArray, List.set_cons_zero, List.set_cons_succ]
  refine wpAnyH_take (i := 5) (oi := ⟨some 15, Op.load 24 (Operand.tmp 14), 24, _, _, none⟩) (v := ?v5n3k5) rfl (by kernel_rfl) (by kernel_rfl) (by kernel_rfl) (fun _ _ _ h => h) (Or.inl ⟨by rfl, ?y5n3k5⟩) hHeld ?z5n3k5
  case y5n3k5 => intro w hSw; (try dsimp only at hSw); go_simp <;> rfl
  try simp only [Act.put, List.setIfInBounds_toArray, List.set_cons_zero, List.set_cons_succ]
  refine wpAnyH_take (i := 6) (oi := ⟨some 16, Op.call { callee := Callee.builtin Builtin.len, args := #[Operand.tmp 15], argTypes := #[24] }, 3, _, _, none⟩) (v := ?v6n3k6) rfl (by kernel_rfl) (by kernel_rfl) (by kernel_rfl) (fun _ _ _ h => h) (Or.inl ⟨by rfl, ?y6n3k6⟩) hHeld ?z6n3k6
  case y6n3k6 => intro w hSw; (try dsimp only at hSw); go_simp <;> rfl
  try simp only [Act.put, List.setIfInBounds_toArray, List.set_cons_zero, List.set_cons_succ]
  refine wpAnyH_ready (rs := [3]) (by kernel_rfl) (by simp) ?_
  refine AllReadyH.cons (o := ⟨some 13, Op.call { callee := Callee.value (Operand.func 32), args := #[Operand.tmp 10, Operand.tmp 12], argTypes := #[75, 3] }, 75, _, _, none⟩) rfl (fun K hK => ?_) AllReadyH.nil
  go_simp
  refine (pen_num p1 _ (by simp)).mono ?_
  rintro en w2 ⟨rfl, p2⟩
  dsimp only
  refine hK.out _ _ (CE.out _ _ p2) (fun hHeld => ?_)
  clear hK K
  try simp only [Act.put, List.setIfInBounds_toArray, List.set_cons_zero, List.set_cons_succ]
  refine wpAnyH_ready (rs := [7]) (by kernel_rfl) (by simp) ?_
  refine AllReadyH.cons (o := ⟨some 17, Op.call { callee := Callee.value (Operand.func 32), args := #[Operand.tmp 13, Operand.tmp 16], argTypes := #[75, 3] }, 75, _, _, none⟩) rfl (fun K hK => ?_) AllReadyH.nil
  go_simp
  refine (pen_num p2 _ (by simp [be8_length])).mono ?_
  rintro en w3 ⟨rfl, p3⟩
  dsimp only
  refine hK.out _ _ (CE.out _ _ p3) (fun hHeld => ?_)
  clear hK K
  try simp only [Act.put, List.setIfInBounds_toArray, List.set_cons_zero, List.set_cons_succ]
  refine wpAnyH_done (by kernel_rfl) ?_ _
  refine NoPanic.normal ?_
  clear hHeld p1 p2
  obtain ⟨c0, c1, c2⟩ := CE.out _ _ p3
  have V1 : Hid (∀ u xs, Pen wP u b xs → Ev u (fun i => i < w.heap.size) e A c D b0) := fun u xs h => (HV.out.kept (KA.out.step KN.out)).keep h.1 (fun i hi e => by have := HB.out; have := HS1.out; omega)
  have P3 : Hid (Pen wP w3 b (be8 fl ++ be8 (na : Int))) := by unfold Hid; simpa using p3
  clear p3
  go_wp2_with fail
  go_loopw [21] (fun i wr => ∃ (k : Nat) (ac : List UInt8), k ≤ na ∧ i = .int .i64 (k : Int) ∧ Hid (ac = be8 fl ++ be8 (na : Int) ++ (e.add.take k).flatMap refB) ∧ Hid (Pen wP wr b ac)) (fun i _ => na - (intOf i).toNat)
  case atStart => exact ⟨0, _, by omega, rfl, rfl, by unfold Hid; simpa using P3.out⟩
  case round =>
    obtain ⟨k, ac, hk, rfl, HAC, HP⟩ := hrel
    by_cases hlt : k < na
    · obtain ⟨x, hx⟩ : ∃ x, e.add[k]? = some x := ⟨_, List.getElem?_eq_getElem (by have := HNA.out; omega)⟩
      obtain ⟨g, o, rfl, _, cc⟩ := (V1.out _ _ HP.out).la.elem (enc := RefV.cells) ref_len (by omega) hx
      have e0 := cc 0 _ rfl
      have e1 := cc 1 _ rfl
      have e2 := cc 2 _ rfl
      have e3 := cc 3 _ rfl
      rw [Nat.add_zero] at e0
      have hlen := HPA.out k x hx
      have hac : ac.length = 16 + ((e.add.take k).flatMap refB).length := by rw [HAC.out]; simp only [List.length_append, be8_length]
      have HXX := Lib.hid hx
      obtain ⟨xn, xk, xf, xt⟩ := x
      simp only at e0 e1 e2 e3 hlen
      have q1 : ac.length + 33 + xn.size ≤ 140737488355328 := by omega
      have px := PenX.start HP.out (.cells #[.string xn, .int .i64 xk, .int .i64 xf, .int .i64 xt] 31)
      have HUL := Lib.hid (u8_low xk)
      clear hx cc hlen hac
      go_upto_region 6 with (fail)
      generalize wr.alloc (.cells #[.string xn, .int .i64 xk, .int .i64 xf, .int .i64 xt] 31) = u at px ⊢
      have CX : Hid (∀ u ys, PenX wP u b wr.heap.size (.cells #[.string xn, .int .i64 xk, .int .i64 xf, .int .i64 xt] 31 (0, 0)) ys → u.cell? ⟨wr.heap.size, 0, none⟩ = some (.string xn) ∧ u.cell? ⟨wr.heap.size, 1, none⟩ = some (.int .i64 xk) ∧ u.cell? ⟨wr.heap.size, 2, none⟩ = some (.int .i64 xf) ∧ u.cell? ⟨wr.heap.size, 3, none⟩ = some (.int .i64 xt)) := fun u ys h => ref_cells h.2.1
      have px0 := px.drew
      clear px e0 e1 e2 e3
      refine wp_region_noPanic ?_
      refine wp_region_held_drew (S := fun u => u.cell? ⟨wr.heap.size, 0, none⟩ = some (.string xn) ∧ u.cell? ⟨wr.heap.size, 1, none⟩ = some (.int .i64 xk) ∧ u.cell? ⟨wr.heap.size, 2, none⟩ = some (.int .i64 xf) ∧ u.cell? ⟨wr.heap.size, 3, none⟩ = some (.int .i64 xt)) (by kernel_rfl) (CX.out _ _ px0) (fun hHeld => ?_)
      refine wpAnyH_take (i := 0) (oi := ⟨some 25, Op.move (Operand.tmp 3), 75, _, _, none⟩) (v := ?v0n4k1) rfl (by kernel_rfl) (by kernel_rfl) (by kernel_rfl) (fun _ _ _ h => h) (Or.inl ⟨by rfl, ?y0n4k1⟩) hHeld ?z0n4k1
      case y0n4k1 => intro w hSw; (try dsimp only at hSw); go_simp <;> rfl
      try simp only [Act.put, List.setIfInBounds_toArray, List.set_cons_zero, List.set_cons_succ]
      refine wpAnyH_take (i := 1) (oi := ⟨some 26, Op.fieldAddr 31 (Operand.tmp 5) 0, 0, _, _, none⟩) (v := ?v1n4k2) rfl (by kernel_rfl) (by kernel_rfl) (by kernel_rfl) (fun _ _ _ h => h) (Or.inl ⟨by rfl, ?y1n4k2⟩) hHeld ?z1n4k2
      case y1n4k2 => intro w hSw; (try dsimp only at hSw); go_simp <;> rfl
      try simp only [Act.put, List.setIfInBounds_toArray, List.set_cons_zero, List.set_cons_succ]
      refine wpAnyH_take (i := 2) (oi := ⟨some 27, Op.load 9 (Operand.tmp 26), 9, _, _, none⟩) (v := ?v2n4k3) rfl (by kernel_rfl) (by kernel_rfl) (by kernel_rfl) (fun _ _ _ h => h) (Or.inl ⟨by rfl, ?y2n4k3⟩) hHeld ?z2n4k3
      case y2n4k3 => intro w hSw; (try dsimp only at hSw); go_simp <;> rfl
      try simp only [Act.put, List.setIfInBounds_toArray, List.set_cons_zero, List.set_cons_succ]
      refine wpAnyH_take (i := 4) (oi := ⟨some 29, Op.fieldAddr 31 (Operand.tmp 5) 1, 0, _, _, none⟩) (v := ?v4n4k4) rfl (by kernel_rfl) (by kernel_rfl) (by kernel_rfl) (fun _ _ _ h => h) (Or.inl ⟨by rfl, ?y4n4k4⟩) hHeld ?z4n4k4
      case y4n4k4 => intro w hSw; (try dsimp only at hSw); go_simp <;> rfl
      try simp only [Act.put, List.setIfInBounds_toArray, List.set_cons_zero, List.set_cons_succ]
      refine wpAnyH_take (i := 5) (oi := ⟨some 30, Op.load 29 (Operand.tmp 29), 29, _, _, none⟩) (v := ?v5n4k5) rfl (by kernel_rfl) (by kernel_rfl) (by kernel_rfl) (fun _ _ _ h => h) (Or.inl ⟨by rfl, ?y5n4k5⟩) hHeld ?z5n4k5
      case y5n4k5 => intro w hSw; (try dsimp only at hSw); go_simp <;> rfl
      try simp only [Act.put, List.setIfInBounds_toArray, List.set_cons_zero, List.set_cons_succ]
      refine wpAnyH_take (i := 6) (oi := ⟨some 31, Op.convert 29 5 (Operand.tmp 30), 5, _, _, none⟩) (v := ?v6n4k6) rfl (by kernel_rfl) (by kernel_rfl) (by kernel_rfl) (fun _ _ _ h => h) (Or.inl ⟨by rfl, ?y6n4k6⟩) hHeld ?z6n4k6
      case y6n4k6 => intro w hSw; (try dsimp only at hSw); go_simp <;> rfl
      try simp only [Act.put, List.setIfInBounds_toArray, List.set_cons_zero, List.set_cons_succ]
      refine wpAnyH_take (i := 8) (oi := ⟨some 33, Op.fieldAddr 31 (Operand.tmp 5) 2, 0, _, _, none⟩) (v := ?v8n4k7) rfl (by kernel_rfl) (by kernel_rfl) (by kernel_rfl) (fun _ _ _ h => h) (Or.inl ⟨by rfl, ?y8n4k7⟩) hHeld ?z8n4k7
      case y8n4k7 => intro w hSw; (try dsimp only at hSw); go_simp <;> rfl
      try simp only [Act.put, List.setIfInBounds_toArray, List.set_cons_zero, List.set_cons_succ]
      refine wpAnyH_take (i := 9) (oi := ⟨some 34, Op.load 3 (Operand.tmp 33), 3, _, _, none⟩) (v := ?v9n4k8) rfl (by kernel_rfl) (by kernel_rfl) (by kernel_rfl) (fun _ _ _ h => h) (Or.inl ⟨by rfl, ?y9n4k8⟩) hHeld ?z9n4k8
      case y9n4k8 => intro w hSw; (try dsimp only at hSw); go_simp <;> rfl
      try simp only [Act.put, List.setIfInBounds_toArray, List.set_cons_zero, List.set_cons_succ]
      refine wpAnyH_take (i := 11) (oi := ⟨some 36, Op.fieldAddr 31 (Operand.tmp 5) 3, 0, _, _, none⟩) (v := ?v11n4k9) rfl (by kernel_rfl) (by kernel_rfl) (by kernel_rfl) (fun _ _ _ h => h) (Or.inl ⟨by rfl, ?y11n4k9⟩) hHeld ?z11n4k9
      case y11n4k9 => intro w hSw; (try dsimp only at hSw); go_simp <;> rfl
      try simp only [Act.put, List.setIfInBounds_toArray, List.set_cons_zero, List.set_cons_succ]
      refine wpAnyH_take (i := 12) (oi := ⟨some 37, Op.load 3 (Operand.tmp 36), 3, _, _, none⟩) (v := ?v12n4k10) rfl (by kernel_rfl) (by kernel_rfl) (by kernel_rfl) (fun _ _ _ h => h) (Or.inl ⟨by rfl, ?y12n4k10⟩) hHeld ?z12n4k10
      case y12n4k10 => intro w hSw; (try dsimp only at hSw); go_simp <;> rfl
      try simp only [Act.put, List.setIfInBounds_toArray, List.set_cons_zero, List.set_cons_succ]
      refine wpAnyH_ready (rs := [3]) (by kernel_rfl) (by simp) ?_
      refine AllReadyH.cons (o := ⟨some 28, Op.call { callee := Callee.value (Operand.func 33), args := #[Operand.tmp 25, Operand.tmp 27], argTypes := #[75, 9] }, 75, _, _, none⟩) rfl (fun K hK => ?_) AllReadyH.nil
      go_simp
      refine (penx_text px0 _ (by omega)).mono ?_
      rintro en u1 ⟨rfl, px1⟩
      dsimp only
      refine hK.out _ _ (CX.out _ _ px1) (fun hHeld => ?_)
      clear hK K
      try simp only [Act.put, List.setIfInBounds_toArray, List.set_cons_zero, List.set_cons_succ]
      refine wpAnyH_ready (rs := [7]) (by kernel_rfl) (by simp) ?_
      refine AllReadyH.cons (o := ⟨some 32, Op.call { callee := Callee.value (Operand.func 34), args := #[Operand.tmp 28, Operand.tmp 31], argTypes := #[75, 5] }, 75, _, _, none⟩) rfl (fun K hK => ?_) AllReadyH.nil
      go_simp
      rw [HUL.out]
      refine (penx_byte px1 _ (by simp only [List.length_append, tx_length]; omega)).mono ?_
      rintro en u2 ⟨rfl, px2⟩
      dsimp only
      refine hK.out _ _ (CX.out _ _ px2) (fun hHeld => ?_)
      clear hK K
      try simp only [Act.put, List.setIfInBounds_toArray, List.set_cons_zero, List.set_cons_succ]
      refine wpAnyH_ready (rs := [10]) (by kernel_rfl) (by simp) ?_
      refine AllReadyH.cons (o := ⟨some 35, Op.call { callee := Callee.value (Operand.func 32), args := #[Operand.tmp 32, Operand.tmp 34], argTypes := #[75, 3] }, 75, _, _, none⟩) rfl (fun K hK => ?_) AllReadyH.nil
      go_simp
      refine (penx_num px2 _ (by simp only [List.length_append, tx_length, List.length_singleton]; omega)).mono ?_
      rintro en u3 ⟨rfl, px3⟩
      dsimp only
      refine hK.out _ _ (CX.out _ _ px3) (fun hHeld => ?_)
      clear hK K
      try simp only [Act.put, List.setIfInBounds_toArray, List.set_cons_zero, List.set_cons_succ]
      refine wpAnyH_ready (rs := [13]) (by kernel_rfl) (by simp) ?_
      refine AllReadyH.cons (o := ⟨some 38, Op.call { callee := Callee.value (Operand.func 32), args := #[Operand.tmp 35, Operand.tmp 37], argTypes := #[75, 3] }, 75, _, _, none⟩) rfl (fun K hK => ?_) AllReadyH.nil
      go_simp
      refine (penx_num px3 _ (by simp only [List.length_append, tx_length, List.length_singleton, be8_length]; omega)).mono ?_
      rintro en u4 ⟨rfl, px4⟩
      dsimp only
      refine hK.out _ _ (CX.out _ _ px4) (fun hHeld => ?_)
      clear hK K
      try simp only [Act.put, List.setIfInBounds_toArray, List.set_cons_zero, List.set_cons_succ]
      refine wpAnyH_done (by kernel_rfl) ?_ _
      refine NoPanic.normal ?_
      have HP4 := Lib.hid px4.pen
      have HA4 : Hid (ac ++ tx xn ++ [low xk] ++ be8 xf ++ be8 xt = be8 fl ++ be8 (na : Int) ++ (e.add.take (k + 1)).flatMap refB) := by
        unfold Hid
        rw [flatMap_take refB e.add k _ HXX.out, HAC.out]
        unfold refB
        simp
      clear hHeld px0 px1 px2 px3 px4 CX q1
      go_wp2
      go_roundw
      case rel => exact ⟨k + 1, _, by omega, by go_num, HA4, HP4⟩
      case measure => simp [intOf]; omega
    · obtain rfl : k = na := by omega
      have ha := HAC.out
      rw [List.take_of_length_le (by have := HNA.out; omega)] at ha
      have hac : ac.length = 16 + la := by rw [ha]; simp only [List.length_append, be8_length]; rw [← HLA.out]
      have HA2 := Lib.hid ha
      obtain ⟨c0, c1, c2⟩ := CE.out _ _ HP.out
      clear ha
      go_wp2_with fail
      refine (pen_num HP.out _ (by omega)).mono ?_
      rintro en w4 ⟨rfl, p4⟩
      obtain ⟨c0', c1', c2'⟩ := CE.out _ _ p4
      have P4 := Lib.hid p4
      clear p4 hac c0 c1 c2
      go_wp2_with fail
      go_loopw [48] (fun i wr => ∃ (j : Nat) (ad : List UInt8), j ≤ nd ∧ i = .int .i64 (j : Int) ∧ Hid (ad = ac ++ be8 (nd : Int) ++ (e.drop.take j).flatMap tx) ∧ Hid (Pen wP wr b ad)) (fun i _ => nd - (intOf i).toNat)
      case atStart => exact ⟨0, _, by omega, rfl, rfl, by unfold Hid; simpa using P4.out⟩
      case round =>
        obtain ⟨j, ad, hj, rfl, HD, HPD2⟩ := hrel
        by_cases hlt2 : j < nd
        · obtain ⟨x, hx⟩ : ∃ x, e.drop[j]? = some x := ⟨_, List.getElem?_eq_getElem (by have := HND.out; omega)⟩
          have hxs : (e.drop.map Value.string)[j]? = some (.string x) := by rw [List.getElem?_map, hx]; rfl
          obtain ⟨pd, rfl, _, hcell⟩ := (V1.out _ _ HPD2.out).ld.at_ hxs
          have hlen := HPD.out j x hx
          have had : ad.length = 24 + la + ((e.drop.take j).flatMap tx).length := by rw [HD.out, HA2.out]; simp only [List.length_append, be8_length]; rw [← HLA.out]; omega
          have HXX := Lib.hid hx
          have q1 : ad.length + 8 + x.size ≤ 140737488355328 := by omega
          clear hx hxs hlen had
          go_wp2_with fail
          refine (pen_text HPD2.out _ q1).mono ?_
          rintro en w5 ⟨rfl, p5⟩
          have HP5 := Lib.hid p5
          have HA5 : Hid (ad ++ tx x = ac ++ be8 (nd : Int) ++ (e.drop.take (j + 1)).flatMap tx) := by
            unfold Hid
            rw [flatMap_take tx e.drop j _ HXX.out, HD.out]
            simp
          clear p5 hcell q1
          go_wp2
          go_roundw
          case rel => exact ⟨j + 1, _, by omega, by go_num, HA5, HP5⟩
          case measure => simp [intOf]; omega
        · obtain rfl : j = nd := by omega
          have hd2 := HD.out
          rw [List.take_of_length_le (by have := HND.out; omega), HA2.out] at hd2
          have he : ad = e.bytes := by
            rw [hd2]
            unfold EditV.bytes
            rw [← HFL.out, ← HNA.out, ← HND.out]
            simp
          have hp := HPD2.out
          rw [he] at hp
          have HPE := Lib.hid hp
          clear hd2 he hp hbl
          go_wp2_with fail
          refine (pen_bytes HPE.out n HN.out hx).mono ?_
          rintro en w5 ⟨P, cp, rfl, ho, k5⟩
          have CV := run_str_lies (P := Try.prog) 28 9 5 Try.underlying28 Try.underlying5 Try.underlying9 (Lies.of_own (F := fun _ => True) ho (fun _ _ => trivial)) HN.out cp
          have K5 : Hid (Kept noBlock w w5) := (KA.out.step KN.out).trans k5 (fun i hi h => by have := HB.out; have := KA.out.size; omega)
          clear ho k5
          change (convert 28 9 (.slice P n cp)).run Try.prog w5 = .ok (.string (str e.bytes)) w5 at CV
          obtain ⟨X, hX⟩ : ∃ X, X = str e.bytes := ⟨_, rfl⟩
          rw [← hX] at CV
          have HXX := Lib.hid hX
          clear hX
          go_wp2
          go_ret
          rw [← HXX.out]
          exact ⟨rfl, K5.out⟩
end Go.Proofs.Ytjijdkdpmbfdmaa
