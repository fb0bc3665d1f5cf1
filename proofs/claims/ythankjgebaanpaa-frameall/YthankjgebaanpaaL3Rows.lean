/-
  FrameRows: what it does with whatever rows and bytes. No statement is proved here.
-/
import Derived.Test.YthankjgebaanpaaL3Torn
namespace Go.Proofs.Ythankjgebaanpaa
open Go.RowKit

/-- What is left of bytes behind their first rows. -/
theorem Parted.at_ {b : List UInt8} {rs : List (List UInt8)} {t : List UInt8} (h : Parted b rs t) (k : Nat) : b.drop (joined (rs.take k)).length = joined (rs.drop k) ++ t := by
  have e : b = joined (rs.take k) ++ (joined (rs.drop k) ++ t) := by
    rw [← List.append_assoc, ← joined_append, List.take_append_drop]
    exact h.is
  conv => lhs; rw [e]
  exact List.drop_left' rfl
theorem Parted.reads {b : List UInt8} {rs : List (List UInt8)} {t : List UInt8} (h : Parted b rs t) (k : Nat) (r : List UInt8) (hr : rs[k]? = some r) : rd (b.drop (joined (rs.take k)).length) = (r, r.length + 9, 0) := by
  obtain ⟨hk, e⟩ := List.getElem?_eq_some_iff.1 hr
  rw [h.at_ k, List.drop_eq_getElem_cons hk, e, joined_cons, List.append_assoc]
  exact rd_frm r _ (h.fit r (List.mem_of_getElem? hr))
theorem joined_take (rs : List (List UInt8)) (k : Nat) (r : List UInt8) (hr : rs[k]? = some r) : (joined (rs.take (k + 1))).length = (joined (rs.take k)).length + (r.length + 9) := by
  rw [take_snoc rs k r hr, joined_snoc, List.length_append, frm_length]
theorem joined_upto {b : List UInt8} {rs : List (List UInt8)} {t : List UInt8} (h : Parted b rs t) (k : Nat) : (joined (rs.take k)).length ≤ b.length := by
  have h1 := congrArg List.length (h.at_ k)
  have h2 := h.le
  have h3 := congrArg List.length (show joined rs = joined (rs.take k) ++ joined (rs.drop k) by rw [← joined_append, List.take_append_drop])
  rw [List.length_append] at h3
  omega

set_option maxRecDepth 100000 in
set_option maxHeartbeats 2000000 in
theorem rows_walk (F : Nat → Prop) (a r : Option Addr) (n c n' c' : Nat) (xs : List Item) (l' : List UInt8) (w : World) (h : Lies w F a (xs.map Item.val)) (hx : ∀ x ∈ xs, x.lies F w) (hl : xs.length = n) (hc : n ≤ c) (hm : ∀ x ∈ xs, x.row.length ≤ 9223372036854775807)
    (h' : Lies w F r (l'.map bv)) (hl' : l'.length = n') (hn' : n' ≤ 2000000) :
    Calls Try.prog 5 #[.slice a n c, .slice r n' c'] w fun e w' => e = .returned (.bool true) ∧ Kept noBlock w w' := by
  have HM := Lib.hid hm; clear hm
  have HX := Lib.hid hx; clear hx
  go_enter Try.func5, Try.ntmps5
  go_wp2_with fail
  refine (awake_any w).mono ?_
  rintro e w1 ⟨rfl, k1⟩
  go_wp2_with fail
  refine (few_any F a n c xs w1 (h.keep k1 (fun _ _ h => h)) (fun x hx => (HX.out x hx).keep k1) hl hc HM.out).mono ?_
  rintro e w2 ⟨R, rc, ys, rfl, o2, l2, hy30, hy3, k2⟩
  have HO2 := Lib.hid o2; clear o2
  have HL2 := Lib.hid l2; clear l2
  have HY3 := Lib.hid hy3; clear hy3
  obtain ⟨K, hK⟩ : ∃ K, K = ys.length := ⟨_, rfl⟩
  rw [← hK] at HO2 hy30 ⊢
  have HK := Lib.hid hK; clear hK h HX HM
  go_wp2_with fail
  refine (join_any F R K rc ys w2 (Lies.of_own HO2.out (fun _ _ => trivial)) HL2.out HK.out.symm hy30 HY3.out).mono ?_
  rintro e w3 ⟨Rb, bc, N, rfl, hN, o3, k3⟩
  have HO3 := Lib.hid o3; clear o3
  have hNb : N ≤ 9270 := by
    have := joined_le (rowsOf ys) (fun r hr => by obtain ⟨y, hy, rfl⟩ := List.mem_map.1 hr; exact HY3.out y hy)
    rw [rowsOf_length, ← HK.out] at this
    omega
  have HN := Lib.hid hN; clear hN
  have hsrc : Src Try.prog 1 22 (.slice r n' c') n' (l'.map bv) w3 := src_lies Try.underlying22 (h'.keep ((k1.step k2).step k3) (fun _ _ h => h)) (by simpa using hl') (bv_one l')
  go_wp2_with (at_builtin; refine wpList_append_src rfl _ _ 22 22 rfl 5 (.int .u8 0) 1 1 Try.underlying22 Try.infoU8 rfl (.slice Rb N bc) N _ rfl (own_base (base' := 0) HO3.out (fun _ _ => Nat.zero_le _)) _ n' (l'.map bv) rfl hsrc ?c3 ?c4 ?_)
  case c3 => unfold maxLen; omega
  case c4 => omega
  intro Ra ca w4 o4 k4 hat4
  have g4 := (Grew.mk k4 hat4).new k3 (fun i hi => (HO3.out.lt i hi).1)
  obtain ⟨b, hb⟩ : ∃ b, b = joined (rowsOf ys) ++ l' := ⟨_, rfl⟩
  have o4' : w4.ownsRow 0 5 1 (.slice Ra (N + n') ca) (N + n') (b.map bv) := by rw [hb, List.map_append]; exact o4
  obtain ⟨L, hL⟩ : ∃ L, L = N + n' := ⟨_, rfl⟩
  have hbl : b.length = L := by rw [hb, List.length_append, ← HN.out, hl', hL]
  rw [← hL] at o4' ⊢
  have hLb : L ≤ 2009270 := by omega
  have hcapb : L ≤ ca := by obtain ⟨_, _, e, hle⟩ := own_form o4'; injection e with _ _ e; omega
  have lb4 := Lies.of_own (F := fun _ => True) o4' (fun _ _ => trivial)
  have k24 := g4.1
  have hPy : Parted b (rowsOf ys) l' := ⟨hb, fun q hq => by obtain ⟨y, hy, rfl⟩ := List.mem_map.1 hq; have := HY3.out y hy; omega⟩
  have HPY := Lib.hid hPy
  clear hPy hb hL o4 o4' g4 k4 hat4 hsrc HO3 HN k3
  have HBL := Lib.hid hbl; clear hbl
  go_wp2_with fail
  refine (rows_any _ Ra L ca b w4 lb4 HBL.out (by omega) hcapb).mono ?_
  rintro e w5 ⟨us, t, R5, rc5, hP, hbad, rfl, o5, th5, k5⟩
  obtain ⟨M, hM⟩ : ∃ M, M = us.length := ⟨_, rfl⟩
  obtain ⟨p, hp⟩ : ∃ p, p = (joined (rowsOf us)).length := ⟨_, rfl⟩
  obtain ⟨er, her⟩ : ∃ er : Nat, er = (if t = [] then 0 else (rd t).2.2) := ⟨_, rfl⟩
  rw [← hM, ← hp, ← her]
  rw [← hM] at o5
  have hMK : K ≤ M := by
    obtain ⟨more, e1, _⟩ := Parted.first hbad hP HPY.out
    have := congrArg List.length e1
    rw [List.length_append, rowsOf_length, rowsOf_length, ← hM, ← HK.out] at this
    omega
  have hMb : M ≤ L := by
    have h1 := joined_ge (rowsOf us)
    have h2 := hP.le
    rw [HBL.out] at h2
    rw [rowsOf_length, ← hM] at h1
    omega
  have hpt : p + t.length = L := by
    have := congrArg List.length hP.is
    rw [HBL.out, List.length_append, ← hp] at this
    exact this.symm
  have HO5 := Lib.hid o5; clear o5
  have HT5 := Lib.hid th5; clear th5
  have HP := Lib.hid hP; clear hP
  have HBAD := Lib.hid hbad; clear hbad
  have HMM := Lib.hid hM; clear hM
  have HPP := Lib.hid hp; clear hp
  have HER := Lib.hid her; clear her
  have lb5 := lb4.keep k5 (fun _ _ h => h)
  have kk := ((k1.step k2).step k24).step k5
  clear lb4 k1 k2 k24 k5 HL2 HO2 h' HPY
  go_wp2
  go_loopw [9, 10] (fun i e wr => ∃ (k q : Nat), k ≤ M ∧ i = .int .i64 k ∧ e = .int .i64 (q : Int) ∧ q ≤ L ∧ Hid (q = (joined ((rowsOf us).take k)).length) ∧ Kept noBlock w5 wr) (fun i _ _ => M - (intOf i).toNat)
  case atStart => exact ⟨0, 0, Nat.zero_le _, rfl, rfl, Nat.zero_le _, Lib.hid rfl, Kept.refl _ _⟩
  case round =>
    obtain ⟨k, q, hk, rfl, rfl, hqL, HQ, kr⟩ := hrel
    have hdr : Lies wr (fun _ => True) (if ca = q then Ra else Ra.map (·.add q)) ((b.drop q).map bv) := by
      rw [List.map_drop]
      exact (lb5.keep kr (fun _ _ h => h)).drop q (by rw [List.length_map, HBL.out]; exact hcapb)
    obtain ⟨A1, hA1⟩ : ∃ A1, (if ca = q then Ra else Option.map (fun x => x.add q) Ra) = A1 := ⟨_, rfl⟩
    rw [hA1] at hdr
    have hqi : (q : Int) ≤ L := by omega
    go_wp2_with fail
    refine (lone_any _ A1 (L - q) (ca - q) (b.drop q) wr hdr (by rw [List.length_drop, HBL.out]) (by omega) (by omega)).mono ?_
    rintro e w6 ⟨A6, c6, rfl, l6, k6⟩
    clear hdr hA1
    by_cases hlt : k < M
    · obtain ⟨x, hx⟩ : ∃ x, us[k]? = some x := ⟨_, List.getElem?_eq_getElem (by rw [← HMM.out]; exact hlt)⟩
      have hxr : (rowsOf us)[k]? = some x.row := by simp [rowsOf, hx]
      have hrd := HP.out.reads k x.row hxr
      rw [← HQ.out] at hrd
      have hjt := joined_take (rowsOf us) k x.row hxr
      have hju := joined_upto HP.out (k + 1)
      rw [hjt, ← HQ.out, HBL.out] at hju
      rw [← HQ.out] at hjt
      rw [hrd] at l6 ⊢
      obtain ⟨g, cap, hv, _, _⟩ := HO5.out.form (by omega)
      obtain ⟨rfl, rfl⟩ : R5 = some ⟨g, 0, none⟩ ∧ rc5 = cap := by injection hv with a b c; exact ⟨a, c⟩
      have kd := (kr.step k6).step (Kept.drew noBlock w6)
      have c1 := item_cell ((Lies.of_own (F := fun _ => True) HO5.out (fun _ _ => trivial)).keep kd (fun _ _ h => h)) hx
      have v1 := run_str ((Lies.of_own (F := fun _ => True) (HT5.out x (List.mem_of_getElem? hx)) (fun _ _ => trivial)).keep kd (fun _ _ h => h)) rfl
      have v2 := run_str (l6.keep (Kept.drew noBlock w6) (fun _ _ h => h)) rfl
      rw [Nat.zero_add] at c1
      obtain ⟨Lx, hLx⟩ : ∃ Lx, Lx = x.row.length := ⟨_, rfl⟩
      obtain ⟨S, hS⟩ : ∃ S, S = str x.row := ⟨_, rfl⟩
      obtain ⟨xA, hxA⟩ : ∃ xA, xA = x.A := ⟨_, rfl⟩
      obtain ⟨xc, hxc⟩ : ∃ xc, xc = x.c := ⟨_, rfl⟩
      rw [← hLx, ← hxA, ← hxc] at c1
      rw [← hLx, ← hxA, ← hS] at v1
      rw [← hLx, ← hS] at v2
      rw [← hLx] at hju hjt ⊢
      clear hLx hS hxA hxc hxr hx hv hrd l6
      have hki : (k : Int) < M := by omega
      have hki2 : k < M := hlt
      have hge : decide ((M : Int) ≤ (k : Int)) = false := decide_eq_false (by omega)
      have hge2 : decide (M ≤ k) = false := decide_eq_false (by omega)
      have hge3 : ¬ M ≤ k := by omega
      obtain ⟨q2, hq2⟩ : ∃ q2, q2 = q + (Lx + 9) := ⟨_, rfl⟩
      have hadd : (q : Int) + ((Lx : Int) + 9) = (q2 : Int) := by omega
      have hq2L : q2 ≤ L := by omega
      rw [← hq2] at hjt
      have HJ := Lib.hid hjt; clear hjt hq2
      go_upto_region 11 with (fail)
      refine wp_region_noPanic ?_
      refine wp_region_held_drew (S := fun w' => w'.cell? ⟨g, k, none⟩ = some (.slice xA Lx xc) ∧ (∀ c, (convert 22 9 (.slice xA Lx c)).run Try.prog w' = .ok (.string S) w') ∧ (∀ c, (convert 22 9 (.slice A6 Lx c)).run Try.prog w' = .ok (.string S) w')) (by kernel_rfl) ⟨c1, v1, v2⟩ (fun hHeld => ?_)
      refine wpAnyH_take (i := 0) (oi := ⟨some 57, Op.move (Operand.tmp 9), 3, _, _, none⟩) (v := ?v0n1k1) rfl (by kernel_rfl) (by kernel_rfl) (by kernel_rfl) (fun _ _ _ h => h) (Or.inl ⟨by rfl, ?y0n1k1⟩) hHeld ?z0n1k1
      case y0n1k1 => intro w hSw; (try dsimp only at hSw); go_simp <;> rfl
      try simp only [Act.put, List.setIfInBounds_toArray, List.set_cons_zero, List.set_cons_succ]
      refine wpAnyH_take (i := 1) (oi := ⟨some 58, Op.move (Operand.tmp 6), 32, _, _, none⟩) (v := ?v1n1k2) rfl (by kernel_rfl) (by kernel_rfl) (by kernel_rfl) (fun _ _ _ h => h) (Or.inl ⟨by rfl, ?y1n1k2⟩) hHeld ?z1n1k2
      case y1n1k2 => intro w hSw; (try dsimp only at hSw); go_simp <;> rfl
      try simp only [Act.put, List.setIfInBounds_toArray, List.set_cons_zero, List.set_cons_succ]
      refine wpAnyH_take (i := 2) (oi := ⟨some 59, Op.call { callee := Callee.builtin Builtin.len, args := #[Operand.tmp 58], argTypes := #[32] }, 3, _, _, none⟩) (v := ?v2n1k3) rfl (by kernel_rfl) (by kernel_rfl) (by kernel_rfl) (fun _ _ _ h => h) (Or.inl ⟨by rfl, ?y2n1k3⟩) hHeld ?z2n1k3
      case y2n1k3 => intro w hSw; (try dsimp only at hSw); go_simp <;> rfl
      try simp only [Act.put, List.setIfInBounds_toArray, List.set_cons_zero, List.set_cons_succ]
      refine wpAnyH_take (i := 3) (oi := ⟨some 60, Op.binOp BinOp.geq 3 (Operand.tmp 57) (Operand.tmp 59) 3, 4, _, _, none⟩) (v := ?v3n1k4) rfl (by kernel_rfl) (by kernel_rfl) (by kernel_rfl) (fun _ _ _ h => h) (Or.inl ⟨by rfl, ?y3n1k4⟩) hHeld ?z3n1k4
      case y3n1k4 => intro w hSw; (try dsimp only at hSw); go_simp <;> rfl
      try simp only [Act.put, List.setIfInBounds_toArray, List.set_cons_zero, List.set_cons_succ]
      refine wpAnyH_take (i := 4) (oi := ⟨some 61, Op.move (Operand.tmp 60), 4, _, _, none⟩) (v := ?v4n1k5) rfl (by kernel_rfl) (by kernel_rfl) (by kernel_rfl) (fun _ _ _ h => h) (Or.inl ⟨by rfl, ?y4n1k5⟩) hHeld ?z4n1k5
      case y4n1k5 => intro w hSw; (try dsimp only at hSw); go_simp <;> rfl
      try simp only [Act.put, List.setIfInBounds_toArray, List.set_cons_zero, List.set_cons_succ]
      refine wpAnyH_take (i := 5) (oi := ⟨some 62, Op.move (Operand.tmp 6), 32, _, _, some (4, false)⟩) (v := ?v5n1k6) rfl (by kernel_rfl) (by kernel_rfl) (by kernel_rfl) (fun _ _ _ h => h) (Or.inl ⟨by rfl, ?y5n1k6⟩) hHeld ?z5n1k6
      case y5n1k6 => intro w hSw; (try dsimp only at hSw); go_simp <;> rfl
      try simp only [Act.put, List.setIfInBounds_toArray, List.set_cons_zero, List.set_cons_succ]
      refine wpAnyH_take (i := 6) (oi := ⟨some 63, Op.move (Operand.tmp 9), 3, _, _, some (4, false)⟩) (v := ?v6n1k7) rfl (by kernel_rfl) (by kernel_rfl) (by kernel_rfl) (fun _ _ _ h => h) (Or.inl ⟨by rfl, ?y6n1k7⟩) hHeld ?z6n1k7
      case y6n1k7 => intro w hSw; (try dsimp only at hSw); go_simp <;> rfl
      try simp only [Act.put, List.setIfInBounds_toArray, List.set_cons_zero, List.set_cons_succ]
      refine wpAnyH_take (i := 7) (oi := ⟨some 64, Op.indexAddr 32 (Operand.tmp 62) (Operand.tmp 63), 0, _, _, some (4, false)⟩) (v := ?v7n1k8) rfl (by kernel_rfl) (by kernel_rfl) (by kernel_rfl) (fun _ _ _ h => h) (Or.inl ⟨by rfl, ?y7n1k8⟩) hHeld ?z7n1k8
      case y7n1k8 => intro w hSw; (try dsimp only at hSw); go_simp <;> rfl
      try simp only [Act.put, List.setIfInBounds_toArray, List.set_cons_zero, List.set_cons_succ]
      refine wpAnyH_take (i := 8) (oi := ⟨some 65, Op.load 22 (Operand.tmp 64), 22, _, _, some (4, false)⟩) (v := ?v8n1k9) rfl (by kernel_rfl) (by kernel_rfl) (by kernel_rfl) (fun _ _ _ h => h) (Or.inl ⟨by rfl, ?y8n1k9⟩) hHeld ?z8n1k9
      case y8n1k9 => intro w hSw; (try dsimp only at hSw); go_simp <;> rfl
      try simp only [Act.put, List.setIfInBounds_toArray, List.set_cons_zero, List.set_cons_succ]
      refine wpAnyH_take (i := 9) (oi := ⟨some 66, Op.convert 22 9 (Operand.tmp 65), 9, _, _, some (4, false)⟩) (v := ?v9n1k10) rfl (by kernel_rfl) (by kernel_rfl) (by kernel_rfl) (fun _ _ _ h => h) (Or.inl ⟨by rfl, ?y9n1k10⟩) hHeld ?z9n1k10
      case y9n1k10 => intro w hSw; (try dsimp only at hSw); go_simp <;> rfl
      try simp only [Act.put, List.setIfInBounds_toArray, List.set_cons_zero, List.set_cons_succ]
      refine wpAnyH_take (i := 10) (oi := ⟨some 67, Op.move (Operand.tmp 11), 22, _, _, some (4, false)⟩) (v := ?v10n1k11) rfl (by kernel_rfl) (by kernel_rfl) (by kernel_rfl) (fun _ _ _ h => h) (Or.inl ⟨by rfl, ?y10n1k11⟩) hHeld ?z10n1k11
      case y10n1k11 => intro w hSw; (try dsimp only at hSw); go_simp <;> rfl
      try simp only [Act.put, List.setIfInBounds_toArray, List.set_cons_zero, List.set_cons_succ]
      refine wpAnyH_take (i := 11) (oi := ⟨some 68, Op.convert 22 9 (Operand.tmp 67), 9, _, _, some (4, false)⟩) (v := ?v11n1k12) rfl (by kernel_rfl) (by kernel_rfl) (by kernel_rfl) (fun _ _ _ h => h) (Or.inl ⟨by rfl, ?y11n1k12⟩) hHeld ?z11n1k12
      case y11n1k12 => intro w hSw; (try dsimp only at hSw); go_simp <;> rfl
      try simp only [Act.put, List.setIfInBounds_toArray, List.set_cons_zero, List.set_cons_succ]
      refine wpAnyH_take (i := 12) (oi := ⟨some 69, Op.binOp BinOp.neq 9 (Operand.tmp 66) (Operand.tmp 68) 9, 4, _, _, some (4, false)⟩) (v := ?v12n1k13) rfl (by kernel_rfl) (by kernel_rfl) (by kernel_rfl) (fun _ _ _ h => h) (Or.inl ⟨by rfl, ?y12n1k13⟩) hHeld ?z12n1k13
      case y12n1k13 => intro w hSw; (try dsimp only at hSw); go_simp <;> rfl
      try simp only [Act.put, List.setIfInBounds_toArray, List.set_cons_zero, List.set_cons_succ]
      refine wpAnyH_take (i := 13) (oi := ⟨some 70, Op.pick (Operand.tmp 61) (Operand.const (Value.bool true)) (Operand.tmp 69), 4, _, _, none⟩) (v := ?v13n1k14) rfl (by kernel_rfl) (by kernel_rfl) (by kernel_rfl) (fun _ _ _ h => h) (Or.inl ⟨by rfl, ?y13n1k14⟩) hHeld ?z13n1k14
      case y13n1k14 => intro w hSw; (try dsimp only at hSw); go_simp <;> rfl
      try simp only [Act.put, List.setIfInBounds_toArray, List.set_cons_zero, List.set_cons_succ]
      refine wpAnyH_done (by kernel_rfl) ?_ _
      refine NoPanic.normal ?_
      go_wp2
      go_roundw
      case rel => exact ⟨k + 1, q2, by omega, by go_num, rfl, hq2L, Lib.hid HJ.out.symm, kd⟩
      case measure => simp [intOf]; omega
    · have hkM : M = k := by omega
      subst hkM
      have hqp : q = p := by rw [HQ.out, List.take_of_length_le (by rw [rowsOf_length, ← HMM.out]; exact Nat.le_refl _), HPP.out]
      have htd : b.drop q = t := by rw [hqp, HPP.out]; exact HP.out.rest.symm
      rw [htd]
      obtain ⟨u, hu⟩ : ∃ u, u = rd t := ⟨_, rfl⟩
      have hub : ¬ u.2.2 = 0 := by rw [hu]; exact HBAD.out
      have her := HER.out
      rw [← hu] at her ⊢
      clear hu htd l6
      subst hqp
      have kk2 := (kk.step kr).step k6
      obtain ⟨f, hf⟩ : ∃ f, f = u.2.2 := ⟨_, rfl⟩
      rw [← hf] at hub her ⊢
      have hfi : ((f : Int) == 0) = false := beq_false_of_ne (by omega)
      have hKM : decide ((K : Int) ≤ (M : Int)) = true := decide_eq_true (by omega)
      have hKM2 : decide (K ≤ M) = true := decide_eq_true hMK
      clear hf
      by_cases ht : t = []
      · rw [if_pos ht] at her
        subst her
        have hqe : L = q := by rw [ht] at hpt; simpa using hpt.symm
        subst hqe
        clear hpt
        go_wp2
        go_ret
        exact ⟨by simp, kk2⟩
      · rw [if_neg ht] at her
        subst her
        have htl : 0 < t.length := List.length_pos_iff.2 ht
        have hq1 : (q : Int) < L := by omega
        have hq2 : ((q : Int) == (L : Int)) = false := beq_false_of_ne (by omega)
        have hq3 : decide ((q : Int) < (L : Int)) = true := decide_eq_true hq1
        have hq4 : decide (q < L) = true := decide_eq_true (by omega)
        clear hpt htl
        go_wp2
        go_ret
        exact ⟨by simp, kk2⟩

end Go.Proofs.Ythankjgebaanpaa
