/-
  FrameTorn: what it does with whatever rows and cut. No statement is proved here.
-/
import Derived.Test.YthankjgebaanpaaL3Join
namespace Go.Proofs.Ythankjgebaanpaa
open Go.RowKit

/-- Of frames that are cut the first ones are whole, and the next one is torn. -/
theorem torn : ∀ (rs : List (List UInt8)) (_ : ∀ r ∈ rs, r.length ≤ 16384) (n : Nat) (_ : n ≤ (joined rs).length), ∃ k t, k ≤ rs.length ∧ Parted ((joined rs).take n) (rs.take k) t ∧ rd t = ([], 0, 3) ∧ (k < rs.length → ∃ r, rs[k]? = some r ∧ t.length < r.length + 9)
  | [], _, n, hn => ⟨0, [], Nat.le_refl _, ⟨by simp [joined], fun r h => by cases h⟩, rd_nil, fun h => by simp at h⟩
  | r :: rs, hf, n, hn => by
    by_cases h : n < r.length + 9
    · refine ⟨0, (frm r).take n, Nat.zero_le _, ⟨?_, fun r h => by cases h⟩, rd_cut r (hf r (by simp)) n h, fun _ => ⟨r, rfl, ?_⟩⟩
      · rw [joined_cons, List.take_append, frm_length, show n - (r.length + 9) = 0 by omega]
        simp [joined]
      · rw [List.length_take]
        omega
    · rw [joined_cons, List.length_append, frm_length] at hn
      obtain ⟨k, t, h1, h2, h3, h4⟩ := torn rs (fun x hx => hf x (by simp [hx])) (n - (r.length + 9)) (by omega)
      refine ⟨k + 1, t, by simpa using h1, ⟨?_, fun x hx => ?_⟩, h3, fun hk => ?_⟩
      · rw [List.take_succ_cons, joined_cons, joined_cons, List.take_append, frm_length, List.append_assoc, ← h2.is, List.take_of_length_le (by rw [frm_length]; omega)]
      · rw [List.take_succ_cons] at hx
        rcases List.mem_cons.1 hx with rfl | hx
        · exact hf _ (by simp)
        · exact h2.fit x hx
      · obtain ⟨q, h5, h6⟩ := h4 (by simpa using hk)
        exact ⟨q, by simpa using h5, h6⟩
/-- The rows that are found are told by what is found. -/
theorem Parted.only {b : List UInt8} {rs rs' : List (List UInt8)} {t t' : List UInt8} (h : Parted b rs t) (h' : Parted b rs' t') (ht : (rd t).2.2 ≠ 0) (ht' : (rd t').2.2 ≠ 0) : rs = rs' ∧ t = t' := by
  obtain ⟨m, e1, e2⟩ := Parted.first ht h h'
  obtain ⟨m', e3, e4⟩ := Parted.first ht' h' h
  have hm : m = [] := by
    have := congrArg List.length e1
    have h2 := congrArg List.length e3
    rw [List.length_append] at this h2
    exact List.eq_nil_of_length_eq_zero (by omega)
  subst hm
  exact ⟨by rw [e1, List.append_nil], by rw [e2]; simp [joined]⟩

theorem item_cell {w : World} {F : Nat → Prop} {b o : Nat} {xs : List Item} (h : Lies w F (some ⟨b, o, none⟩) (xs.map Item.val)) {k : Nat} {x : Item} (hx : xs[k]? = some x) : w.cell? ⟨b, o + k, none⟩ = some (.slice x.A x.row.length x.c) := by
  obtain ⟨ad, e, _, hc⟩ := h.at_ (k := k) (u := x.val) (by simp [hx])
  injection e with e
  subst e
  rw [add_plain] at hc
  exact hc

set_option maxRecDepth 100000 in
set_option maxHeartbeats 2000000 in
theorem torn_walk (F : Nat → Prop) (a : Option Addr) (n c : Nat) (xs : List Item) (cut : Nat) (w : World) (hcut : cut < 65536) (h : Lies w F a (xs.map Item.val)) (hx : ∀ x ∈ xs, x.lies F w) (hl : xs.length = n) (hc : n ≤ c) (hm : ∀ x ∈ xs, x.row.length ≤ 9223372036854775807) :
    Calls Try.prog 7 #[.slice a n c, .int .u16 (cut : Int)] w fun e w' => e = .returned (.bool true) ∧ Kept noBlock w w' := by
  have HM := Lib.hid hm; clear hm
  have HX := Lib.hid hx; clear hx
  go_enter Try.func7, Try.ntmps7
  go_wp2_with fail
  refine (awake_any w).mono ?_
  rintro e w1 ⟨rfl, k1⟩
  go_wp2_with fail
  refine (few_any F a n c xs w1 (h.keep k1 (fun _ _ h => h)) (fun x hx => (HX.out x hx).keep k1) hl hc HM.out).mono ?_
  rintro e w2 ⟨R, rc, ys, rfl, o2, l2, hy30, hy3, k2⟩
  have HO2 := Lib.hid o2; clear o2
  have HL2 := Lib.hid l2; clear l2
  have HY3 := Lib.hid hy3; clear hy3
  obtain ⟨K, hK⟩ : ∃ K, K = ys.length := ⟨_, rfl⟩
  rw [← hK] at HO2 hy30 ⊢
  have HK := Lib.hid hK; clear hK h HX HM
  go_wp2_with fail
  refine (join_any F R K rc ys w2 (Lies.of_own HO2.out (fun _ _ => trivial)) HL2.out HK.out.symm hy30 HY3.out).mono ?_
  rintro e w3 ⟨Rb, bc, N, rfl, hN, o3, k3⟩
  have HO3 := Lib.hid o3; clear o3
  have hNb : N ≤ 9270 := by
    have := joined_le (rowsOf ys) (fun r hr => by obtain ⟨y, hy, rfl⟩ := List.mem_map.1 hr; exact HY3.out y hy)
    rw [rowsOf_length, ← HK.out] at this
    omega
  have HN := Lib.hid hN; clear hN
  have hcapb : N ≤ bc := by obtain ⟨_, _, e, hle⟩ := own_form HO3.out; injection e with _ _ e; omega
  obtain ⟨q, hq⟩ : ∃ q, q = cut % (N + 1) := ⟨_, rfl⟩
  have hqN : q ≤ N := by have := Nat.mod_lt cut (y := N + 1) (by omega); omega
  have hrem : (cut : Int) % ((N : Int) + 1) = (q : Int) := by
    have e : (N : Int) + 1 = ((N + 1 : Nat) : Int) := by omega
    rw [hq, e]
    omega
  have hqc : (q : Int) ≤ bc := by omega
  have HQ := Lib.hid hq; clear hq
  have hN1 : ¬ ((N : Int) + 1 = 0) := by omega
  go_wp2_with fail
  rw [hrem]
  obtain ⟨B, hB⟩ : ∃ B, B = joined (rowsOf ys) := ⟨_, rfl⟩
  have hfit : ∀ r ∈ rowsOf ys, r.length ≤ 16384 := fun r hr => by obtain ⟨y, hy, rfl⟩ := List.mem_map.1 hr; have := HY3.out y hy; omega
  obtain ⟨k, t, hk1, hP, hrd, hnext⟩ := torn (rowsOf ys) hfit q (by rw [← HN.out]; exact hqN)
  rw [rowsOf_length, ← HK.out] at hk1 hnext
  have hb3 : Lies w3 (fun _ => True) Rb ((B.take q).map bv) := by rw [hB, List.map_take]; exact (Lies.of_own HO3.out (fun _ _ => trivial)).take q
  refine (rows_any _ Rb q bc (B.take q) w3 hb3 (by rw [hB, List.length_take, ← HN.out]; omega) (by omega) (by omega)).mono ?_
  rintro e w4 ⟨us, t', R4, rc4, hP4, hbad4, rfl, o4, th4, k4⟩
  rw [hB] at hP4
  obtain ⟨eus, rfl⟩ := hP4.only hP hbad4 (by rw [hrd]; simp)
  have hul : us.length = k := by rw [← rowsOf_length, eus, List.length_take, rowsOf_length, ← HK.out]; omega
  obtain ⟨p, hp⟩ : ∃ p, p = (joined (rowsOf us)).length := ⟨_, rfl⟩
  have hpq : p + t'.length = q := by
    have := congrArg List.length hP4.is
    rw [List.length_take, List.length_append, ← HN.out, ← hp] at this
    omega
  rw [hul] at o4
  rw [hul, ← hp, hrd]
  have HO4 := Lib.hid o4; clear o4
  have HT4 := Lib.hid th4; clear th4
  have HE := Lib.hid eus; clear eus
  have HNX := Lib.hid hnext; clear hnext
  have HUL := Lib.hid hul; clear hul
  clear hP4 hP hbad4 hrd hB hp hb3 hfit hrem hN1
  obtain ⟨er, her⟩ : ∃ er : Nat, er = (if t' = [] then 0 else 3) := ⟨_, rfl⟩
  rw [← her]
  have hor : (p = q ∧ er = 0) ∨ (p < q ∧ er = 3) := by
    by_cases h0 : t' = []
    · left
      rw [if_pos h0] at her
      rw [h0] at hpq
      exact ⟨by simpa using hpq, her⟩
    · right
      rw [if_neg h0] at her
      have : 0 < t'.length := List.length_pos_iff.2 h0
      exact ⟨by omega, her⟩
  clear her
  go_upto_region 7 with (fail)
  go_cut [56] (fun x wc => w4 = wc ∧ x = .bool false)
  case first =>
    rcases hor with ⟨rfl, rfl⟩ | ⟨hpq2, rfl⟩
    · have f1 : decide (K < k) = false := decide_eq_false (by omega)
      go_wp2
      all_goals
        go_meet
        case rel => exact ⟨rfl, rfl⟩
    · have f1 : decide (K < k) = false := decide_eq_false (by omega)
      have f2 : ((p : Int) == (q : Int)) = false := beq_false_of_ne (by omega)
      have f3 : decide (q < p) = false := decide_eq_false (by omega)
      go_wp2
      all_goals
        go_meet
        case rel => exact ⟨rfl, rfl⟩
  case rest =>
    obtain ⟨rfl, rfl⟩ := hcut
    clear hor
    have hY4 : Hid (∀ y ∈ ys, y.lies F w4) := Lib.hid (fun y hy => (HL2.out y hy).keep (k3.step k4))
    have hR4 : Hid (w4.ownsRow w1.heap.size 22 1 (.slice R K rc) K (ys.map Item.val)) := Lib.hid (own_keep HO2.out (k3.step k4) (fun _ _ h => h))
    have kk := ((k1.step k2).step k3).step k4
    clear HL2 HO2 HO3 k1 k2 k3 k4 hcapb hqc hNb hcut
    go_wp2
    go_loopw [59] (fun i wr => ∃ j : Nat, j ≤ k ∧ i = .int .i64 j ∧ Kept noBlock w4 wr) (fun i _ => k - (intOf i).toNat)
    case atStart => exact ⟨0, by omega, rfl, Kept.refl _ _⟩
    case round =>
      obtain ⟨j, hj, rfl, kr⟩ := hrel
      by_cases hlt : j < k
      · obtain ⟨x, hx⟩ : ∃ x, us[j]? = some x := ⟨_, List.getElem?_eq_getElem (by rw [HUL.out]; exact hlt)⟩
        obtain ⟨y, hy⟩ : ∃ y, ys[j]? = some y := ⟨_, List.getElem?_eq_getElem (by rw [← HK.out]; omega)⟩
        have hrow : x.row = y.row := by
          have e1 : (rowsOf us)[j]? = some x.row := by simp [rowsOf, hx]
          rw [HE.out, List.getElem?_take, if_pos hlt] at e1
          have e2 : (rowsOf ys)[j]? = some y.row := by simp [rowsOf, hy]
          rw [e2] at e1
          injection e1 with e1
          exact e1.symm
        obtain ⟨g4, cap4, hv4, _, _⟩ := HO4.out.form (by omega)
        obtain ⟨g, cap, hv, _, _⟩ := hR4.out.form (by omega)
        obtain ⟨rfl, rfl⟩ : R4 = some ⟨g4, 0, none⟩ ∧ rc4 = cap4 := by injection hv4 with a b c; exact ⟨a, c⟩
        obtain ⟨rfl, rfl⟩ : R = some ⟨g, 0, none⟩ ∧ rc = cap := by injection hv with a b c; exact ⟨a, c⟩
        have kd := kr.step (Kept.drew noBlock wr)
        have c1 := item_cell ((Lies.of_own (F := fun _ => True) HO4.out (fun _ _ => trivial)).keep kd (fun _ _ h => h)) hx
        have c2 := item_cell ((Lies.of_own (F := fun _ => True) hR4.out (fun _ _ => trivial)).keep kd (fun _ _ h => h)) hy
        have v1 := run_str ((Lies.of_own (F := fun _ => True) (HT4.out x (List.mem_of_getElem? hx)) (fun _ _ => trivial)).keep kd (fun _ _ h => h)) rfl
        have v2 := run_str (((hY4.out y (List.mem_of_getElem? hy)).keep kd).cells) rfl
        rw [hrow] at c1 v1
        rw [Nat.zero_add] at c1 c2
        obtain ⟨L, hL⟩ : ∃ L, L = y.row.length := ⟨_, rfl⟩
        obtain ⟨S, hS⟩ : ∃ S, S = str y.row := ⟨_, rfl⟩
        obtain ⟨xA, hxA⟩ : ∃ xA, xA = x.A := ⟨_, rfl⟩
        obtain ⟨xc, hxc⟩ : ∃ xc, xc = x.c := ⟨_, rfl⟩
        obtain ⟨yA, hyA⟩ : ∃ yA, yA = y.A := ⟨_, rfl⟩
        obtain ⟨yc, hyc⟩ : ∃ yc, yc = y.c := ⟨_, rfl⟩
        rw [← hL, ← hxA, ← hxc] at c1
        rw [← hL, ← hyA, ← hyc] at c2
        rw [← hL, ← hxA, ← hS] at v1
        rw [← hL, ← hyA, ← hS] at v2
        clear hL hS hxA hxc hyA hyc hrow hx hy hv hv4
        have hji : (j : Int) < k := by omega
        have hji2 : j < k := hlt
        have hjK : (j : Int) < K := by omega
        have hjK2 : j < K := by omega
        go_wp2_with fail
        refine wp_region_noPanic ?_
        refine wp_region_held_drew (S := fun w' => w'.cell? ⟨g4, j, none⟩ = some (.slice xA L xc) ∧ w'.cell? ⟨g, j, none⟩ = some (.slice yA L yc) ∧ (∀ c, (convert 22 9 (.slice xA L c)).run Try.prog w' = .ok (.string S) w') ∧ (∀ c, (convert 22 9 (.slice yA L c)).run Try.prog w' = .ok (.string S) w')) (by kernel_rfl) ⟨c1, c2, v1, v2⟩ (fun hHeld => ?_)
        refine wpAnyH_take (i := 0) (oi := ⟨some 62, Op.move (Operand.tmp 7), 32, _, _, none⟩) (v := ?v0n1k1) rfl (by kernel_rfl) (by kernel_rfl) (by kernel_rfl) (fun _ _ _ h => h) (Or.inl ⟨by rfl, ?y0n1k1⟩) hHeld ?z0n1k1
        case y0n1k1 => intro w hSw; (try dsimp only at hSw); go_simp <;> rfl
        try simp only [Act.put, List.setIfInBounds_toArray, List.set_cons_zero, List.set_cons_succ]
        refine wpAnyH_take (i := 1) (oi := ⟨some 63, Op.move (Operand.tmp 10), 3, _, _, none⟩) (v := ?v1n1k2) rfl (by kernel_rfl) (by kernel_rfl) (by kernel_rfl) (fun _ _ _ h => h) (Or.inl ⟨by rfl, ?y1n1k2⟩) hHeld ?z1n1k2
        case y1n1k2 => intro w hSw; (try dsimp only at hSw); go_simp <;> rfl
        try simp only [Act.put, List.setIfInBounds_toArray, List.set_cons_zero, List.set_cons_succ]
        refine wpAnyH_take (i := 2) (oi := ⟨some 64, Op.indexAddr 32 (Operand.tmp 62) (Operand.tmp 63), 0, _, _, none⟩) (v := ?v2n1k3) rfl (by kernel_rfl) (by kernel_rfl) (by kernel_rfl) (fun _ _ _ h => h) (Or.inl ⟨by rfl, ?y2n1k3⟩) hHeld ?z2n1k3
        case y2n1k3 => intro w hSw; (try dsimp only at hSw); go_simp <;> rfl
        try simp only [Act.put, List.setIfInBounds_toArray, List.set_cons_zero, List.set_cons_succ]
        refine wpAnyH_take (i := 3) (oi := ⟨some 65, Op.load 22 (Operand.tmp 64), 22, _, _, none⟩) (v := ?v3n1k4) rfl (by kernel_rfl) (by kernel_rfl) (by kernel_rfl) (fun _ _ _ h => h) (Or.inl ⟨by rfl, ?y3n1k4⟩) hHeld ?z3n1k4
        case y3n1k4 => intro w hSw; (try dsimp only at hSw); go_simp <;> rfl
        try simp only [Act.put, List.setIfInBounds_toArray, List.set_cons_zero, List.set_cons_succ]
        refine wpAnyH_take (i := 4) (oi := ⟨some 66, Op.convert 22 9 (Operand.tmp 65), 9, _, _, none⟩) (v := ?v4n1k5) rfl (by kernel_rfl) (by kernel_rfl) (by kernel_rfl) (fun _ _ _ h => h) (Or.inl ⟨by rfl, ?y4n1k5⟩) hHeld ?z4n1k5
        case y4n1k5 => intro w hSw; (try dsimp only at hSw); go_simp <;> rfl
        try simp only [Act.put, List.setIfInBounds_toArray, List.set_cons_zero, List.set_cons_succ]
        refine wpAnyH_take (i := 5) (oi := ⟨some 67, Op.move (Operand.tmp 0), 32, _, _, none⟩) (v := ?v5n1k6) rfl (by kernel_rfl) (by kernel_rfl) (by kernel_rfl) (fun _ _ _ h => h) (Or.inl ⟨by rfl, ?y5n1k6⟩) hHeld ?z5n1k6
        case y5n1k6 => intro w hSw; (try dsimp only at hSw); go_simp <;> rfl
        try simp only [Act.put, List.setIfInBounds_toArray, List.set_cons_zero, List.set_cons_succ]
        refine wpAnyH_take (i := 6) (oi := ⟨some 68, Op.move (Operand.tmp 10), 3, _, _, none⟩) (v := ?v6n1k7) rfl (by kernel_rfl) (by kernel_rfl) (by kernel_rfl) (fun _ _ _ h => h) (Or.inl ⟨by rfl, ?y6n1k7⟩) hHeld ?z6n1k7
        case y6n1k7 => intro w hSw; (try dsimp only at hSw); go_simp <;> rfl
        try simp only [Act.put, List.setIfInBounds_toArray, List.set_cons_zero, List.set_cons_succ]
        refine wpAnyH_take (i := 7) (oi := ⟨some 69, Op.indexAddr 32 (Operand.tmp 67) (Operand.tmp 68), 0, _, _, none⟩) (v := ?v7n1k8) rfl (by kernel_rfl) (by kernel_rfl) (by kernel_rfl) (fun _ _ _ h => h) (Or.inl ⟨by rfl, ?y7n1k8⟩) hHeld ?z7n1k8
        case y7n1k8 => intro w hSw; (try dsimp only at hSw); go_simp <;> rfl
        try simp only [Act.put, List.setIfInBounds_toArray, List.set_cons_zero, List.set_cons_succ]
        refine wpAnyH_take (i := 8) (oi := ⟨some 70, Op.load 22 (Operand.tmp 69), 22, _, _, none⟩) (v := ?v8n1k9) rfl (by kernel_rfl) (by kernel_rfl) (by kernel_rfl) (fun _ _ _ h => h) (Or.inl ⟨by rfl, ?y8n1k9⟩) hHeld ?z8n1k9
        case y8n1k9 => intro w hSw; (try dsimp only at hSw); go_simp <;> rfl
        try simp only [Act.put, List.setIfInBounds_toArray, List.set_cons_zero, List.set_cons_succ]
        refine wpAnyH_take (i := 9) (oi := ⟨some 71, Op.convert 22 9 (Operand.tmp 70), 9, _, _, none⟩) (v := ?v9n1k10) rfl (by kernel_rfl) (by kernel_rfl) (by kernel_rfl) (fun _ _ _ h => h) (Or.inl ⟨by rfl, ?y9n1k10⟩) hHeld ?z9n1k10
        case y9n1k10 => intro w hSw; (try dsimp only at hSw); go_simp <;> rfl
        try simp only [Act.put, List.setIfInBounds_toArray, List.set_cons_zero, List.set_cons_succ]
        refine wpAnyH_take (i := 10) (oi := ⟨some 72, Op.binOp BinOp.neq 9 (Operand.tmp 66) (Operand.tmp 71) 9, 4, _, _, none⟩) (v := ?v10n1k11) rfl (by kernel_rfl) (by kernel_rfl) (by kernel_rfl) (fun _ _ _ h => h) (Or.inl ⟨by rfl, ?y10n1k11⟩) hHeld ?z10n1k11
        case y10n1k11 => intro w hSw; (try dsimp only at hSw); go_simp <;> rfl
        try simp only [Act.put, List.setIfInBounds_toArray, List.set_cons_zero, List.set_cons_succ]
        refine wpAnyH_done (by kernel_rfl) ?_ _
        refine NoPanic.normal ?_
        go_wp2
        go_roundw
        case rel => exact ⟨j + 1, by omega, by go_num, kd⟩
        case measure => simp [intOf]; omega
      · have hjk : k = j := by omega
        subst hjk
        by_cases hkK : k = K
        · subst hkK
          go_wp2
          go_ret
          exact ⟨rfl, kk.step kr⟩
        · obtain ⟨y, hy⟩ : ∃ y, ys[k]? = some y := ⟨_, List.getElem?_eq_getElem (by rw [← HK.out]; omega)⟩
          obtain ⟨r, hr, htl⟩ := HNX.out (by omega)
          have hyr : r = y.row := by
            have e2 : (rowsOf ys)[k]? = some y.row := by simp [rowsOf, hy]
            rw [e2] at hr
            injection hr with hr
            exact hr.symm
          obtain ⟨g, cap, hv, _, _⟩ := hR4.out.form (by omega)
          obtain ⟨rfl, rfl⟩ : R = some ⟨g, 0, none⟩ ∧ rc = cap := by injection hv with a b c; exact ⟨a, c⟩
          have c2 := item_cell ((Lies.of_own (F := fun _ => True) hR4.out (fun _ _ => trivial)).keep kr (fun _ _ h => h)) hy
          rw [Nat.zero_add] at c2
          have hy3 := HY3.out y (List.mem_of_getElem? hy)
          rw [hyr] at htl
          obtain ⟨L, hL⟩ : ∃ L, L = y.row.length := ⟨_, rfl⟩
          obtain ⟨yA, hyA⟩ : ∃ yA, yA = y.A := ⟨_, rfl⟩
          obtain ⟨yc, hyc⟩ : ∃ yc, yc = y.c := ⟨_, rfl⟩
          rw [← hL, ← hyA, ← hyc] at c2
          rw [← hL] at htl hy3
          clear hL hyA hyc hyr hr hy hv
          have hki : (k : Int) < K := by omega
          have hki2 : k < K := by omega
          have hne : ((k : Int) == (K : Int)) = false := beq_false_of_ne (by omega)
          have hpq2 : q < p + L + 9 := by omega
          have hqb : q ≤ 9270 := by
            have := joined_le (rowsOf ys) (fun r hr => by obtain ⟨y, hy, rfl⟩ := List.mem_map.1 hr; exact HY3.out y hy)
            rw [rowsOf_length, ← HK.out, ← HN.out] at this
            omega
          have hpb : p ≤ q := by omega
          have fin : decide ((q : Int) < (p : Int) + (L : Int) + 9) = true := decide_eq_true (by omega)
          clear hpq htl
          go_wp2
          go_ret
          exact ⟨by simp, kk.step kr⟩

end Go.Proofs.Ythankjgebaanpaa
