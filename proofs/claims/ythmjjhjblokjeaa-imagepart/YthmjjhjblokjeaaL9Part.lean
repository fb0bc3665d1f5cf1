/-
  ImagePart: what it does with whatever says, index and cut. No statement is proved here.
-/
import Derived.Test.YthmjjhjblokjeaaL9Awake
import Derived.Test.YthmjjhjblokjeaaSayK
namespace Go.Proofs.Ythmjjhjblokjeaa
open Go.RowKit Tot

theorem right_fit16 {es : List EntryV} {i t : Int} (h : rowB es i t = true) : ∀ e ∈ es, e.bytes.length ≤ 16384 := fun e he => by have := right_short (rowB_right h e he); omega
theorem entsB_short {es : List EntryV} (h : ∀ e ∈ es, e.Right) : (entsB es).length ≤ es.length * 106 := by
  induction es with
  | nil => simp [entsB]
  | cons e r ih =>
    have h1 := ih (fun x hx => h x (by simp [hx]))
    have h2 := right_short (h e (by simp))
    rw [entsB_cons, List.length_append, entB_length, List.length_cons]
    omega
/-- What is cut off of frames begins with none. -/
theorem cut_rest : ∀ (es : List EntryV) (q : Nat), (∀ e ∈ es, e.Right) → q ≤ (entsB es).length → ∃ k t, k ≤ es.length ∧ (entsB es).take q = entsB (es.take k) ++ t ∧ (rd t).2.2 ≠ 0
  | [], q, _, h => by
    rw [entsB_nil] at h ⊢
    exact ⟨0, [], Nat.le_refl _, by simp [entsB], by rw [rd_nil]; decide⟩
  | e :: r, q, hr, h => by
    rw [entsB_cons] at h ⊢
    by_cases hq : q < (entB e).length
    · refine ⟨0, (entB e).take q, Nat.zero_le _, ?_, ?_⟩
      · rw [List.take_append_of_le_length (by omega)]
        simp [entsB]
      · unfold entB at hq ⊢
        rw [frm_length] at hq
        rw [rd_cut _ (by have := right_short (hr e (by simp)); omega) q (by omega)]
        decide
    · obtain ⟨p, rfl⟩ : ∃ p, q = (entB e).length + p := ⟨q - (entB e).length, by omega⟩
      rw [List.length_append] at h
      obtain ⟨k, t, hk, h1, h2⟩ := cut_rest r p (fun x hx => hr x (by simp [hx])) (by omega)
      refine ⟨k + 1, t, by rw [List.length_cons]; omega, ?_, h2⟩
      rw [List.take_length_add_append, h1, List.take_succ_cons, entsB_cons, List.append_assoc]
theorem rowB_take {es : List EntryV} {i t : Int} (h : rowB es i t = true) (k : Nat) : rowB (es.take k) i t = true := by
  induction es generalizing i t k with
  | nil => simp [rowB_nil]
  | cons x r ih =>
    cases k with
    | zero => rfl
    | succ k =>
      rw [rowB_cons, Bool.and_eq_true] at h
      rw [List.take_succ_cons, rowB_cons, h.1, ih h.2 k]
      rfl
/-- A file of entries that is cut. -/
theorem part_cut {es : List EntryV} {f : Int} (h : rowB es (f + 1) 0 = true) (n : Nat) (hn : n ≤ (fileB f es).length) (h26 : 26 ≤ n) : ∃ k, k ≤ es.length ∧ PartOk ((fileB f es).take n) f (es.take k) ∧ (fileB f (es.take k)).length ≤ n ∧ (k < es.length → n < (fileB f (es.take (k + 1))).length) := by
  obtain ⟨q, rfl⟩ : ∃ q, n = 26 + q := ⟨n - 26, by omega⟩
  rw [fileB_length] at hn
  obtain ⟨k, t, hk, h1, h2⟩ := cut_rest es q (rowB_right h) (by omega)
  have e : (fileB f es).take (26 + q) = fileB f (es.take k) ++ t := by
    unfold fileB
    rw [← partB_length f, List.take_length_add_append, h1, List.append_assoc]
  have hl : (entsB (es.take k)).length + t.length = q := by
    have := congrArg List.length h1
    rw [List.length_append, List.length_take, Nat.min_eq_left (by omega)] at this
    omega
  refine ⟨k, hk, ⟨rowB_take h k, t, e, h2⟩, by rw [fileB_length]; omega, fun hlt => ?_⟩
  -- else the next frame would be there
  refine Nat.lt_of_not_le fun hle => ?_
  obtain ⟨x, hx⟩ : ∃ x, es[k]? = some x := ⟨_, List.getElem?_eq_getElem hlt⟩
  have es1 : es.take (k + 1) = es.take k ++ [x] := take_snoc es k x hx
  rw [es1, fileB_length, entsB_append, List.length_append] at hle
  have e1 : entsB [x] = entB x := by simp [entsB]
  rw [e1] at hle
  have hd : es.drop k = x :: es.drop (k + 1) := by
    obtain ⟨hk', e⟩ := List.getElem?_eq_some_iff.1 hx
    rw [List.drop_eq_getElem_cons hk', e]
  have e2 : entsB es = entsB (es.take k) ++ (entB x ++ entsB (es.drop (k + 1))) := by
    conv => lhs; rw [← List.take_append_drop k es, hd]
    rw [entsB_append, entsB_cons]
  rw [e2] at h1
  obtain ⟨p, rfl⟩ : ∃ p, q = (entsB (es.take k)).length + p := ⟨q - (entsB (es.take k)).length, by omega⟩
  rw [List.take_length_add_append] at h1
  have h3 := List.append_cancel_left h1
  obtain ⟨z, rfl⟩ : ∃ z, p = (entB x).length + z := ⟨p - (entB x).length, by omega⟩
  rw [List.take_length_add_append] at h3
  rw [← h3] at h2
  unfold entB at h2
  rw [rd_frm _ _ (by have := right_short (rowB_right h x (List.mem_of_getElem? hx)); omega)] at h2
  exact h2 rfl
theorem fileB_take_is (f : Int) (es : List EntryV) (k : Nat) : (fileB f es).take (fileB f (es.take k)).length = fileB f (es.take k) := by
  have e : fileB f es = fileB f (es.take k) ++ entsB (es.drop k) := by
    unfold fileB
    rw [List.append_assoc, ← entsB_append, List.take_append_drop]
  conv => lhs; rw [e]
  exact List.take_left' rfl
/-- With another index it is none's. -/
theorem part_other {es : List EntryV} {f g : Int} (hf : -9223372036854775808 ≤ f ∧ f ≤ 9223372036854775807) (hg : -9223372036854775808 ≤ g ∧ g ≤ 9223372036854775807) (hne : f ≠ g) : ∀ xs, ¬ PartOk (fileB f es) g xs := by
  refine part_bad_head (fun h => hne ?_)
  have h1 : (fileB f es).take 26 = partB f := by unfold fileB; rw [← partB_length f]; exact List.take_left' rfl
  rw [h1] at h
  have h2 : headIn 2 f f = headIn 2 g g := frm_inj (headIn_le _ _ _) (headIn_le _ _ _) h
  unfold headIn at h2
  have h3 := (List.append_inj h2 (by simp [be8_length])).2
  have a := rNum_be8 f [] hf.1 hf.2
  have b := rNum_be8 g [] hg.1 hg.2
  rw [h3] at a
  rw [a] at b
  exact congrArg Prod.fst b

set_option maxRecDepth 100000 in
set_option maxHeartbeats 4000000 in
theorem ipart_walk (F : Nat → Prop) (a : Option Addr) (n c : Nat) (ss : List SayV) (f cu : Nat) (w : World) (hf : f < 65536) (hcu : cu < 65536) (h : Lies w F a (sayCells ss)) (hl : ss.length = n) (hnc : n ≤ c) :
    Calls Try.prog 4 #[.slice a n c, .int .u16 (f : Int), .int .u16 (cu : Int)] w fun e w' => e = .returned (.bool true) ∧ Kept noBlock w w' := by
  have AW := Lib.hid (awake9_any w)
  obtain ⟨es, hes⟩ : ∃ es, es = entsOf (ss.take 80) ((f : Int) + 1) 1 := ⟨_, rfl⟩
  have EN := Lib.hid (fun u (k : Kept noBlock w u) => ents_any F a n c ((f : Int) + 1) 1 ss es u (h.keep k (fun _ _ h => h)) hl hnc hes (by omega) (by omega) (by omega) (by omega))
  have hel : es.length ≤ 80 := by rw [hes, entsOf_length, List.length_take]; omega
  have hrow : rowB es ((f : Int) + 1) 0 = true := by
    rw [hes]
    have h80 : (ss.take 80).length ≤ 80 := by rw [List.length_take]; omega
    exact rowB_ents _ _ _ _ (by omega) (by omega) (by omega) (by omega) (by omega)
  have hsh := entsB_short (rowB_right hrow)
  obtain ⟨m, hm⟩ : ∃ m, (fileB (f : Int) es).length = m := ⟨_, rfl⟩
  have hmb : 26 ≤ m ∧ m ≤ 8506 := by rw [← hm, fileB_length]; omega
  obtain ⟨hm26, hm85⟩ := hmb
  obtain ⟨en, hen⟩ : ∃ en, es.length = en := ⟨_, rfl⟩
  rw [hen] at hel EN
  have HROW := Lib.hid hrow
  have HM := Lib.hid hm
  have HEN := Lib.hid hen
  have LP := Lib.hid (fun u A ac (hA : Lies u (fun _ => True) A (entCells es)) => lpart_any (fun _ => True) A en ac (f : Int) es m u hA hen (right_fit16 hrow) hm (by omega) (by omega))
  have LH : Hid (∀ u, Calls Try.prog 13 #[.int .i64 2, .int .i64 (f : Int), .int .i64 (f : Int)] u fun e w' => e = .returned (.string (str (partB (f : Int)))) ∧ Kept noBlock u w') := fun u => lhead_any 2 (f : Int) (f : Int) u
  clear hes hrow hsh hm h hl hen
  go_enter Try.func4, Try.ntmps4
  go_wp2_with fail
  refine AW.out.mono ?_
  rintro e w1 ⟨rfl, k1⟩
  have K1 := Lib.hid k1
  clear AW k1
  go_wp2_with fail
  refine (EN.out w1 K1.out).mono ?_
  rintro e w2 ⟨A2, c2, rfl, o2, k2⟩
  have hc2 : en ≤ c2 := by obtain ⟨_, _, e, hle⟩ := own_form o2; injection e with _ _ e; omega
  have K2 := Lib.hid (K1.out.step k2)
  have LE2 := Lib.hid (Lies.of_rows (F := fun _ => True) o2 (fun _ _ => trivial))
  clear o2 k2 EN K1
  go_wp2_with fail
  refine (LP.out w2 A2 c2 LE2.out).mono ?_
  rintro e w3 ⟨P, cp, rfl, o3, k3⟩
  have hcp : m ≤ cp := by obtain ⟨_, _, e, hle⟩ := own_form o3; injection e with _ _ e; omega
  have K3 := Lib.hid (K2.out.step k3)
  have LE3 := Lib.hid (LE2.out.keep k3 (fun _ _ h => h))
  have LB3 := Lib.hid (Lies.of_own (F := fun _ => True) o3 (fun _ _ => trivial))
  clear o3 k3 LE2 K2
  go_wp2_with fail
  refine (LH.out w3).mono ?_
  obtain ⟨T0, hT0⟩ : ∃ T0, T0 = str (partB (f : Int)) := ⟨_, rfl⟩
  rw [← hT0]
  have HT0 := Lib.hid hT0
  clear hT0
  rintro e w4 ⟨rfl, k4⟩
  have K34 := Lib.hid k4
  clear k4 LH
  go_wp2_with fail
  go_loopw [9, 37] (fun s i wr => ∃ (k : Nat) (T : ByteArray), k ≤ en ∧ i = .int .i64 (k : Int) ∧ s = .string T ∧ Hid (T = str (fileB (f : Int) (es.take k))) ∧ Hid (Kept noBlock w3 wr)) (fun _ i _ => en - (intOf i).toNat)
  case atStart =>
    refine ⟨0, T0, by omega, rfl, rfl, ?_, K34⟩
    unfold Hid
    rw [HT0.out]
    unfold fileB
    simp [entsB]
  case round =>
    obtain ⟨k, T, hk, rfl, rfl, HT, HK⟩ := hrel
    by_cases hlt : k < en
    · obtain ⟨x, hx⟩ : ∃ x, es[k]? = some x := ⟨_, List.getElem?_eq_getElem (by have := HEN.out; omega)⟩
      obtain ⟨b, o, rfl, _, e⟩ := ents_cell (LE3.out.keep HK.out (fun _ _ h => h)) hx
      obtain ⟨c0, c1, c2', c3, c4, c5, c6, c7⟩ := e
      have hxr := rowB_right HROW.out x (List.mem_of_getElem? hx)
      have hxs := right_short hxr
      obtain ⟨z, hz⟩ : ∃ z, x.bytes.length = z := ⟨_, rfl⟩
      rw [hz] at hxs
      have EB := Lib.hid (fun u => bytes_any x z u hz (by omega))
      have FO := Lib.hid (fun u A ac (hA : Lies u (fun _ => True) A (x.bytes.map bv)) => form_any (fun _ => True) A z ac x.bytes u hA hz (by omega))
      obtain ⟨Fb, hFb⟩ : ∃ Fb, Fb = str (frm x.bytes) := ⟨_, rfl⟩
      have hFs : Fb.size ≤ 200 := by rw [hFb, str_size, frm_length]; omega
      have hTs : T.size ≤ 10000 := by
        rw [HT.out, str_size]
        have := fileB_take_le (f : Int) es k
        rw [HM.out] at this
        omega
      rw [← hFb] at FO
      have hsz : (9223372036854775807 < T.size + Fb.size) = False := eq_false (by omega)
      obtain ⟨T2, hT2⟩ : ∃ T2, T2 = T ++ Fb := ⟨_, rfl⟩
      have hcat : T ++ Fb = T2 := hT2.symm
      have HT2 : Hid (T2 = str (fileB (f : Int) (es.take (k + 1)))) := by
        unfold Hid
        rw [hT2, HT.out, hFb, str_append, take_snoc es k x hx, fileB_snoc]
        rfl
      unfold EntryV.val at EB
      clear hxr hxs hx hz hFb hT2 hFs hTs
      go_wp2_with fail
      refine (EB.out _).mono ?_
      rintro e u2 ⟨A5, d5, rfl, o5, k5⟩
      have K5 := Lib.hid (HK.out.step ((Kept.alloc noBlock wr _).step k5))
      have L5 := Lib.hid (Lies.of_own (F := fun _ => True) o5 (fun _ _ => trivial))
      clear o5 k5 EB c0 c1 c2' c3 c4 c5 c6 c7
      go_wp2_with fail
      refine (FO.out u2 A5 d5 L5.out).mono ?_
      rintro e u3 ⟨rfl, k6⟩
      have K6 := Lib.hid (K5.out.step k6)
      clear k6 FO L5
      go_wp2
      go_roundw
      case rel => exact ⟨k + 1, T2, by omega, by go_num, rfl, HT2, K6⟩
      case measure => simp [intOf]; omega
    · obtain rfl : en = k := by omega
      have he : es.take en = es := List.take_of_length_le (by rw [HEN.out]; exact Nat.le_refl _)
      rw [he] at HT
      clear he
      have KW := Lib.hid (K3.out.step HK.out)
      have LE4 := Lib.hid (LE3.out.keep HK.out (fun _ _ h => h))
      have LB4 := Lib.hid (LB3.out.keep HK.out (fun _ _ h => h))
      have hcv : (convert 30 9 (.slice P m cp)).run Try.prog wr = .ok (.string (str (fileB (f : Int) es))) wr := run_str9 LB4.out HM.out cp
      rw [← HT.out] at hcv
      obtain ⟨q, hq⟩ : ∃ q, q = cu % (m + 1) := ⟨_, rfl⟩
      have hqm : q ≤ m := by have := Nat.mod_lt cu (y := m + 1) (by omega); omega
      have i1 : (cu : Int) % ((m : Int) + 1) = (q : Int) := by
        have e : (m : Int) + 1 = ((m + 1 : Nat) : Int) := by omega
        rw [hq, e]
        omega
      have i2 : (q : Int) ≤ cp := by omega
      have RP := Lib.hid (rpart_any (fun _ => True) P q cp f ((fileB (f : Int) es).take q) wr (by rw [List.map_take]; exact LB4.out.take q) (by rw [List.length_take, HM.out]; omega) (by omega) (by omega) (by omega))
      clear hq LE3 LB3 K3 K34 HT0
      go_wp2_with fail
      refine RP.out.mono ?_
      rintro e u1 ⟨xs, pk, er, A5, c5, rfl, hps, o5, k5⟩
      have hc5 : xs.length ≤ c5 := by obtain ⟨_, _, e, hle⟩ := own_form o5; injection e with _ _ e; omega
      have LX := Lib.hid (Lies.of_rows (F := fun _ => True) o5 (fun _ _ => trivial))
      have K5 := Lib.hid (KW.out.step k5)
      have LE5 := Lib.hid (LE4.out.keep k5 (fun _ _ h => h))
      have LB5 := Lib.hid (LB4.out.keep k5 (fun _ _ h => h))
      clear RP hcv o5 k5 LE4 LB4 KW HK HT
      by_cases h26 : q < 26
      · have hbad : ∀ ys, ¬ PartOk ((fileB (f : Int) es).take q) (f : Int) ys := fun ys hy => by
          have h1 := congrArg List.length hy.parted.1
          rw [List.length_take, List.length_take, partB_length, HM.out] at h1
          omega
        rcases hps with ⟨_, _, hp⟩ | ⟨rfl, rfl, rfl, _⟩
        · exact absurd hp (hbad _)
        · have h26i : (q : Int) < 26 := by omega
          clear hbad LP LX
          go_wp2
          go_ret
          exact ⟨rfl, K5.out⟩
      · obtain ⟨kk, hkk, hpo, hle, hlt2⟩ := part_cut HROW.out q (by rw [HM.out]; exact hqm) (by omega)
        rcases hps with ⟨rfl, hpk, hp⟩ | ⟨_, _, _, hno⟩
        · have hxe := hp.unique hpo
          have hxr := rowB_take HROW.out kk
          rw [← hxe] at hxr hle
          have hxl : xs.length = kk := by rw [hxe, List.length_take]; omega
          have hpt : (fileB (f : Int) es).take pk = fileB (f : Int) xs := by rw [hpk, hxe]; exact fileB_take_is _ _ _
          rw [← hpk] at hle
          obtain ⟨xn, hxn⟩ : ∃ xn, xn = xs.length := ⟨_, rfl⟩
          rw [← hxn] at hc5 ⊢
          have hxn80 : xn ≤ en := by rw [hxn, hxl, ← HEN.out]; exact hkk
          have LP2 := Lib.hid (fun u A ac (hA : Lies u (fun _ => True) A (entCells xs)) => lpart_any (fun _ => True) A xn ac (f : Int) xs pk u hA hxn.symm (right_fit16 hxr) hpk.symm (by omega) (by omega))
          have CX2 : Hid (∀ u, Kept noBlock u1 u → (convert 30 9 (.slice P pk cp)).run Try.prog u = .ok (.string (str (fileB (f : Int) xs))) u) := fun u ku => by
            have h := run_str9 (n := pk) (l := (fileB (f : Int) es).take pk) (by rw [List.map_take]; exact (LB5.out.keep ku (fun _ _ h => h)).take pk) (by rw [List.length_take, HM.out]; omega) cp
            rw [hpt] at h
            exact h
          have CR : Hid (∀ u A c, Lies u (fun _ => True) A ((fileB (f : Int) xs).map bv) → (convert 30 9 (.slice A pk c)).run Try.prog u = .ok (.string (str (fileB (f : Int) xs))) u) := fun u A c h => run_str9 h hpk.symm c
          obtain ⟨T2, hT2⟩ : ∃ T2, T2 = str (fileB (f : Int) xs) := ⟨_, rfl⟩
          rw [← hT2] at CX2 CR
          have HLT2 : Hid (xn < en → ∀ u A ac, Lies u (fun _ => True) A (entCells es) → en ≤ ac → ∃ m3, q < m3 ∧ Calls Try.prog 17 #[.slice A (xn + 1) ac, .int .i64 (f : Int)] u fun e w' => ∃ A' ac', e = .returned (.slice A' m3 ac') ∧ Kept noBlock u w') := fun hx u A ac hA hac => by
            have hx1 : xn + 1 ≤ en := hx
            have hlen : (es.take (xn + 1)).length = xn + 1 := by rw [List.length_take, HEN.out]; omega
            have hr1 := rowB_take HROW.out (xn + 1)
            have hs1 := entsB_short (rowB_right hr1)
            have h3 := hlt2 (by rw [HEN.out, ← hxl, ← hxn]; exact hx)
            rw [← hxl, ← hxn] at h3
            refine ⟨_, h3, ?_⟩
            refine (lpart_any (fun _ => True) A (xn + 1) ac (f : Int) (es.take (xn + 1)) _ u (by rw [entCells_take]; exact hA.take _) hlen (right_fit16 hr1) rfl (by rw [fileB_length]; omega) (by omega)).mono ?_
            rintro e w' ⟨A', ac', rfl, _, k'⟩
            exact ⟨A', ac', rfl, k'⟩
          have hpi : (pk : Int) ≤ m := by omega
          have hpi2 : (pk : Int) ≤ cp := by omega
          have hpi3 : ¬ (q : Int) < pk := by omega
          have hxi : decide ((en : Int) < (xn : Int)) = false := decide_eq_false (by omega)
          have hpi4 : decide ((q : Int) < (pk : Int)) = false := decide_eq_false (by omega)
          have hxi5 : decide (en < xn) = false := decide_eq_false (by omega)
          have hpi5 : decide (q < pk) = false := decide_eq_false (by omega)
          have h26i : ¬ (q : Int) < 26 := by omega
          have HW1 : Hid (IntKind.i64.wrap (f : Int) = (f : Int)) := IntWalk.i64_in _ (by omega)
          obtain ⟨f1, hf1⟩ : ∃ f1, f1 = f + 1 := ⟨_, rfl⟩
          have RP2 := Lib.hid (fun u (ku : Kept noBlock u1 u) => rpart_any (fun _ => True) P m cp f1 (fileB (f : Int) es) u (LB5.out.keep ku (fun _ _ h => h)) HM.out (by omega) hcp (by omega))
          have HOTH : Hid (∀ ys, ¬ PartOk (fileB (f : Int) es) ((f1 : Nat) : Int) ys) := part_other (by omega) (by omega) (by omega)
          have HF1 := Lib.hid hf1
          clear hp hpo hle hlt2 hxe hxr hxl hpt hpk hT2 LP hf1 hkk h26 hxn
          go_upto_region 17 with (fail)
          refine wp_region_noPanic ?_
          refine wp_region_held_drew (S := fun u => (convert 30 9 (.slice P pk cp)).run Try.prog u = .ok (.string T2) u) (by kernel_rfl) (CX2.out _ (Kept.drew _ _)) (fun hHeld => ?_)
          refine wpAnyH_take (i := 0) (oi := ⟨some 80, Op.move (Operand.tmp 15), 31, _, _, none⟩) (v := ?v0n1k1) rfl (by kernel_rfl) (by kernel_rfl) (by kernel_rfl) (fun _ _ _ h => h) (Or.inl ⟨by rfl, ?y0n1k1⟩) hHeld ?z0n1k1
          case y0n1k1 => intro w hSw; (try dsimp only at hSw); go_simp <;> rfl
          try simp only [Act.put, List.setIfInBounds_toArray, List.set_cons_zero, List.set_cons_succ]
          refine wpAnyH_take (i := 1) (oi := ⟨some 81, Op.binOp BinOp.neq 31 (Operand.tmp 80) (Operand.const (Value.int IntKind.i64 0)) 31, 4, _, _, none⟩) (v := ?v1n1k2) rfl (by kernel_rfl) (by kernel_rfl) (by kernel_rfl) (fun _ _ _ h => h) (Or.inl ⟨by rfl, ?y1n1k2⟩) hHeld ?z1n1k2
          case y1n1k2 => intro w hSw; (try dsimp only at hSw); go_simp <;> rfl
          try simp only [Act.put, List.setIfInBounds_toArray, List.set_cons_zero, List.set_cons_succ]
          refine wpAnyH_take (i := 2) (oi := ⟨some 82, Op.move (Operand.tmp 81), 4, _, _, none⟩) (v := ?v2n1k3) rfl (by kernel_rfl) (by kernel_rfl) (by kernel_rfl) (fun _ _ _ h => h) (Or.inl ⟨by rfl, ?y2n1k3⟩) hHeld ?z2n1k3
          case y2n1k3 => intro w hSw; (try dsimp only at hSw); go_simp <;> rfl
          try simp only [Act.put, List.setIfInBounds_toArray, List.set_cons_zero, List.set_cons_succ]
          refine wpAnyH_take (i := 3) (oi := ⟨some 83, Op.move (Operand.tmp 13), 41, _, _, some (2, false)⟩) (v := ?v3n1k4) rfl (by kernel_rfl) (by kernel_rfl) (by kernel_rfl) (fun _ _ _ h => h) (Or.inl ⟨by rfl, ?y3n1k4⟩) hHeld ?z3n1k4
          case y3n1k4 => intro w hSw; (try dsimp only at hSw); go_simp <;> rfl
          try simp only [Act.put, List.setIfInBounds_toArray, List.set_cons_zero, List.set_cons_succ]
          refine wpAnyH_take (i := 4) (oi := ⟨some 84, Op.call { callee := Callee.builtin Builtin.len, args := #[Operand.tmp 83], argTypes := #[41] }, 3, _, _, some (2, false)⟩) (v := ?v4n1k5) rfl (by kernel_rfl) (by kernel_rfl) (by kernel_rfl) (fun _ _ _ h => h) (Or.inl ⟨by rfl, ?y4n1k5⟩) hHeld ?z4n1k5
          case y4n1k5 => intro w hSw; (try dsimp only at hSw); go_simp <;> rfl
          try simp only [Act.put, List.setIfInBounds_toArray, List.set_cons_zero, List.set_cons_succ]
          refine wpAnyH_take (i := 5) (oi := ⟨some 85, Op.move (Operand.tmp 7), 41, _, _, some (2, false)⟩) (v := ?v5n1k6) rfl (by kernel_rfl) (by kernel_rfl) (by kernel_rfl) (fun _ _ _ h => h) (Or.inl ⟨by rfl, ?y5n1k6⟩) hHeld ?z5n1k6
          case y5n1k6 => intro w hSw; (try dsimp only at hSw); go_simp <;> rfl
          try simp only [Act.put, List.setIfInBounds_toArray, List.set_cons_zero, List.set_cons_succ]
          refine wpAnyH_take (i := 6) (oi := ⟨some 86, Op.call { callee := Callee.builtin Builtin.len, args := #[Operand.tmp 85], argTypes := #[41] }, 3, _, _, some (2, false)⟩) (v := ?v6n1k7) rfl (by kernel_rfl) (by kernel_rfl) (by kernel_rfl) (fun _ _ _ h => h) (Or.inl ⟨by rfl, ?y6n1k7⟩) hHeld ?z6n1k7
          case y6n1k7 => intro w hSw; (try dsimp only at hSw); go_simp <;> rfl
          try simp only [Act.put, List.setIfInBounds_toArray, List.set_cons_zero, List.set_cons_succ]
          refine wpAnyH_take (i := 7) (oi := ⟨some 87, Op.binOp BinOp.gtr 3 (Operand.tmp 84) (Operand.tmp 86) 3, 4, _, _, some (2, false)⟩) (v := ?v7n1k8) rfl (by kernel_rfl) (by kernel_rfl) (by kernel_rfl) (fun _ _ _ h => h) (Or.inl ⟨by rfl, ?y7n1k8⟩) hHeld ?z7n1k8
          case y7n1k8 => intro w hSw; (try dsimp only at hSw); go_simp <;> rfl
          try simp only [Act.put, List.setIfInBounds_toArray, List.set_cons_zero, List.set_cons_succ]
          refine wpAnyH_take (i := 8) (oi := ⟨some 88, Op.pick (Operand.tmp 82) (Operand.const (Value.bool true)) (Operand.tmp 87), 4, _, _, none⟩) (v := ?v8n1k9) rfl (by kernel_rfl) (by kernel_rfl) (by kernel_rfl) (fun _ _ _ h => h) (Or.inl ⟨by rfl, ?y8n1k9⟩) hHeld ?z8n1k9
          case y8n1k9 => intro w hSw; (try dsimp only at hSw); go_simp <;> rfl
          try simp only [Act.put, List.setIfInBounds_toArray, List.set_cons_zero, List.set_cons_succ]
          refine wpAnyH_take (i := 9) (oi := ⟨some 89, Op.move (Operand.tmp 88), 4, _, _, none⟩) (v := ?v9n1k10) rfl (by kernel_rfl) (by kernel_rfl) (by kernel_rfl) (fun _ _ _ h => h) (Or.inl ⟨by rfl, ?y9n1k10⟩) hHeld ?z9n1k10
          case y9n1k10 => intro w hSw; (try dsimp only at hSw); go_simp <;> rfl
          try simp only [Act.put, List.setIfInBounds_toArray, List.set_cons_zero, List.set_cons_succ]
          refine wpAnyH_take (i := 10) (oi := ⟨some 90, Op.move (Operand.tmp 13), 41, _, _, some (9, false)⟩) (v := ?v10n1k11) rfl (by kernel_rfl) (by kernel_rfl) (by kernel_rfl) (fun _ _ _ h => h) (Or.inl ⟨by rfl, ?y10n1k11⟩) hHeld ?z10n1k11
          case y10n1k11 => intro w hSw; (try dsimp only at hSw); go_simp <;> rfl
          try simp only [Act.put, List.setIfInBounds_toArray, List.set_cons_zero, List.set_cons_succ]
          refine wpAnyH_take (i := 11) (oi := ⟨some 91, Op.move (Operand.tmp 1), 23, _, _, some (9, false)⟩) (v := ?v11n1k12) rfl (by kernel_rfl) (by kernel_rfl) (by kernel_rfl) (fun _ _ _ h => h) (Or.inl ⟨by rfl, ?y11n1k12⟩) hHeld ?z11n1k12
          case y11n1k12 => intro w hSw; (try dsimp only at hSw); go_simp <;> rfl
          try simp only [Act.put, List.setIfInBounds_toArray, List.set_cons_zero, List.set_cons_succ]
          refine wpAnyH_take (i := 12) (oi := ⟨some 92, Op.convert 23 3 (Operand.tmp 91), 3, _, _, some (9, false)⟩) (v := ?v12n1k13) rfl (by kernel_rfl) (by kernel_rfl) (by kernel_rfl) (fun _ _ _ h => h) (Or.inl ⟨by rfl, ?y12n1k13⟩) hHeld ?z12n1k13
          case y12n1k13 => intro w hSw; (try dsimp only at hSw); go_simp <;> rfl
          try simp only [Act.put, List.setIfInBounds_toArray, List.set_cons_zero, List.set_cons_succ]
          refine wpAnyH_take (i := 15) (oi := ⟨some 95, Op.move (Operand.tmp 8), 30, _, _, some (9, false)⟩) (v := ?v15n1k14) rfl (by kernel_rfl) (by kernel_rfl) (by kernel_rfl) (fun _ _ _ h => h) (Or.inl ⟨by rfl, ?y15n1k14⟩) hHeld ?z15n1k14
          case y15n1k14 => intro w hSw; (try dsimp only at hSw); go_simp <;> rfl
          try simp only [Act.put, List.setIfInBounds_toArray, List.set_cons_zero, List.set_cons_succ]
          refine wpAnyH_take (i := 16) (oi := ⟨some 96, Op.move (Operand.tmp 14), 3, _, _, some (9, false)⟩) (v := ?v16n1k15) rfl (by kernel_rfl) (by kernel_rfl) (by kernel_rfl) (fun _ _ _ h => h) (Or.inl ⟨by rfl, ?y16n1k15⟩) hHeld ?z16n1k15
          case y16n1k15 => intro w hSw; (try dsimp only at hSw); go_simp <;> rfl
          try simp only [Act.put, List.setIfInBounds_toArray, List.set_cons_zero, List.set_cons_succ]
          refine wpAnyH_take (i := 17) (oi := ⟨some 97, Op.slice 30 (Operand.tmp 95) none (some (Operand.tmp 96)) none, 30, _, _, some (9, false)⟩) (v := ?v17n1k16) rfl (by kernel_rfl) (by kernel_rfl) (by kernel_rfl) (fun _ _ _ h => h) (Or.inl ⟨by rfl, ?y17n1k16⟩) hHeld ?z17n1k16
          case y17n1k16 => intro w hSw; (try dsimp only at hSw); go_simp <;> rfl
          try simp only [Act.put, List.setIfInBounds_toArray, List.set_cons_zero, List.set_cons_succ]
          refine wpAnyH_take (i := 18) (oi := ⟨some 98, Op.convert 30 9 (Operand.tmp 97), 9, _, _, some (9, false)⟩) (v := ?v18n1k17) rfl (by kernel_rfl) (by kernel_rfl) (by kernel_rfl) (fun _ _ _ h => h) (Or.inl ⟨by rfl, ?y18n1k17⟩) hHeld ?z18n1k17
          case y18n1k17 => intro w hSw; (try dsimp only at hSw); go_simp <;> rfl
          try simp only [Act.put, List.setIfInBounds_toArray, List.set_cons_zero, List.set_cons_succ]
          refine wpAnyH_ready (rs := [13]) (by kernel_rfl) (by simp) ?_
          refine AllReadyH.cons (o := ⟨some 93, Op.call { callee := Callee.value (Operand.func 17), args := #[Operand.tmp 90, Operand.tmp 92], argTypes := #[41, 3] }, 30, _, _, some (9, false)⟩) rfl (fun K hK => ?_) AllReadyH.nil
          go_simp
          rw [HW1.out]
          refine (LP2.out _ _ _ (LX.out.keep (Kept.drew noBlock u1) (fun _ _ h => h))).mono ?_
          rintro e u10 ⟨P10, c10, rfl, o10, k10⟩
          have K10 := Lib.hid ((Kept.drew noBlock u1).step k10)
          have Q10 := Lib.hid (CR.out u10 P10 c10 (Lies.of_own (F := fun _ => True) o10 (fun _ _ => trivial)))
          clear k10 o10
          dsimp only
          refine hK.out _ _ (CX2.out _ K10.out) (fun hHeld => ?_)
          clear hK K
          try simp only [Act.put, List.setIfInBounds_toArray, List.set_cons_zero, List.set_cons_succ]
          refine wpAnyH_more (S2 := fun u => (convert 30 9 (.slice P pk cp)).run Try.prog u = .ok (.string T2) u ∧ (convert 30 9 (.slice P10 pk c10)).run Try.prog u = .ok (.string T2) u) (fun _ h => h.1) ?_
          clear hHeld
          have hHeld : (fun u => (convert 30 9 (.slice P pk cp)).run Try.prog u = .ok (.string T2) u ∧ (convert 30 9 (.slice P10 pk c10)).run Try.prog u = .ok (.string T2) u) _ := ⟨CX2.out _ K10.out, Q10.out⟩
          refine wpAnyH_take (i := 14) (oi := ⟨some 94, Op.convert 30 9 (Operand.tmp 93), 9, _, _, some (9, false)⟩) (v := ?v14n1k18) rfl (by kernel_rfl) (by kernel_rfl) (by kernel_rfl) (fun _ _ _ h => h) (Or.inl ⟨by rfl, ?y14n1k18⟩) hHeld ?z14n1k18
          case y14n1k18 => intro w hSw; (try dsimp only at hSw); go_simp <;> rfl
          try simp only [Act.put, List.setIfInBounds_toArray, List.set_cons_zero, List.set_cons_succ]
          refine wpAnyH_take (i := 19) (oi := ⟨some 99, Op.binOp BinOp.neq 9 (Operand.tmp 94) (Operand.tmp 98) 9, 4, _, _, some (9, false)⟩) (v := ?v19n1k19) rfl (by kernel_rfl) (by kernel_rfl) (by kernel_rfl) (fun _ _ _ h => h) (Or.inl ⟨by rfl, ?y19n1k19⟩) hHeld ?z19n1k19
          case y19n1k19 => intro w hSw; (try dsimp only at hSw); go_simp <;> rfl
          try simp only [Act.put, List.setIfInBounds_toArray, List.set_cons_zero, List.set_cons_succ]
          refine wpAnyH_take (i := 20) (oi := ⟨some 100, Op.pick (Operand.tmp 89) (Operand.const (Value.bool true)) (Operand.tmp 99), 4, _, _, none⟩) (v := ?v20n1k20) rfl (by kernel_rfl) (by kernel_rfl) (by kernel_rfl) (fun _ _ _ h => h) (Or.inl ⟨by rfl, ?y20n1k20⟩) hHeld ?z20n1k20
          case y20n1k20 => intro w hSw; (try dsimp only at hSw); go_simp <;> rfl
          try simp only [Act.put, List.setIfInBounds_toArray, List.set_cons_zero, List.set_cons_succ]
          refine wpAnyH_take (i := 21) (oi := ⟨some 101, Op.move (Operand.tmp 100), 4, _, _, none⟩) (v := ?v21n1k21) rfl (by kernel_rfl) (by kernel_rfl) (by kernel_rfl) (fun _ _ _ h => h) (Or.inl ⟨by rfl, ?y21n1k21⟩) hHeld ?z21n1k21
          case y21n1k21 => intro w hSw; (try dsimp only at hSw); go_simp <;> rfl
          try simp only [Act.put, List.setIfInBounds_toArray, List.set_cons_zero, List.set_cons_succ]
          refine wpAnyH_take (i := 22) (oi := ⟨some 102, Op.move (Operand.tmp 14), 3, _, _, some (21, false)⟩) (v := ?v22n1k22) rfl (by kernel_rfl) (by kernel_rfl) (by kernel_rfl) (fun _ _ _ h => h) (Or.inl ⟨by rfl, ?y22n1k22⟩) hHeld ?z22n1k22
          case y22n1k22 => intro w hSw; (try dsimp only at hSw); go_simp <;> rfl
          try simp only [Act.put, List.setIfInBounds_toArray, List.set_cons_zero, List.set_cons_succ]
          refine wpAnyH_take (i := 23) (oi := ⟨some 103, Op.move (Operand.tmp 12), 3, _, _, some (21, false)⟩) (v := ?v23n1k23) rfl (by kernel_rfl) (by kernel_rfl) (by kernel_rfl) (fun _ _ _ h => h) (Or.inl ⟨by rfl, ?y23n1k23⟩) hHeld ?z23n1k23
          case y23n1k23 => intro w hSw; (try dsimp only at hSw); go_simp <;> rfl
          try simp only [Act.put, List.setIfInBounds_toArray, List.set_cons_zero, List.set_cons_succ]
          refine wpAnyH_take (i := 24) (oi := ⟨some 104, Op.binOp BinOp.gtr 3 (Operand.tmp 102) (Operand.tmp 103) 3, 4, _, _, some (21, false)⟩) (v := ?v24n1k24) rfl (by kernel_rfl) (by kernel_rfl) (by kernel_rfl) (fun _ _ _ h => h) (Or.inl ⟨by rfl, ?y24n1k24⟩) hHeld ?z24n1k24
          case y24n1k24 => intro w hSw; (try dsimp only at hSw); go_simp <;> rfl
          try simp only [Act.put, List.setIfInBounds_toArray, List.set_cons_zero, List.set_cons_succ]
          refine wpAnyH_take (i := 25) (oi := ⟨some 105, Op.pick (Operand.tmp 101) (Operand.const (Value.bool true)) (Operand.tmp 104), 4, _, _, none⟩) (v := ?v25n1k25) rfl (by kernel_rfl) (by kernel_rfl) (by kernel_rfl) (fun _ _ _ h => h) (Or.inl ⟨by rfl, ?y25n1k25⟩) hHeld ?z25n1k25
          case y25n1k25 => intro w hSw; (try dsimp only at hSw); go_simp <;> rfl
          try simp only [Act.put, List.setIfInBounds_toArray, List.set_cons_zero, List.set_cons_succ]
          refine wpAnyH_done (by kernel_rfl) ?_ _
          refine NoPanic.normal ?_
          have KU := Lib.hid (K5.out.step K10.out)
          have LE6 := Lib.hid (LE5.out.keep K10.out (fun _ _ h => h))
          clear hHeld CX2 CR LP2 LX Q10
          have e1 : (f : Int) + 1 = (f1 : Int) := by have := HF1.out; omega
          go_wp2_with fail
          refine (RP2.out u10 K10.out).mono ?_
          rintro e u2 ⟨ys, pk2, er2, A6, c6, rfl, hps2, o6, k6⟩
          rcases hps2 with ⟨_, _, hp2⟩ | ⟨rfl, rfl, rfl, _⟩
          · exact absurd hp2 (HOTH.out _)
          · have K2' := Lib.hid (KU.out.step k6)
            have LE7 := Lib.hid (LE6.out.keep k6 (fun _ _ h => h))
            clear o6 k6 RP2 LE6 e1
            by_cases hx : xn < en
            · obtain ⟨m3, hm3, LP3⟩ := HLT2.out hx u2 A2 c2 LE7.out hc2
              have hxq : ((xn : Int) == (en : Int)) = false := beq_false_of_ne (fun h => by omega)
              have hm3i : (q : Int) < (m3 : Int) := by omega
              obtain ⟨x1, hx1⟩ : ∃ x1, x1 = xn + 1 := ⟨_, rfl⟩
              rw [← hx1] at LP3
              have e2 : (xn : Int) + 1 = (x1 : Int) := by omega
              have e3 : (x1 : Int) ≤ c2 := by omega
              have LPH := Lib.hid LP3
              clear LP3 hx1 HLT2
              go_wp2_with fail
              refine LPH.out.mono ?_
              rintro e u3 ⟨A8, c8, rfl, k8⟩
              have K8 := Lib.hid (K2'.out.step k8)
              clear k8 LPH
              go_wp2
              go_ret
              exact ⟨rfl, K8.out⟩
            · obtain rfl : xn = en := by omega
              clear HLT2
              go_wp2
              go_ret
              exact ⟨rfl, K2'.out⟩
        · exact absurd hpo (hno _)
end Go.Proofs.Ythmjjhjblokjeaa
