/-
  FilesFlip: what it does with whatever bytes. No statement is proved here.
-/
import Derived.Test.YtaelkmcohdfboaaL4Cut
namespace Go.Proofs.Ytaelkmcohdfboaa
open Go.RowKit Go.Maps

theorem Has.flip {w0 w : World} {d : Nat} {S : St} (h : Has w0 w d S) (s : List UInt8) (i : Int) (y : UInt8) (hs : s.length ≤ maxLen) :
    Calls Try.prog 33 #[.pointer (some ⟨d, 0, none⟩), .string (str s), .int .i64 i, .int .u8 (y.toNat : Int)] w fun e w' => e = .returned (.bool (S.flip s i y).1) ∧ Has w0 w' d (S.flip s i y).2 := by
  obtain ⟨F, hd, hF, k⟩ := h
  exact (flip_any F d S s i y w hd hs).mono fun e w' ⟨he, D⟩ => ⟨he, Has.next hF k D⟩
/-- A Flip of what is not there: the rows that were read ahead of it stay. -/
theorem Has.flipRow {w0 w : World} {d : Nat} {S : St} (h : Has w0 w d S) {w1 : World} (k1 : Kept noBlock w w1) {A : Option Addr} {xs : List Value} (hx : Lies w1 (fun i => w.heap.size ≤ i) A xs) (s : List UInt8) (i : Int) (y : UInt8) (hs : s.length ≤ maxLen) :
    Calls Try.prog 33 #[.pointer (some ⟨d, 0, none⟩), .string (str s), .int .i64 i, .int .u8 (y.toNat : Int)] w1 fun e w' => e = .returned (.bool (S.flip s i y).1) ∧ Has w0 w' d (S.flip s i y).2 ∧ Lies w' (fun i => w.heap.size ≤ i) A xs := by
  obtain ⟨F, hd, hF, k⟩ := h
  have hd1 := hd.keep k1 (fun _ _ h => h)
  exact (flip_any F d S s i y w1 hd1 hs).mono fun e w' ⟨he, D⟩ => ⟨he, Has.next hF (k.step k1) D, hx.keep D.kept fun i hi h9 => absurd (hd.lt i h9) (by omega)⟩

/-- What a file is behind a Flip. -/
def turn (u : List UInt8) (i : Int) (y : UInt8) : List UInt8 := if i < 0 ∨ (u.length : Int) ≤ i then u else u.set i.toNat (u.getD i.toNat 0 ^^^ y)
theorem turn_len (u : List UInt8) (i : Int) (y : UInt8) : (turn u i y).length = u.length := by unfold turn; split <;> simp
theorem solo_flip (room calls vol f : Nat) (safe : Dir) (pend : List Chg) (l : Fl) (i : Int) (y : UInt8) :
    (solo room f safe pend calls l vol).flip [120] i y = (!decide (i < 0 ∨ (l.data.length : Int) ≤ i), solo room f safe pend calls ⟨turn l.data i y, l.safe⟩ vol) := by
  unfold St.flip
  rw [show (solo room f safe pend calls l vol).cur = [([120], f)] from rfl, solo_look]
  simp only
  have e : (solo room f safe pend calls l vol).file f = l := file_eq (one_self f l)
  rw [e]
  unfold turn
  by_cases h : i < 0 ∨ (l.data.length : Int) ≤ i
  · rw [if_pos h, if_pos h]
    simp [h]
  · rw [if_neg h, if_neg h]
    simp only [h, decide_false, Bool.not_false, Prod.mk.injEq, true_and]
    unfold St.setFl solo plain
    simp only [St.mk.injEq, true_and, and_true]
    exact one_set f l _
theorem solo_flip_none (room calls vol f : Nat) (safe : Dir) (pend : List Chg) (l : Fl) (i : Int) (y : UInt8) :
    (solo room f safe pend calls l vol).flip [121] i y = (false, solo room f safe pend calls l vol) := by
  unfold St.flip
  rw [show (solo room f safe pend calls l vol).cur = [([120], f)] from rfl, show Dir.look [([120], f)] [121] = none from rfl]
theorem xor_same {x y : UInt8} (h : x ^^^ y = x) : y = 0 := by
  have h1 := congrArg UInt8.toNat h
  rw [UInt8.toNat_xor] at h1
  apply UInt8.toNat_inj.1
  have h2 : x.toNat ^^^ (x.toNat ^^^ y.toNat) = x.toNat ^^^ x.toNat := by rw [h1]
  rwa [← Nat.xor_assoc, Nat.xor_self, Nat.zero_xor] at h2
theorem turn_at (u : List UInt8) (i : Int) (y : UInt8) (k : Nat) (x z : UInt8) (hx : u[k]? = some x) (hz : (turn u i y)[k]? = some z) : (z = x) ↔ ¬ ((0 ≤ i ∧ i < (u.length : Int)) ∧ (k : Int) = i ∧ y ≠ 0) := by
  unfold turn at hz
  by_cases h : i < 0 ∨ (u.length : Int) ≤ i
  · rw [if_pos h, hx] at hz
    injection hz with hz
    subst hz
    simp only [true_iff]
    omega
  · rw [if_neg h] at hz
    have hin : 0 ≤ i ∧ i < (u.length : Int) := by omega
    by_cases e : (k : Int) = i
    · obtain rfl : i = (k : Int) := e.symm
      simp only [Int.toNat_natCast] at hz
      have hkl : k < u.length := by omega
      rw [List.getElem?_set_self hkl] at hz
      injection hz with hz
      rw [List.getD_eq_getElem?_getD, hx] at hz
      simp only [Option.getD_some] at hz
      constructor
      · intro h1 h2
        rw [h1] at hz
        exact h2.2.2 (xor_same hz)
      · intro h1
        have hy : y = 0 := by
          apply Classical.byContradiction
          intro hne
          exact h1 ⟨hin, rfl, hne⟩
        rw [← hz, hy]
        simp
    · rw [List.getElem?_set_ne (by omega), hx] at hz
      injection hz with hz
      subst hz
      simp only [true_iff]
      intro h1
      exact e h1.2.1

set_option maxRecDepth 100000 in
set_option maxHeartbeats 2000000 in
theorem flip_walk (F : Nat → Prop) (a : Option Addr) (n c : Nat) (l : List UInt8) (i : Int) (y : UInt8) (w : World) (h : Lies w F a (l.map bv)) (hl : l.length = n) (hc : n ≤ c) (hi1 : -32768 ≤ i) (hi2 : i ≤ 32767) :
    Calls Try.prog 7 #[.slice a n c, .int .i16 i, .int .u8 (y.toNat : Int)] w fun e w' => e = .returned (.bool true) ∧ Kept noBlock w w' := by
  obtain ⟨m, hm⟩ : ∃ m, m = min n 100 := ⟨_, rfl⟩
  have q1 : (if (100 : Int) < (n : Int) then (100 : Int) else (n : Int)) = (m : Int) := by split <;> omega
  have i1 : (m : Int) ≤ c := by omega
  have hm100 : m ≤ 100 := by omega
  have hmc : m ≤ c := by omega
  obtain ⟨u, hu⟩ : ∃ u, u = l.take m := ⟨_, rfl⟩
  have hul : u.length = m := by rw [hu, List.length_take]; omega
  have hL : Lies w F a (u.map bv) := by rw [hu, List.map_take]; exact h.take m
  have HU := Lib.hid hul; clear hul
  have HL := Lib.hid hL; clear hL
  have hwi : IntKind.i64.wrap i = i := wrap_small (by omega) (by omega)
  have HM := Lib.hid hm
  clear hu h hl
  go_enter Try.func7, Try.ntmps7
  go_wp2_with fail
  refine (awake_any w).mono ?_
  rintro e w1 ⟨rfl, k1⟩
  go_upto_region 3 with (fail)
  go_cut [0] (fun x wc => x = .slice a m c ∧ wc = w1)
  case first =>
    go_wp2
    all_goals
      go_meet
      case rel => exact ⟨by congr 1 <;> omega, rfl⟩
  case rest =>
    obtain ⟨rfl, rfl⟩ := hcut
    clear hm
    go_wp2_with fail
    refine (has_of 100 wc (by omega)).mono ?_
    rintro e w3 ⟨d, rfl, h3⟩
    have H3 := Lib.hid h3; clear h3
    go_wp2_with fail
    refine (H3.out.create [120] (small_name _ (by simp)) (by simp [plain])).mono ?_
    rintro e w4 ⟨f, rfl, h4, hf⟩
    rw [solo_create] at h4 ⊢
    have hL4 := HL.out.keep (k1.step h4.kept) (fun _ _ h => h)
    have H4 := Lib.hid h4; clear h4 hf
    go_wp2_with fail
    refine ((show Has wc w4 d _ from H4.out).append [120] (small_name _ (by simp)) (by simp [solo, plain]) hL4 HU.out (by simp [solo, plain]; omega)).mono ?_
    rintro e w5 ⟨rfl, h5⟩
    rw [solo_append 100 1 0 f _ _ ⟨[], 0⟩ u (by simp [HU.out]; omega)] at h5 ⊢
    simp only [List.nil_append] at h5
    obtain ⟨S5, hS5⟩ : ∃ S5, S5 = solo 100 f [] [⟨[120], [120], some f⟩] 2 ⟨u, 0⟩ (0 + u.length) := ⟨_, rfl⟩
    have H5 : Hid (Has wc w5 d S5) := by rw [hS5]; exact Lib.hid h5
    clear h5 hL4
    obtain ⟨t, ht⟩ : ∃ t, t = turn u i y := ⟨_, rfl⟩
    obtain ⟨S6, hS6⟩ : ∃ S6, S6 = solo 100 f [] [⟨[120], [120], some f⟩] 2 ⟨t, 0⟩ (0 + u.length) := ⟨_, rfl⟩
    have hfl : S5.flip [120] i y = (!decide (i < 0 ∨ (m : Int) ≤ i), S6) := by rw [hS5, solo_flip, hS6, ht, HU.out]
    have hr6 : S6.read [120] = t := by rw [hS6]; exact solo_read _ _ _ _ _ _ _
    have hf6 : S6.find [120] = (some f, 0) := by rw [hS6]; exact solo_find _ _ _ _ _ _ _
    have hn6 : S6.flip [121] 0 1 = (false, S6) := by rw [hS6]; exact solo_flip_none _ _ _ _ _ _ _ _ _
    have hc6 : S6.calls = 2 := by rw [hS6]; rfl
    have htl : t.length = m := by rw [ht, turn_len, HU.out]
    have HFL := Lib.hid hfl
    have HR6 := Lib.hid hr6
    have HF6 := Lib.hid hf6
    have HN6 := Lib.hid hn6
    have HC6 := Lib.hid hc6
    have HT := Lib.hid ht
    have HTL := Lib.hid htl
    clear hfl hr6 hf6 hn6 hc6 ht htl hS5 hS6
    obtain ⟨ok, hok⟩ : ∃ ok, ok = !decide (i < 0 ∨ (m : Int) ≤ i) := ⟨_, rfl⟩
    rw [← hok] at HFL
    have HOK := Lib.hid hok; clear hok
    go_wp2_with fail
    refine (H5.out.flip [120] i y (small_name _ (by simp))).mono ?_
    rw [HFL.out]
    rintro e w6 ⟨rfl, h6⟩
    have H6 := Lib.hid h6; clear h6
    go_wp2_with fail
    refine (H6.out.read [120] (small_name _ (by simp))).mono ?_
    rintro e w7 ⟨A', ca, rfl, hLx, kx⟩
    rw [HR6.out] at hLx ⊢
    rw [HF6.out, HTL.out]
    have HLX := Lib.hid hLx
    have KX := Lib.hid kx
    clear hLx kx
    have hneg : ok = true ↔ (0 ≤ i ∧ i < (m : Int)) := by
      rw [HOK.out, Bool.not_eq_true', decide_eq_false_iff_not]
      omega
    have HNG := Lib.hid hneg
    have K1 := Lib.hid k1
    clear k1
    go_upto_region 9 with (fail)
    go_cut [11] (fun x wc => x = .bool ok ∧ wc = w7)
    case first =>
      go_wp2
      all_goals
        go_meet
        case rel =>
          refine ⟨?_, rfl⟩
          congr 1
          rw [Bool.eq_iff_iff, hneg]
          simp
          omega
    case rest =>
      obtain ⟨rfl, rfl⟩ := hcut
      clear hneg
      go_wp2_with fail
      refine (H6.out.flipRow KX.out HLX.out [121] 0 1 (small_name _ (by simp))).mono ?_
      rw [HN6.out]
      rintro e w8 ⟨rfl, h8, hL8⟩
      have H8 := Lib.hid h8; clear h8
      have HL8 := Lib.hid hL8; clear hL8
      go_wp2_with fail
      refine H8.out.calls.mono ?_
      rw [HC6.out]
      rintro e w9 ⟨rfl, rfl⟩
      have hLa := Lib.hid (HL.out.keep (K1.out.step H8.out.kept) (fun _ _ h => h))
      have KW := Lib.hid (K1.out.step H8.out.kept)
      go_wp2
      go_loopw [70] (fun v wr => ∃ k : Nat, k ≤ m ∧ v = .int .i64 (k : Int) ∧ Kept noBlock w8 wr) (fun v _ => m - (intOf v).toNat)
      case atStart => exact ⟨0, by omega, rfl, Kept.refl _ _⟩
      case round =>
        obtain ⟨k, hk, rfl, kk⟩ := hrel
        by_cases hlt : k < m
        · have hdec : decide ((k : Int) < (m : Int)) = true := by simp; omega
          obtain ⟨x, hx⟩ : ∃ x, u[k]? = some x := ⟨u[k]'(by rw [HU.out]; exact hlt), List.getElem?_eq_getElem _⟩
          obtain ⟨z, hz⟩ : ∃ z, t[k]? = some z := ⟨t[k]'(by rw [HTL.out]; exact hlt), List.getElem?_eq_getElem _⟩
          have hta := turn_at u i y k x z hx (by rw [← HT.out]; exact hz)
          rw [HU.out] at hta
          obtain ⟨g, o, rfl, _, hcx⟩ := HL8.out.norm (by intro e; have := congrArg List.length e; rw [List.length_map, HTL.out] at this; simp at this; omega)
          obtain ⟨g2, o2, rfl, _, hcb⟩ := hLa.out.norm (by intro e; have := congrArg List.length e; rw [List.length_map, HU.out] at this; simp at this; omega)
          have cx : wr.cell? ⟨g, o + k, none⟩ = some (.int .u8 (z.toNat : Int)) := kk.cell (hcx k (bv z) (by rw [List.getElem?_map, hz]; rfl)) (fun h => h)
          have cb : wr.cell? ⟨g2, o2 + k, none⟩ = some (.int .u8 (x.toNat : Int)) := kk.cell (hcb k (bv x) (by rw [List.getElem?_map, hx]; rfl)) (fun h => h)
          have HTA := Lib.hid hta
          have hkc : k < m := hlt
          clear hcx hcb hx hz hta hdec
          have eqT : z = x → ((z.toNat : Int) == (x.toNat : Int)) = true := fun e => by rw [e]; simp
          have eqF : ¬ z = x → ((z.toNat : Int) == (x.toNat : Int)) = false := fun e => by
            rw [beq_eq_false_iff_ne]
            intro h9
            exact e (UInt8.toNat_inj.1 (by omega))
          cases hokc : ok with
          | false =>
            have hzx := eqT (HTA.out.2 (fun h9 => by have := HNG.out.2 h9.1; rw [hokc] at this; cases this))
            clear eqT eqF
            go_upto_region 15 with (fail)
            refine wp_region_noPanic ?_
            refine wp_region_held_drew (S := fun w' => w'.cell? ⟨g, o + k, none⟩ = some (.int .u8 (z.toNat : Int)) ∧ w'.cell? ⟨g2, o2 + k, none⟩ = some (.int .u8 (x.toNat : Int))) (by kernel_rfl) ⟨cx, cb⟩ (fun hHeld => ?_)
            refine wpAnyH_take (i := 0) (oi := ⟨some 73, Op.move (Operand.tmp 9), 32, _, _, none⟩) (v := ?v0n5k1) rfl (by kernel_rfl) (by kernel_rfl) (by kernel_rfl) (fun _ _ _ h => h) (Or.inl ⟨by rfl, ?y0n5k1⟩) hHeld ?z0n5k1
            case y0n5k1 => intro w hSw; (try dsimp only at hSw); go_simp <;> rfl
            try simp only [Act.put, List.setIfInBounds_toArray, List.set_cons_zero, List.set_cons_succ]
            refine wpAnyH_take (i := 1) (oi := ⟨some 74, Op.move (Operand.tmp 12), 3, _, _, none⟩) (v := ?v1n5k2) rfl (by kernel_rfl) (by kernel_rfl) (by kernel_rfl) (fun _ _ _ h => h) (Or.inl ⟨by rfl, ?y1n5k2⟩) hHeld ?z1n5k2
            case y1n5k2 => intro w hSw; (try dsimp only at hSw); go_simp <;> rfl
            try simp only [Act.put, List.setIfInBounds_toArray, List.set_cons_zero, List.set_cons_succ]
            refine wpAnyH_take (i := 2) (oi := ⟨some 75, Op.indexAddr 32 (Operand.tmp 73) (Operand.tmp 74), 0, _, _, none⟩) (v := ?v2n5k3) rfl (by kernel_rfl) (by kernel_rfl) (by kernel_rfl) (fun _ _ _ h => h) (Or.inl ⟨by rfl, ?y2n5k3⟩) hHeld ?z2n5k3
            case y2n5k3 => intro w hSw; (try dsimp only at hSw); go_simp <;> rfl
            try simp only [Act.put, List.setIfInBounds_toArray, List.set_cons_zero, List.set_cons_succ]
            refine wpAnyH_take (i := 3) (oi := ⟨some 76, Op.load 5 (Operand.tmp 75), 5, _, _, none⟩) (v := ?v3n5k4) rfl (by kernel_rfl) (by kernel_rfl) (by kernel_rfl) (fun _ _ _ h => h) (Or.inl ⟨by rfl, ?y3n5k4⟩) hHeld ?z3n5k4
            case y3n5k4 => intro w hSw; (try dsimp only at hSw); go_simp <;> rfl
            try simp only [Act.put, List.setIfInBounds_toArray, List.set_cons_zero, List.set_cons_succ]
            refine wpAnyH_take (i := 4) (oi := ⟨some 77, Op.move (Operand.tmp 0), 32, _, _, none⟩) (v := ?v4n5k5) rfl (by kernel_rfl) (by kernel_rfl) (by kernel_rfl) (fun _ _ _ h => h) (Or.inl ⟨by rfl, ?y4n5k5⟩) hHeld ?z4n5k5
            case y4n5k5 => intro w hSw; (try dsimp only at hSw); go_simp <;> rfl
            try simp only [Act.put, List.setIfInBounds_toArray, List.set_cons_zero, List.set_cons_succ]
            refine wpAnyH_take (i := 5) (oi := ⟨some 78, Op.move (Operand.tmp 12), 3, _, _, none⟩) (v := ?v5n5k6) rfl (by kernel_rfl) (by kernel_rfl) (by kernel_rfl) (fun _ _ _ h => h) (Or.inl ⟨by rfl, ?y5n5k6⟩) hHeld ?z5n5k6
            case y5n5k6 => intro w hSw; (try dsimp only at hSw); go_simp <;> rfl
            try simp only [Act.put, List.setIfInBounds_toArray, List.set_cons_zero, List.set_cons_succ]
            refine wpAnyH_take (i := 6) (oi := ⟨some 79, Op.indexAddr 32 (Operand.tmp 77) (Operand.tmp 78), 0, _, _, none⟩) (v := ?v6n5k7) rfl (by kernel_rfl) (by kernel_rfl) (by kernel_rfl) (fun _ _ _ h => h) (Or.inl ⟨by rfl, ?y6n5k7⟩) hHeld ?z6n5k7
            case y6n5k7 => intro w hSw; (try dsimp only at hSw); go_simp <;> rfl
            try simp only [Act.put, List.setIfInBounds_toArray, List.set_cons_zero, List.set_cons_succ]
            refine wpAnyH_take (i := 7) (oi := ⟨some 80, Op.load 5 (Operand.tmp 79), 5, _, _, none⟩) (v := ?v7n5k8) rfl (by kernel_rfl) (by kernel_rfl) (by kernel_rfl) (fun _ _ _ h => h) (Or.inl ⟨by rfl, ?y7n5k8⟩) hHeld ?z7n5k8
            case y7n5k8 => intro w hSw; (try dsimp only at hSw); go_simp <;> rfl
            try simp only [Act.put, List.setIfInBounds_toArray, List.set_cons_zero, List.set_cons_succ]
            refine wpAnyH_take (i := 8) (oi := ⟨some 81, Op.binOp BinOp.eql 5 (Operand.tmp 76) (Operand.tmp 80) 5, 4, _, _, none⟩) (v := ?v8n5k9) rfl (by kernel_rfl) (by kernel_rfl) (by kernel_rfl) (fun _ _ _ h => h) (Or.inl ⟨by rfl, ?y8n5k9⟩) hHeld ?z8n5k9
            case y8n5k9 => intro w hSw; (try dsimp only at hSw); go_simp <;> rfl
            try simp only [Act.put, List.setIfInBounds_toArray, List.set_cons_zero, List.set_cons_succ]
            refine wpAnyH_take (i := 9) (oi := ⟨some 82, Op.move (Operand.tmp 11), 4, _, _, none⟩) (v := ?v9n5k10) rfl (by kernel_rfl) (by kernel_rfl) (by kernel_rfl) (fun _ _ _ h => h) (Or.inl ⟨by rfl, ?y9n5k10⟩) hHeld ?z9n5k10
            case y9n5k10 => intro w hSw; (try dsimp only at hSw); go_simp <;> rfl
            try simp only [Act.put, List.setIfInBounds_toArray, List.set_cons_zero, List.set_cons_succ]
            refine wpAnyH_take (i := 10) (oi := ⟨some 83, Op.move (Operand.tmp 82), 4, _, _, none⟩) (v := ?v10n5k11) rfl (by kernel_rfl) (by kernel_rfl) (by kernel_rfl) (fun _ _ _ h => h) (Or.inl ⟨by rfl, ?y10n5k11⟩) hHeld ?z10n5k11
            case y10n5k11 => intro w hSw; (try dsimp only at hSw); go_simp <;> rfl
            try simp only [Act.put, List.setIfInBounds_toArray, List.set_cons_zero, List.set_cons_succ]
            refine wpAnyH_take (i := 11) (oi := ⟨some 84, Op.move (Operand.tmp 12), 3, _, _, some (10, true)⟩) (v := undef) rfl (by kernel_rfl) (by kernel_rfl) (by kernel_rfl) (fun _ _ _ h => h) (Or.inr ⟨by rfl, rfl⟩) hHeld ?z11n5k12
            try simp only [Act.put, List.setIfInBounds_toArray, List.set_cons_zero, List.set_cons_succ]
            refine wpAnyH_take (i := 12) (oi := ⟨some 85, Op.move (Operand.tmp 1), 33, _, _, some (10, true)⟩) (v := undef) rfl (by kernel_rfl) (by kernel_rfl) (by kernel_rfl) (fun _ _ _ h => h) (Or.inr ⟨by rfl, rfl⟩) hHeld ?z12n5k13
            try simp only [Act.put, List.setIfInBounds_toArray, List.set_cons_zero, List.set_cons_succ]
            refine wpAnyH_take (i := 13) (oi := ⟨some 86, Op.convert 33 3 (Operand.tmp 85), 3, _, _, some (10, true)⟩) (v := undef) rfl (by kernel_rfl) (by kernel_rfl) (by kernel_rfl) (fun _ _ _ h => h) (Or.inr ⟨by rfl, rfl⟩) hHeld ?z13n5k14
            try simp only [Act.put, List.setIfInBounds_toArray, List.set_cons_zero, List.set_cons_succ]
            refine wpAnyH_take (i := 14) (oi := ⟨some 87, Op.binOp BinOp.eql 3 (Operand.tmp 84) (Operand.tmp 86) 3, 4, _, _, some (10, true)⟩) (v := undef) rfl (by kernel_rfl) (by kernel_rfl) (by kernel_rfl) (fun _ _ _ h => h) (Or.inr ⟨by rfl, rfl⟩) hHeld ?z14n5k15
            try simp only [Act.put, List.setIfInBounds_toArray, List.set_cons_zero, List.set_cons_succ]
            refine wpAnyH_take (i := 15) (oi := ⟨some 88, Op.pick (Operand.tmp 83) (Operand.tmp 87) (Operand.const (Value.bool false)), 4, _, _, none⟩) (v := ?v15n5k16) rfl (by kernel_rfl) (by kernel_rfl) (by kernel_rfl) (fun _ _ _ h => h) (Or.inl ⟨by rfl, ?y15n5k16⟩) hHeld ?z15n5k16
            case y15n5k16 => intro w hSw; (try dsimp only at hSw); go_simp <;> rfl
            try simp only [Act.put, List.setIfInBounds_toArray, List.set_cons_zero, List.set_cons_succ]
            refine wpAnyH_take (i := 16) (oi := ⟨some 89, Op.move (Operand.tmp 88), 4, _, _, none⟩) (v := ?v16n5k17) rfl (by kernel_rfl) (by kernel_rfl) (by kernel_rfl) (fun _ _ _ h => h) (Or.inl ⟨by rfl, ?y16n5k17⟩) hHeld ?z16n5k17
            case y16n5k17 => intro w hSw; (try dsimp only at hSw); go_simp <;> rfl
            try simp only [Act.put, List.setIfInBounds_toArray, List.set_cons_zero, List.set_cons_succ]
            refine wpAnyH_take (i := 17) (oi := ⟨some 90, Op.move (Operand.tmp 2), 5, _, _, some (16, true)⟩) (v := undef) rfl (by kernel_rfl) (by kernel_rfl) (by kernel_rfl) (fun _ _ _ h => h) (Or.inr ⟨by rfl, rfl⟩) hHeld ?z17n5k18
            try simp only [Act.put, List.setIfInBounds_toArray, List.set_cons_zero, List.set_cons_succ]
            refine wpAnyH_take (i := 18) (oi := ⟨some 91, Op.binOp BinOp.neq 5 (Operand.tmp 90) (Operand.const (Value.int IntKind.u8 0)) 5, 4, _, _, some (16, true)⟩) (v := undef) rfl (by kernel_rfl) (by kernel_rfl) (by kernel_rfl) (fun _ _ _ h => h) (Or.inr ⟨by rfl, rfl⟩) hHeld ?z18n5k19
            try simp only [Act.put, List.setIfInBounds_toArray, List.set_cons_zero, List.set_cons_succ]
            refine wpAnyH_take (i := 19) (oi := ⟨some 92, Op.pick (Operand.tmp 89) (Operand.tmp 91) (Operand.const (Value.bool false)), 4, _, _, none⟩) (v := ?v19n5k20) rfl (by kernel_rfl) (by kernel_rfl) (by kernel_rfl) (fun _ _ _ h => h) (Or.inl ⟨by rfl, ?y19n5k20⟩) hHeld ?z19n5k20
            case y19n5k20 => intro w hSw; (try dsimp only at hSw); go_simp <;> rfl
            try simp only [Act.put, List.setIfInBounds_toArray, List.set_cons_zero, List.set_cons_succ]
            refine wpAnyH_take (i := 20) (oi := ⟨some 93, Op.binOp BinOp.eql 4 (Operand.tmp 81) (Operand.tmp 92) 4, 4, _, _, none⟩) (v := ?v20n5k21) rfl (by kernel_rfl) (by kernel_rfl) (by kernel_rfl) (fun _ _ _ h => h) (Or.inl ⟨by rfl, ?y20n5k21⟩) hHeld ?z20n5k21
            case y20n5k21 => intro w hSw; (try dsimp only at hSw); go_simp <;> rfl
            try simp only [Act.put, List.setIfInBounds_toArray, List.set_cons_zero, List.set_cons_succ]
            refine wpAnyH_done (by kernel_rfl) ?_ _
            refine NoPanic.normal ?_
            go_wp2
            go_roundw
            case rel => exact ⟨k + 1, by omega, by go_num, kk.step (Kept.drew noBlock wr)⟩
            case measure => simp [intOf]; omega
          | true =>
            have hin := HNG.out.1 hokc
            obtain ⟨j, hj⟩ : ∃ j : Nat, i = (j : Int) := ⟨i.toNat, by omega⟩
            by_cases hkj : k = j
            · subst hkj
              by_cases hy : y = 0
              · have hzx := eqT (HTA.out.2 (fun h9 => h9.2.2 hy))
                have hyn : y.toNat = 0 := by rw [hy]; rfl
                have hyi : ((y.toNat : Int) == 0) = true := by rw [hyn]; rfl
                clear eqT eqF hy
                subst hj
                go_upto_region 15 with (fail)
                refine wp_region_noPanic ?_
                refine wp_region_held_drew (S := fun w' => w'.cell? ⟨g, o + k, none⟩ = some (.int .u8 (z.toNat : Int)) ∧ w'.cell? ⟨g2, o2 + k, none⟩ = some (.int .u8 (x.toNat : Int))) (by kernel_rfl) ⟨cx, cb⟩ (fun hHeld => ?_)
                refine wpAnyH_take (i := 0) (oi := ⟨some 73, Op.move (Operand.tmp 9), 32, _, _, none⟩) (v := ?v0n6k1) rfl (by kernel_rfl) (by kernel_rfl) (by kernel_rfl) (fun _ _ _ h => h) (Or.inl ⟨by rfl, ?y0n6k1⟩) hHeld ?z0n6k1
                case y0n6k1 => intro w hSw; (try dsimp only at hSw); go_simp <;> rfl
                try simp only [Act.put, List.setIfInBounds_toArray, List.set_cons_zero, List.set_cons_succ]
                refine wpAnyH_take (i := 1) (oi := ⟨some 74, Op.move (Operand.tmp 12), 3, _, _, none⟩) (v := ?v1n6k2) rfl (by kernel_rfl) (by kernel_rfl) (by kernel_rfl) (fun _ _ _ h => h) (Or.inl ⟨by rfl, ?y1n6k2⟩) hHeld ?z1n6k2
                case y1n6k2 => intro w hSw; (try dsimp only at hSw); go_simp <;> rfl
                try simp only [Act.put, List.setIfInBounds_toArray, List.set_cons_zero, List.set_cons_succ]
                refine wpAnyH_take (i := 2) (oi := ⟨some 75, Op.indexAddr 32 (Operand.tmp 73) (Operand.tmp 74), 0, _, _, none⟩) (v := ?v2n6k3) rfl (by kernel_rfl) (by kernel_rfl) (by kernel_rfl) (fun _ _ _ h => h) (Or.inl ⟨by rfl, ?y2n6k3⟩) hHeld ?z2n6k3
                case y2n6k3 => intro w hSw; (try dsimp only at hSw); go_simp <;> rfl
                try simp only [Act.put, List.setIfInBounds_toArray, List.set_cons_zero, List.set_cons_succ]
                refine wpAnyH_take (i := 3) (oi := ⟨some 76, Op.load 5 (Operand.tmp 75), 5, _, _, none⟩) (v := ?v3n6k4) rfl (by kernel_rfl) (by kernel_rfl) (by kernel_rfl) (fun _ _ _ h => h) (Or.inl ⟨by rfl, ?y3n6k4⟩) hHeld ?z3n6k4
                case y3n6k4 => intro w hSw; (try dsimp only at hSw); go_simp <;> rfl
                try simp only [Act.put, List.setIfInBounds_toArray, List.set_cons_zero, List.set_cons_succ]
                refine wpAnyH_take (i := 4) (oi := ⟨some 77, Op.move (Operand.tmp 0), 32, _, _, none⟩) (v := ?v4n6k5) rfl (by kernel_rfl) (by kernel_rfl) (by kernel_rfl) (fun _ _ _ h => h) (Or.inl ⟨by rfl, ?y4n6k5⟩) hHeld ?z4n6k5
                case y4n6k5 => intro w hSw; (try dsimp only at hSw); go_simp <;> rfl
                try simp only [Act.put, List.setIfInBounds_toArray, List.set_cons_zero, List.set_cons_succ]
                refine wpAnyH_take (i := 5) (oi := ⟨some 78, Op.move (Operand.tmp 12), 3, _, _, none⟩) (v := ?v5n6k6) rfl (by kernel_rfl) (by kernel_rfl) (by kernel_rfl) (fun _ _ _ h => h) (Or.inl ⟨by rfl, ?y5n6k6⟩) hHeld ?z5n6k6
                case y5n6k6 => intro w hSw; (try dsimp only at hSw); go_simp <;> rfl
                try simp only [Act.put, List.setIfInBounds_toArray, List.set_cons_zero, List.set_cons_succ]
                refine wpAnyH_take (i := 6) (oi := ⟨some 79, Op.indexAddr 32 (Operand.tmp 77) (Operand.tmp 78), 0, _, _, none⟩) (v := ?v6n6k7) rfl (by kernel_rfl) (by kernel_rfl) (by kernel_rfl) (fun _ _ _ h => h) (Or.inl ⟨by rfl, ?y6n6k7⟩) hHeld ?z6n6k7
                case y6n6k7 => intro w hSw; (try dsimp only at hSw); go_simp <;> rfl
                try simp only [Act.put, List.setIfInBounds_toArray, List.set_cons_zero, List.set_cons_succ]
                refine wpAnyH_take (i := 7) (oi := ⟨some 80, Op.load 5 (Operand.tmp 79), 5, _, _, none⟩) (v := ?v7n6k8) rfl (by kernel_rfl) (by kernel_rfl) (by kernel_rfl) (fun _ _ _ h => h) (Or.inl ⟨by rfl, ?y7n6k8⟩) hHeld ?z7n6k8
                case y7n6k8 => intro w hSw; (try dsimp only at hSw); go_simp <;> rfl
                try simp only [Act.put, List.setIfInBounds_toArray, List.set_cons_zero, List.set_cons_succ]
                refine wpAnyH_take (i := 8) (oi := ⟨some 81, Op.binOp BinOp.eql 5 (Operand.tmp 76) (Operand.tmp 80) 5, 4, _, _, none⟩) (v := ?v8n6k9) rfl (by kernel_rfl) (by kernel_rfl) (by kernel_rfl) (fun _ _ _ h => h) (Or.inl ⟨by rfl, ?y8n6k9⟩) hHeld ?z8n6k9
                case y8n6k9 => intro w hSw; (try dsimp only at hSw); go_simp <;> rfl
                try simp only [Act.put, List.setIfInBounds_toArray, List.set_cons_zero, List.set_cons_succ]
                refine wpAnyH_take (i := 9) (oi := ⟨some 82, Op.move (Operand.tmp 11), 4, _, _, none⟩) (v := ?v9n6k10) rfl (by kernel_rfl) (by kernel_rfl) (by kernel_rfl) (fun _ _ _ h => h) (Or.inl ⟨by rfl, ?y9n6k10⟩) hHeld ?z9n6k10
                case y9n6k10 => intro w hSw; (try dsimp only at hSw); go_simp <;> rfl
                try simp only [Act.put, List.setIfInBounds_toArray, List.set_cons_zero, List.set_cons_succ]
                refine wpAnyH_take (i := 10) (oi := ⟨some 83, Op.move (Operand.tmp 82), 4, _, _, none⟩) (v := ?v10n6k11) rfl (by kernel_rfl) (by kernel_rfl) (by kernel_rfl) (fun _ _ _ h => h) (Or.inl ⟨by rfl, ?y10n6k11⟩) hHeld ?z10n6k11
                case y10n6k11 => intro w hSw; (try dsimp only at hSw); go_simp <;> rfl
                try simp only [Act.put, List.setIfInBounds_toArray, List.set_cons_zero, List.set_cons_succ]
                refine wpAnyH_take (i := 11) (oi := ⟨some 84, Op.move (Operand.tmp 12), 3, _, _, some (10, true)⟩) (v := ?v11n6k12) rfl (by kernel_rfl) (by kernel_rfl) (by kernel_rfl) (fun _ _ _ h => h) (Or.inl ⟨by rfl, ?y11n6k12⟩) hHeld ?z11n6k12
                case y11n6k12 => intro w hSw; (try dsimp only at hSw); go_simp <;> rfl
                try simp only [Act.put, List.setIfInBounds_toArray, List.set_cons_zero, List.set_cons_succ]
                refine wpAnyH_take (i := 12) (oi := ⟨some 85, Op.move (Operand.tmp 1), 33, _, _, some (10, true)⟩) (v := ?v12n6k13) rfl (by kernel_rfl) (by kernel_rfl) (by kernel_rfl) (fun _ _ _ h => h) (Or.inl ⟨by rfl, ?y12n6k13⟩) hHeld ?z12n6k13
                case y12n6k13 => intro w hSw; (try dsimp only at hSw); go_simp <;> rfl
                try simp only [Act.put, List.setIfInBounds_toArray, List.set_cons_zero, List.set_cons_succ]
                refine wpAnyH_take (i := 13) (oi := ⟨some 86, Op.convert 33 3 (Operand.tmp 85), 3, _, _, some (10, true)⟩) (v := ?v13n6k14) rfl (by kernel_rfl) (by kernel_rfl) (by kernel_rfl) (fun _ _ _ h => h) (Or.inl ⟨by rfl, ?y13n6k14⟩) hHeld ?z13n6k14
                case y13n6k14 => intro w hSw; (try dsimp only at hSw); go_simp <;> rfl
                try simp only [Act.put, List.setIfInBounds_toArray, List.set_cons_zero, List.set_cons_succ]
                refine wpAnyH_take (i := 14) (oi := ⟨some 87, Op.binOp BinOp.eql 3 (Operand.tmp 84) (Operand.tmp 86) 3, 4, _, _, some (10, true)⟩) (v := ?v14n6k15) rfl (by kernel_rfl) (by kernel_rfl) (by kernel_rfl) (fun _ _ _ h => h) (Or.inl ⟨by rfl, ?y14n6k15⟩) hHeld ?z14n6k15
                case y14n6k15 => intro w hSw; (try dsimp only at hSw); go_simp <;> rfl
                try simp only [Act.put, List.setIfInBounds_toArray, List.set_cons_zero, List.set_cons_succ]
                refine wpAnyH_take (i := 15) (oi := ⟨some 88, Op.pick (Operand.tmp 83) (Operand.tmp 87) (Operand.const (Value.bool false)), 4, _, _, none⟩) (v := ?v15n6k16) rfl (by kernel_rfl) (by kernel_rfl) (by kernel_rfl) (fun _ _ _ h => h) (Or.inl ⟨by rfl, ?y15n6k16⟩) hHeld ?z15n6k16
                case y15n6k16 => intro w hSw; (try dsimp only at hSw); go_simp <;> rfl
                try simp only [Act.put, List.setIfInBounds_toArray, List.set_cons_zero, List.set_cons_succ]
                refine wpAnyH_take (i := 16) (oi := ⟨some 89, Op.move (Operand.tmp 88), 4, _, _, none⟩) (v := ?v16n6k17) rfl (by kernel_rfl) (by kernel_rfl) (by kernel_rfl) (fun _ _ _ h => h) (Or.inl ⟨by rfl, ?y16n6k17⟩) hHeld ?z16n6k17
                case y16n6k17 => intro w hSw; (try dsimp only at hSw); go_simp <;> rfl
                try simp only [Act.put, List.setIfInBounds_toArray, List.set_cons_zero, List.set_cons_succ]
                refine wpAnyH_take (i := 17) (oi := ⟨some 90, Op.move (Operand.tmp 2), 5, _, _, some (16, true)⟩) (v := ?v17n6k18) rfl (by kernel_rfl) (by kernel_rfl) (by kernel_rfl) (fun _ _ _ h => h) (Or.inl ⟨by rfl, ?y17n6k18⟩) hHeld ?z17n6k18
                case y17n6k18 => intro w hSw; (try dsimp only at hSw); go_simp <;> rfl
                try simp only [Act.put, List.setIfInBounds_toArray, List.set_cons_zero, List.set_cons_succ]
                refine wpAnyH_take (i := 18) (oi := ⟨some 91, Op.binOp BinOp.neq 5 (Operand.tmp 90) (Operand.const (Value.int IntKind.u8 0)) 5, 4, _, _, some (16, true)⟩) (v := ?v18n6k19) rfl (by kernel_rfl) (by kernel_rfl) (by kernel_rfl) (fun _ _ _ h => h) (Or.inl ⟨by rfl, ?y18n6k19⟩) hHeld ?z18n6k19
                case y18n6k19 => intro w hSw; (try dsimp only at hSw); go_simp <;> rfl
                try simp only [Act.put, List.setIfInBounds_toArray, List.set_cons_zero, List.set_cons_succ]
                refine wpAnyH_take (i := 19) (oi := ⟨some 92, Op.pick (Operand.tmp 89) (Operand.tmp 91) (Operand.const (Value.bool false)), 4, _, _, none⟩) (v := ?v19n6k20) rfl (by kernel_rfl) (by kernel_rfl) (by kernel_rfl) (fun _ _ _ h => h) (Or.inl ⟨by rfl, ?y19n6k20⟩) hHeld ?z19n6k20
                case y19n6k20 => intro w hSw; (try dsimp only at hSw); go_simp <;> rfl
                try simp only [Act.put, List.setIfInBounds_toArray, List.set_cons_zero, List.set_cons_succ]
                refine wpAnyH_take (i := 20) (oi := ⟨some 93, Op.binOp BinOp.eql 4 (Operand.tmp 81) (Operand.tmp 92) 4, 4, _, _, none⟩) (v := ?v20n6k21) rfl (by kernel_rfl) (by kernel_rfl) (by kernel_rfl) (fun _ _ _ h => h) (Or.inl ⟨by rfl, ?y20n6k21⟩) hHeld ?z20n6k21
                case y20n6k21 => intro w hSw; (try dsimp only at hSw); go_simp <;> rfl
                try simp only [Act.put, List.setIfInBounds_toArray, List.set_cons_zero, List.set_cons_succ]
                refine wpAnyH_done (by kernel_rfl) ?_ _
                refine NoPanic.normal ?_
                go_wp2
                go_roundw
                case rel => exact ⟨k + 1, by omega, by go_num, kk.step (Kept.drew noBlock wr)⟩
                case measure => simp [intOf]; omega
              · have hzx := eqF (fun h9 => (HTA.out.1 h9) ⟨hin, by omega, hy⟩)
                have hyn : ¬ y.toNat = 0 := fun h9 => hy (UInt8.toNat_inj.1 h9)
                have hyi : ((y.toNat : Int) == 0) = false := by rw [beq_eq_false_iff_ne]; omega
                have hyb : ((y.toNat : Int) != 0) = true := by rw [bne, hyi]; rfl
                clear eqT eqF
                subst hj
                go_upto_region 15 with (fail)
                refine wp_region_noPanic ?_
                refine wp_region_held_drew (S := fun w' => w'.cell? ⟨g, o + k, none⟩ = some (.int .u8 (z.toNat : Int)) ∧ w'.cell? ⟨g2, o2 + k, none⟩ = some (.int .u8 (x.toNat : Int))) (by kernel_rfl) ⟨cx, cb⟩ (fun hHeld => ?_)
                refine wpAnyH_take (i := 0) (oi := ⟨some 73, Op.move (Operand.tmp 9), 32, _, _, none⟩) (v := ?v0n7k1) rfl (by kernel_rfl) (by kernel_rfl) (by kernel_rfl) (fun _ _ _ h => h) (Or.inl ⟨by rfl, ?y0n7k1⟩) hHeld ?z0n7k1
                case y0n7k1 => intro w hSw; (try dsimp only at hSw); go_simp <;> rfl
                try simp only [Act.put, List.setIfInBounds_toArray, List.set_cons_zero, List.set_cons_succ]
                refine wpAnyH_take (i := 1) (oi := ⟨some 74, Op.move (Operand.tmp 12), 3, _, _, none⟩) (v := ?v1n7k2) rfl (by kernel_rfl) (by kernel_rfl) (by kernel_rfl) (fun _ _ _ h => h) (Or.inl ⟨by rfl, ?y1n7k2⟩) hHeld ?z1n7k2
                case y1n7k2 => intro w hSw; (try dsimp only at hSw); go_simp <;> rfl
                try simp only [Act.put, List.setIfInBounds_toArray, List.set_cons_zero, List.set_cons_succ]
                refine wpAnyH_take (i := 2) (oi := ⟨some 75, Op.indexAddr 32 (Operand.tmp 73) (Operand.tmp 74), 0, _, _, none⟩) (v := ?v2n7k3) rfl (by kernel_rfl) (by kernel_rfl) (by kernel_rfl) (fun _ _ _ h => h) (Or.inl ⟨by rfl, ?y2n7k3⟩) hHeld ?z2n7k3
                case y2n7k3 => intro w hSw; (try dsimp only at hSw); go_simp <;> rfl
                try simp only [Act.put, List.setIfInBounds_toArray, List.set_cons_zero, List.set_cons_succ]
                refine wpAnyH_take (i := 3) (oi := ⟨some 76, Op.load 5 (Operand.tmp 75), 5, _, _, none⟩) (v := ?v3n7k4) rfl (by kernel_rfl) (by kernel_rfl) (by kernel_rfl) (fun _ _ _ h => h) (Or.inl ⟨by rfl, ?y3n7k4⟩) hHeld ?z3n7k4
                case y3n7k4 => intro w hSw; (try dsimp only at hSw); go_simp <;> rfl
                try simp only [Act.put, List.setIfInBounds_toArray, List.set_cons_zero, List.set_cons_succ]
                refine wpAnyH_take (i := 4) (oi := ⟨some 77, Op.move (Operand.tmp 0), 32, _, _, none⟩) (v := ?v4n7k5) rfl (by kernel_rfl) (by kernel_rfl) (by kernel_rfl) (fun _ _ _ h => h) (Or.inl ⟨by rfl, ?y4n7k5⟩) hHeld ?z4n7k5
                case y4n7k5 => intro w hSw; (try dsimp only at hSw); go_simp <;> rfl
                try simp only [Act.put, List.setIfInBounds_toArray, List.set_cons_zero, List.set_cons_succ]
                refine wpAnyH_take (i := 5) (oi := ⟨some 78, Op.move (Operand.tmp 12), 3, _, _, none⟩) (v := ?v5n7k6) rfl (by kernel_rfl) (by kernel_rfl) (by kernel_rfl) (fun _ _ _ h => h) (Or.inl ⟨by rfl, ?y5n7k6⟩) hHeld ?z5n7k6
                case y5n7k6 => intro w hSw; (try dsimp only at hSw); go_simp <;> rfl
                try simp only [Act.put, List.setIfInBounds_toArray, List.set_cons_zero, List.set_cons_succ]
                refine wpAnyH_take (i := 6) (oi := ⟨some 79, Op.indexAddr 32 (Operand.tmp 77) (Operand.tmp 78), 0, _, _, none⟩) (v := ?v6n7k7) rfl (by kernel_rfl) (by kernel_rfl) (by kernel_rfl) (fun _ _ _ h => h) (Or.inl ⟨by rfl, ?y6n7k7⟩) hHeld ?z6n7k7
                case y6n7k7 => intro w hSw; (try dsimp only at hSw); go_simp <;> rfl
                try simp only [Act.put, List.setIfInBounds_toArray, List.set_cons_zero, List.set_cons_succ]
                refine wpAnyH_take (i := 7) (oi := ⟨some 80, Op.load 5 (Operand.tmp 79), 5, _, _, none⟩) (v := ?v7n7k8) rfl (by kernel_rfl) (by kernel_rfl) (by kernel_rfl) (fun _ _ _ h => h) (Or.inl ⟨by rfl, ?y7n7k8⟩) hHeld ?z7n7k8
                case y7n7k8 => intro w hSw; (try dsimp only at hSw); go_simp <;> rfl
                try simp only [Act.put, List.setIfInBounds_toArray, List.set_cons_zero, List.set_cons_succ]
                refine wpAnyH_take (i := 8) (oi := ⟨some 81, Op.binOp BinOp.eql 5 (Operand.tmp 76) (Operand.tmp 80) 5, 4, _, _, none⟩) (v := ?v8n7k9) rfl (by kernel_rfl) (by kernel_rfl) (by kernel_rfl) (fun _ _ _ h => h) (Or.inl ⟨by rfl, ?y8n7k9⟩) hHeld ?z8n7k9
                case y8n7k9 => intro w hSw; (try dsimp only at hSw); go_simp <;> rfl
                try simp only [Act.put, List.setIfInBounds_toArray, List.set_cons_zero, List.set_cons_succ]
                refine wpAnyH_take (i := 9) (oi := ⟨some 82, Op.move (Operand.tmp 11), 4, _, _, none⟩) (v := ?v9n7k10) rfl (by kernel_rfl) (by kernel_rfl) (by kernel_rfl) (fun _ _ _ h => h) (Or.inl ⟨by rfl, ?y9n7k10⟩) hHeld ?z9n7k10
                case y9n7k10 => intro w hSw; (try dsimp only at hSw); go_simp <;> rfl
                try simp only [Act.put, List.setIfInBounds_toArray, List.set_cons_zero, List.set_cons_succ]
                refine wpAnyH_take (i := 10) (oi := ⟨some 83, Op.move (Operand.tmp 82), 4, _, _, none⟩) (v := ?v10n7k11) rfl (by kernel_rfl) (by kernel_rfl) (by kernel_rfl) (fun _ _ _ h => h) (Or.inl ⟨by rfl, ?y10n7k11⟩) hHeld ?z10n7k11
                case y10n7k11 => intro w hSw; (try dsimp only at hSw); go_simp <;> rfl
                try simp only [Act.put, List.setIfInBounds_toArray, List.set_cons_zero, List.set_cons_succ]
                refine wpAnyH_take (i := 11) (oi := ⟨some 84, Op.move (Operand.tmp 12), 3, _, _, some (10, true)⟩) (v := ?v11n7k12) rfl (by kernel_rfl) (by kernel_rfl) (by kernel_rfl) (fun _ _ _ h => h) (Or.inl ⟨by rfl, ?y11n7k12⟩) hHeld ?z11n7k12
                case y11n7k12 => intro w hSw; (try dsimp only at hSw); go_simp <;> rfl
                try simp only [Act.put, List.setIfInBounds_toArray, List.set_cons_zero, List.set_cons_succ]
                refine wpAnyH_take (i := 12) (oi := ⟨some 85, Op.move (Operand.tmp 1), 33, _, _, some (10, true)⟩) (v := ?v12n7k13) rfl (by kernel_rfl) (by kernel_rfl) (by kernel_rfl) (fun _ _ _ h => h) (Or.inl ⟨by rfl, ?y12n7k13⟩) hHeld ?z12n7k13
                case y12n7k13 => intro w hSw; (try dsimp only at hSw); go_simp <;> rfl
                try simp only [Act.put, List.setIfInBounds_toArray, List.set_cons_zero, List.set_cons_succ]
                refine wpAnyH_take (i := 13) (oi := ⟨some 86, Op.convert 33 3 (Operand.tmp 85), 3, _, _, some (10, true)⟩) (v := ?v13n7k14) rfl (by kernel_rfl) (by kernel_rfl) (by kernel_rfl) (fun _ _ _ h => h) (Or.inl ⟨by rfl, ?y13n7k14⟩) hHeld ?z13n7k14
                case y13n7k14 => intro w hSw; (try dsimp only at hSw); go_simp <;> rfl
                try simp only [Act.put, List.setIfInBounds_toArray, List.set_cons_zero, List.set_cons_succ]
                refine wpAnyH_take (i := 14) (oi := ⟨some 87, Op.binOp BinOp.eql 3 (Operand.tmp 84) (Operand.tmp 86) 3, 4, _, _, some (10, true)⟩) (v := ?v14n7k15) rfl (by kernel_rfl) (by kernel_rfl) (by kernel_rfl) (fun _ _ _ h => h) (Or.inl ⟨by rfl, ?y14n7k15⟩) hHeld ?z14n7k15
                case y14n7k15 => intro w hSw; (try dsimp only at hSw); go_simp <;> rfl
                try simp only [Act.put, List.setIfInBounds_toArray, List.set_cons_zero, List.set_cons_succ]
                refine wpAnyH_take (i := 15) (oi := ⟨some 88, Op.pick (Operand.tmp 83) (Operand.tmp 87) (Operand.const (Value.bool false)), 4, _, _, none⟩) (v := ?v15n7k16) rfl (by kernel_rfl) (by kernel_rfl) (by kernel_rfl) (fun _ _ _ h => h) (Or.inl ⟨by rfl, ?y15n7k16⟩) hHeld ?z15n7k16
                case y15n7k16 => intro w hSw; (try dsimp only at hSw); go_simp <;> rfl
                try simp only [Act.put, List.setIfInBounds_toArray, List.set_cons_zero, List.set_cons_succ]
                refine wpAnyH_take (i := 16) (oi := ⟨some 89, Op.move (Operand.tmp 88), 4, _, _, none⟩) (v := ?v16n7k17) rfl (by kernel_rfl) (by kernel_rfl) (by kernel_rfl) (fun _ _ _ h => h) (Or.inl ⟨by rfl, ?y16n7k17⟩) hHeld ?z16n7k17
                case y16n7k17 => intro w hSw; (try dsimp only at hSw); go_simp <;> rfl
                try simp only [Act.put, List.setIfInBounds_toArray, List.set_cons_zero, List.set_cons_succ]
                refine wpAnyH_take (i := 17) (oi := ⟨some 90, Op.move (Operand.tmp 2), 5, _, _, some (16, true)⟩) (v := ?v17n7k18) rfl (by kernel_rfl) (by kernel_rfl) (by kernel_rfl) (fun _ _ _ h => h) (Or.inl ⟨by rfl, ?y17n7k18⟩) hHeld ?z17n7k18
                case y17n7k18 => intro w hSw; (try dsimp only at hSw); go_simp <;> rfl
                try simp only [Act.put, List.setIfInBounds_toArray, List.set_cons_zero, List.set_cons_succ]
                refine wpAnyH_take (i := 18) (oi := ⟨some 91, Op.binOp BinOp.neq 5 (Operand.tmp 90) (Operand.const (Value.int IntKind.u8 0)) 5, 4, _, _, some (16, true)⟩) (v := ?v18n7k19) rfl (by kernel_rfl) (by kernel_rfl) (by kernel_rfl) (fun _ _ _ h => h) (Or.inl ⟨by rfl, ?y18n7k19⟩) hHeld ?z18n7k19
                case y18n7k19 => intro w hSw; (try dsimp only at hSw); go_simp <;> rfl
                try simp only [Act.put, List.setIfInBounds_toArray, List.set_cons_zero, List.set_cons_succ]
                refine wpAnyH_take (i := 19) (oi := ⟨some 92, Op.pick (Operand.tmp 89) (Operand.tmp 91) (Operand.const (Value.bool false)), 4, _, _, none⟩) (v := ?v19n7k20) rfl (by kernel_rfl) (by kernel_rfl) (by kernel_rfl) (fun _ _ _ h => h) (Or.inl ⟨by rfl, ?y19n7k20⟩) hHeld ?z19n7k20
                case y19n7k20 => intro w hSw; (try dsimp only at hSw); go_simp <;> rfl
                try simp only [Act.put, List.setIfInBounds_toArray, List.set_cons_zero, List.set_cons_succ]
                refine wpAnyH_take (i := 20) (oi := ⟨some 93, Op.binOp BinOp.eql 4 (Operand.tmp 81) (Operand.tmp 92) 4, 4, _, _, none⟩) (v := ?v20n7k21) rfl (by kernel_rfl) (by kernel_rfl) (by kernel_rfl) (fun _ _ _ h => h) (Or.inl ⟨by rfl, ?y20n7k21⟩) hHeld ?z20n7k21
                case y20n7k21 => intro w hSw; (try dsimp only at hSw); go_simp <;> rfl
                try simp only [Act.put, List.setIfInBounds_toArray, List.set_cons_zero, List.set_cons_succ]
                refine wpAnyH_done (by kernel_rfl) ?_ _
                refine NoPanic.normal ?_
                go_wp2
                go_roundw
                case rel => exact ⟨k + 1, by omega, by go_num, kk.step (Kept.drew noBlock wr)⟩
                case measure => simp [intOf]; omega
            · have hzx := eqT (HTA.out.2 (fun h9 => hkj (by omega)))
              have hne : ((k : Int) == (j : Int)) = false := by rw [beq_eq_false_iff_ne]; omega
              clear eqT eqF
              subst hj
              go_upto_region 15 with (fail)
              refine wp_region_noPanic ?_
              refine wp_region_held_drew (S := fun w' => w'.cell? ⟨g, o + k, none⟩ = some (.int .u8 (z.toNat : Int)) ∧ w'.cell? ⟨g2, o2 + k, none⟩ = some (.int .u8 (x.toNat : Int))) (by kernel_rfl) ⟨cx, cb⟩ (fun hHeld => ?_)
              refine wpAnyH_take (i := 0) (oi := ⟨some 73, Op.move (Operand.tmp 9), 32, _, _, none⟩) (v := ?v0n8k1) rfl (by kernel_rfl) (by kernel_rfl) (by kernel_rfl) (fun _ _ _ h => h) (Or.inl ⟨by rfl, ?y0n8k1⟩) hHeld ?z0n8k1
              case y0n8k1 => intro w hSw; (try dsimp only at hSw); go_simp <;> rfl
              try simp only [Act.put, List.setIfInBounds_toArray, List.set_cons_zero, List.set_cons_succ]
              refine wpAnyH_take (i := 1) (oi := ⟨some 74, Op.move (Operand.tmp 12), 3, _, _, none⟩) (v := ?v1n8k2) rfl (by kernel_rfl) (by kernel_rfl) (by kernel_rfl) (fun _ _ _ h => h) (Or.inl ⟨by rfl, ?y1n8k2⟩) hHeld ?z1n8k2
              case y1n8k2 => intro w hSw; (try dsimp only at hSw); go_simp <;> rfl
              try simp only [Act.put, List.setIfInBounds_toArray, List.set_cons_zero, List.set_cons_succ]
              refine wpAnyH_take (i := 2) (oi := ⟨some 75, Op.indexAddr 32 (Operand.tmp 73) (Operand.tmp 74), 0, _, _, none⟩) (v := ?v2n8k3) rfl (by kernel_rfl) (by kernel_rfl) (by kernel_rfl) (fun _ _ _ h => h) (Or.inl ⟨by rfl, ?y2n8k3⟩) hHeld ?z2n8k3
              case y2n8k3 => intro w hSw; (try dsimp only at hSw); go_simp <;> rfl
              try simp only [Act.put, List.setIfInBounds_toArray, List.set_cons_zero, List.set_cons_succ]
              refine wpAnyH_take (i := 3) (oi := ⟨some 76, Op.load 5 (Operand.tmp 75), 5, _, _, none⟩) (v := ?v3n8k4) rfl (by kernel_rfl) (by kernel_rfl) (by kernel_rfl) (fun _ _ _ h => h) (Or.inl ⟨by rfl, ?y3n8k4⟩) hHeld ?z3n8k4
              case y3n8k4 => intro w hSw; (try dsimp only at hSw); go_simp <;> rfl
              try simp only [Act.put, List.setIfInBounds_toArray, List.set_cons_zero, List.set_cons_succ]
              refine wpAnyH_take (i := 4) (oi := ⟨some 77, Op.move (Operand.tmp 0), 32, _, _, none⟩) (v := ?v4n8k5) rfl (by kernel_rfl) (by kernel_rfl) (by kernel_rfl) (fun _ _ _ h => h) (Or.inl ⟨by rfl, ?y4n8k5⟩) hHeld ?z4n8k5
              case y4n8k5 => intro w hSw; (try dsimp only at hSw); go_simp <;> rfl
              try simp only [Act.put, List.setIfInBounds_toArray, List.set_cons_zero, List.set_cons_succ]
              refine wpAnyH_take (i := 5) (oi := ⟨some 78, Op.move (Operand.tmp 12), 3, _, _, none⟩) (v := ?v5n8k6) rfl (by kernel_rfl) (by kernel_rfl) (by kernel_rfl) (fun _ _ _ h => h) (Or.inl ⟨by rfl, ?y5n8k6⟩) hHeld ?z5n8k6
              case y5n8k6 => intro w hSw; (try dsimp only at hSw); go_simp <;> rfl
              try simp only [Act.put, List.setIfInBounds_toArray, List.set_cons_zero, List.set_cons_succ]
              refine wpAnyH_take (i := 6) (oi := ⟨some 79, Op.indexAddr 32 (Operand.tmp 77) (Operand.tmp 78), 0, _, _, none⟩) (v := ?v6n8k7) rfl (by kernel_rfl) (by kernel_rfl) (by kernel_rfl) (fun _ _ _ h => h) (Or.inl ⟨by rfl, ?y6n8k7⟩) hHeld ?z6n8k7
              case y6n8k7 => intro w hSw; (try dsimp only at hSw); go_simp <;> rfl
              try simp only [Act.put, List.setIfInBounds_toArray, List.set_cons_zero, List.set_cons_succ]
              refine wpAnyH_take (i := 7) (oi := ⟨some 80, Op.load 5 (Operand.tmp 79), 5, _, _, none⟩) (v := ?v7n8k8) rfl (by kernel_rfl) (by kernel_rfl) (by kernel_rfl) (fun _ _ _ h => h) (Or.inl ⟨by rfl, ?y7n8k8⟩) hHeld ?z7n8k8
              case y7n8k8 => intro w hSw; (try dsimp only at hSw); go_simp <;> rfl
              try simp only [Act.put, List.setIfInBounds_toArray, List.set_cons_zero, List.set_cons_succ]
              refine wpAnyH_take (i := 8) (oi := ⟨some 81, Op.binOp BinOp.eql 5 (Operand.tmp 76) (Operand.tmp 80) 5, 4, _, _, none⟩) (v := ?v8n8k9) rfl (by kernel_rfl) (by kernel_rfl) (by kernel_rfl) (fun _ _ _ h => h) (Or.inl ⟨by rfl, ?y8n8k9⟩) hHeld ?z8n8k9
              case y8n8k9 => intro w hSw; (try dsimp only at hSw); go_simp <;> rfl
              try simp only [Act.put, List.setIfInBounds_toArray, List.set_cons_zero, List.set_cons_succ]
              refine wpAnyH_take (i := 9) (oi := ⟨some 82, Op.move (Operand.tmp 11), 4, _, _, none⟩) (v := ?v9n8k10) rfl (by kernel_rfl) (by kernel_rfl) (by kernel_rfl) (fun _ _ _ h => h) (Or.inl ⟨by rfl, ?y9n8k10⟩) hHeld ?z9n8k10
              case y9n8k10 => intro w hSw; (try dsimp only at hSw); go_simp <;> rfl
              try simp only [Act.put, List.setIfInBounds_toArray, List.set_cons_zero, List.set_cons_succ]
              refine wpAnyH_take (i := 10) (oi := ⟨some 83, Op.move (Operand.tmp 82), 4, _, _, none⟩) (v := ?v10n8k11) rfl (by kernel_rfl) (by kernel_rfl) (by kernel_rfl) (fun _ _ _ h => h) (Or.inl ⟨by rfl, ?y10n8k11⟩) hHeld ?z10n8k11
              case y10n8k11 => intro w hSw; (try dsimp only at hSw); go_simp <;> rfl
              try simp only [Act.put, List.setIfInBounds_toArray, List.set_cons_zero, List.set_cons_succ]
              refine wpAnyH_take (i := 11) (oi := ⟨some 84, Op.move (Operand.tmp 12), 3, _, _, some (10, true)⟩) (v := ?v11n8k12) rfl (by kernel_rfl) (by kernel_rfl) (by kernel_rfl) (fun _ _ _ h => h) (Or.inl ⟨by rfl, ?y11n8k12⟩) hHeld ?z11n8k12
              case y11n8k12 => intro w hSw; (try dsimp only at hSw); go_simp <;> rfl
              try simp only [Act.put, List.setIfInBounds_toArray, List.set_cons_zero, List.set_cons_succ]
              refine wpAnyH_take (i := 12) (oi := ⟨some 85, Op.move (Operand.tmp 1), 33, _, _, some (10, true)⟩) (v := ?v12n8k13) rfl (by kernel_rfl) (by kernel_rfl) (by kernel_rfl) (fun _ _ _ h => h) (Or.inl ⟨by rfl, ?y12n8k13⟩) hHeld ?z12n8k13
              case y12n8k13 => intro w hSw; (try dsimp only at hSw); go_simp <;> rfl
              try simp only [Act.put, List.setIfInBounds_toArray, List.set_cons_zero, List.set_cons_succ]
              refine wpAnyH_take (i := 13) (oi := ⟨some 86, Op.convert 33 3 (Operand.tmp 85), 3, _, _, some (10, true)⟩) (v := ?v13n8k14) rfl (by kernel_rfl) (by kernel_rfl) (by kernel_rfl) (fun _ _ _ h => h) (Or.inl ⟨by rfl, ?y13n8k14⟩) hHeld ?z13n8k14
              case y13n8k14 => intro w hSw; (try dsimp only at hSw); go_simp <;> rfl
              try simp only [Act.put, List.setIfInBounds_toArray, List.set_cons_zero, List.set_cons_succ]
              refine wpAnyH_take (i := 14) (oi := ⟨some 87, Op.binOp BinOp.eql 3 (Operand.tmp 84) (Operand.tmp 86) 3, 4, _, _, some (10, true)⟩) (v := ?v14n8k15) rfl (by kernel_rfl) (by kernel_rfl) (by kernel_rfl) (fun _ _ _ h => h) (Or.inl ⟨by rfl, ?y14n8k15⟩) hHeld ?z14n8k15
              case y14n8k15 => intro w hSw; (try dsimp only at hSw); go_simp <;> rfl
              try simp only [Act.put, List.setIfInBounds_toArray, List.set_cons_zero, List.set_cons_succ]
              refine wpAnyH_take (i := 15) (oi := ⟨some 88, Op.pick (Operand.tmp 83) (Operand.tmp 87) (Operand.const (Value.bool false)), 4, _, _, none⟩) (v := ?v15n8k16) rfl (by kernel_rfl) (by kernel_rfl) (by kernel_rfl) (fun _ _ _ h => h) (Or.inl ⟨by rfl, ?y15n8k16⟩) hHeld ?z15n8k16
              case y15n8k16 => intro w hSw; (try dsimp only at hSw); go_simp <;> rfl
              try simp only [Act.put, List.setIfInBounds_toArray, List.set_cons_zero, List.set_cons_succ]
              refine wpAnyH_take (i := 16) (oi := ⟨some 89, Op.move (Operand.tmp 88), 4, _, _, none⟩) (v := ?v16n8k17) rfl (by kernel_rfl) (by kernel_rfl) (by kernel_rfl) (fun _ _ _ h => h) (Or.inl ⟨by rfl, ?y16n8k17⟩) hHeld ?z16n8k17
              case y16n8k17 => intro w hSw; (try dsimp only at hSw); go_simp <;> rfl
              try simp only [Act.put, List.setIfInBounds_toArray, List.set_cons_zero, List.set_cons_succ]
              refine wpAnyH_take (i := 17) (oi := ⟨some 90, Op.move (Operand.tmp 2), 5, _, _, some (16, true)⟩) (v := undef) rfl (by kernel_rfl) (by kernel_rfl) (by kernel_rfl) (fun _ _ _ h => h) (Or.inr ⟨by rfl, rfl⟩) hHeld ?z17n8k18
              try simp only [Act.put, List.setIfInBounds_toArray, List.set_cons_zero, List.set_cons_succ]
              refine wpAnyH_take (i := 18) (oi := ⟨some 91, Op.binOp BinOp.neq 5 (Operand.tmp 90) (Operand.const (Value.int IntKind.u8 0)) 5, 4, _, _, some (16, true)⟩) (v := undef) rfl (by kernel_rfl) (by kernel_rfl) (by kernel_rfl) (fun _ _ _ h => h) (Or.inr ⟨by rfl, rfl⟩) hHeld ?z18n8k19
              try simp only [Act.put, List.setIfInBounds_toArray, List.set_cons_zero, List.set_cons_succ]
              refine wpAnyH_take (i := 19) (oi := ⟨some 92, Op.pick (Operand.tmp 89) (Operand.tmp 91) (Operand.const (Value.bool false)), 4, _, _, none⟩) (v := ?v19n8k20) rfl (by kernel_rfl) (by kernel_rfl) (by kernel_rfl) (fun _ _ _ h => h) (Or.inl ⟨by rfl, ?y19n8k20⟩) hHeld ?z19n8k20
              case y19n8k20 => intro w hSw; (try dsimp only at hSw); go_simp <;> rfl
              try simp only [Act.put, List.setIfInBounds_toArray, List.set_cons_zero, List.set_cons_succ]
              refine wpAnyH_take (i := 20) (oi := ⟨some 93, Op.binOp BinOp.eql 4 (Operand.tmp 81) (Operand.tmp 92) 4, 4, _, _, none⟩) (v := ?v20n8k21) rfl (by kernel_rfl) (by kernel_rfl) (by kernel_rfl) (fun _ _ _ h => h) (Or.inl ⟨by rfl, ?y20n8k21⟩) hHeld ?z20n8k21
              case y20n8k21 => intro w hSw; (try dsimp only at hSw); go_simp <;> rfl
              try simp only [Act.put, List.setIfInBounds_toArray, List.set_cons_zero, List.set_cons_succ]
              refine wpAnyH_done (by kernel_rfl) ?_ _
              refine NoPanic.normal ?_
              go_wp2
              go_roundw
              case rel => exact ⟨k + 1, by omega, by go_num, kk.step (Kept.drew noBlock wr)⟩
              case measure => simp [intOf]; omega
        · obtain rfl : k = m := by omega
          go_wp2
          go_ret
          exact ⟨rfl, KW.out.step kk⟩
end Go.Proofs.Ytaelkmcohdfboaa
