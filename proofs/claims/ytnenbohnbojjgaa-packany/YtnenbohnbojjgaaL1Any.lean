/-
  PackAny: what it does with whatever bytes. No statement is proved here.
-/
import Derived.Test.YtnenbohnbojjgaaL1Awake
import Derived.Deep.DeepCutAuto
namespace Go.Proofs.Ytnenbohnbojjgaa
open Go.RowKit

/-- What stands at a place, and where it ends: the number, the place behind it, and whether it is not there. -/
def stands (l : List UInt8) (pos : Nat) (bad : Bool) (L : Nat) : Int × Nat × Bool :=
  if bad = true ∨ l.length < pos + L then (0, pos, true) else (wrap64 (rdU ((l.drop pos).take L)), pos + L, false)

theorem stands_inv {l : List UInt8} {pos L p : Nat} {bad f : Bool} {N : Int} (h : (N, p, f) = stands l pos bad L) :
    (f = true ∧ N = 0 ∧ p = pos ∧ (bad = true ∨ l.length < pos + L)) ∨ (f = false ∧ bad = false ∧ pos + L ≤ l.length ∧ N = wrap64 (rdU ((l.drop pos).take L)) ∧ p = pos + L) := by
  unfold stands at h
  split at h
  · rename_i hc
    simp only [Prod.mk.injEq] at h
    exact .inl ⟨h.2.2, h.1, h.2.1, hc⟩
  · rename_i hc
    simp only [Prod.mk.injEq] at h
    refine .inr ⟨h.2.2, ?_, by omega, h.1, h.2.1⟩
    cases bad
    · rfl
    · exact absurd (.inl rfl) hc
theorem stands_flag {l : List UInt8} {pos L p : Nat} {bad f : Bool} {N : Int} (h : (N, p, f) = stands l pos bad L) : f = (bad || decide (l.length < pos + L)) := by
  rcases stands_inv h with ⟨rfl, _, _, h | h⟩ | ⟨rfl, rfl, h, _⟩
  · simp [h]
  · simp [h]
  · simp; omega

theorem wrap_step (a : Nat) (x : UInt8) : wrap64 (wrap64 (wrap64 (a : Int) * 256) + wrap64 (x.toNat : Int)) = wrap64 ((a * 256 + x.toNat : Nat) : Int) := by
  unfold wrap64
  omega

/-- How the statement's own place and the Reader stand to each other. -/
def Along (l : List UInt8) (pos : Nat) (bad : Bool) (r : List UInt8) : Prop := pos ≤ l.length ∧ (bad = false → r = l.drop pos)

/-- The text that stands behind its length. -/
def textStands (l : List UInt8) (p : Nat) (f : Bool) (N : Int) : List UInt8 × Nat × Bool :=
  if f = true then ([], p, true) else if N < 0 ∨ (l.length : Int) < p + N then ([], p, true) else ((l.drop p).take N.toNat, p + N.toNat, false)

theorem Along.num {l r : List UInt8} {pos p : Nat} {bad f : Bool} {N : Int} (hal : Along l pos bad r) (h : (N, p, f) = stands l pos bad 8) : ∃ r', rNum r bad = (N, r', f) ∧ Along l p f r' := by
  rcases stands_inv h with ⟨rfl, rfl, rfl, hc⟩ | ⟨rfl, rfl, hc, rfl, rfl⟩
  · refine ⟨r, ?_, hal.1, fun h => by cases h⟩
    unfold rNum
    rw [if_pos]
    rcases hc with h | h
    · exact .inl h
    · cases bad
      · have := hal.2 rfl
        exact .inr (by rw [this, List.length_drop]; omega)
      · exact .inl rfl
  · have hr := hal.2 rfl
    subst hr
    refine ⟨_, ?_, hc, fun _ => rfl⟩
    unfold rNum
    rw [if_neg (by simp; omega), List.drop_drop]
    rfl
theorem Along.byte {l r : List UInt8} {pos p : Nat} {bad f : Bool} {N : Int} (hal : Along l pos bad r) (h : (N, p, f) = stands l pos bad 1) : ∃ r' c, rByte r bad = (c, r', f) ∧ N = (c.toNat : Int) ∧ Along l p f r' := by
  rcases stands_inv h with ⟨rfl, rfl, rfl, hc⟩ | ⟨rfl, rfl, hc, rfl, rfl⟩
  · refine ⟨r, 0, ?_, rfl, hal.1, fun h => by cases h⟩
    unfold rByte
    rw [if_pos]
    rcases hc with h | h
    · exact .inl h
    · cases bad
      · have := hal.2 rfl
        exact .inr (by rw [this, List.length_drop]; omega)
      · exact .inl rfl
  · have hr := hal.2 rfl
    subst hr
    obtain ⟨y, hy⟩ : ∃ y, l[pos]? = some y := ⟨_, List.getElem?_eq_getElem (by omega)⟩
    refine ⟨l.drop (pos + 1), y, ?_, ?_, hc, fun _ => rfl⟩
    · unfold rByte
      rw [if_neg (by simp; omega), List.drop_drop, List.headD_eq_head?_getD, List.head?_drop, hy]
      rfl
    · have : (l.drop pos).take 1 = [y] := by
        rw [show 1 = 0 + 1 from rfl, take_snoc (l.drop pos) 0 y (by rw [List.getElem?_drop]; exact hy)]
        simp
      rw [this]
      have hlt := y.toNat_lt
      simp only [rdU, List.foldl_cons, List.foldl_nil, wrap64]
      omega
theorem Along.text {l r t : List UInt8} {pos p p2 : Nat} {bad f f2 : Bool} {N : Int} (hal : Along l pos bad r) (h : (N, p, f) = stands l pos bad 8) (ht : (t, p2, f2) = textStands l p f N) :
    ∃ r', rText r bad = (t, r', f2) ∧ Along l p2 f2 r' := by
  obtain ⟨r1, e1, hal1⟩ := hal.num h
  unfold rText
  rw [e1]
  unfold textStands at ht
  cases f
  · rw [if_neg (by simp)] at ht
    have hr := hal1.2 rfl
    subst hr
    simp only [Bool.false_eq_true, false_or]
    have hlen : ((l.drop p).length : Int) < N ↔ (l.length : Int) < p + N := by
      have := hal1.1
      rw [List.length_drop]
      omega
    by_cases hc : N < 0 ∨ (l.length : Int) < p + N
    · rw [if_pos hc] at ht
      simp only [Prod.mk.injEq] at ht
      obtain ⟨rfl, rfl, rfl⟩ := ht
      rw [if_pos (by rw [hlen]; exact hc)]
      exact ⟨_, rfl, hal1.1, fun h => by cases h⟩
    · rw [if_neg hc] at ht
      simp only [Prod.mk.injEq] at ht
      obtain ⟨rfl, rfl, rfl⟩ := ht
      rw [if_neg (by rw [hlen]; exact hc), List.drop_drop]
      exact ⟨_, rfl, by omega, fun _ => rfl⟩
  · rw [if_pos rfl] at ht
    simp only [Prod.mk.injEq] at ht
    obtain ⟨rfl, rfl, rfl⟩ := ht
    simp only [true_or, if_true]
    exact ⟨_, rfl, hal1.1, fun h => by cases h⟩

set_option maxRecDepth 100000 in
set_option maxHeartbeats 4000000 in
theorem any_walk (F : Nat → Prop) (a a' : Option Addr) (n c n' c' : Nat) (l l' : List UInt8) (w : World) (h : Lies w F a (l.map bv)) (h' : Lies w F a' (l'.map bv)) (hl : l.length = n) (hl' : l'.length = n')
    (hnc : n ≤ c) (hnc' : n' ≤ c') (hn : n ≤ 140737488355328) (hn63' : n' ≤ 9223372036854775807) :
    Calls Try.prog 5 #[.slice a n c, .slice a' n' c'] w fun e w' => e = .returned (.bool true) ∧ Kept noBlock w w' := by
  go_enter Try.func5, Try.ntmps5
  go_wp2_with fail
  refine (awake_any w).mono ?_
  rintro e w1 ⟨rfl, k1⟩
  go_wp2_with fail
  refine (of_any F a n c l w1 (h.keep k1 (fun _ _ h => h)) hl hn).mono ?_
  rintro e w2 ⟨b, rfl, h2, k2⟩
  have k12 := k1.step k2
  go_upto_region 5 with (fail)
  go_cut [23, 24, 25] (fun s t i wc => w2 = wc ∧ s = .slice a' (min n' 100) c' ∧ t = .int .i64 ((min n' 100 : Nat) : Int) ∧ i = .int .i64 0)
  case first =>
    go_wp2
    all_goals
      go_meet
      case rel => exact ⟨rfl, by congr 1; omega, by go_num, rfl⟩
  case rest =>
    obtain ⟨rfl, rfl, rfl, rfl⟩ := hcut
    obtain ⟨ks, hks⟩ : ∃ ks, ks = l'.take (min n' 100) := ⟨_, rfl⟩
    have hkl : min n' 100 = ks.length := by rw [hks, List.length_take]; omega
    have hk100 : ks.length ≤ 100 := by omega
    have hk : Lies w1 F a' (ks.map bv) := by
      rw [hks, List.map_take]
      exact (h'.take _).keep k1 (fun _ _ h => h)
    have hlc : Lies w1 F a (l.map bv) := h.keep k1 (fun _ _ h => h)
    rw [hkl]
    clear hks hkl h h'
    go_wp2
    go_loopw [6, 7, 25] (fun p q i wr => ∃ (k pos : Nat) (bad : Bool) (r : List UInt8), k ≤ ks.length ∧ i = .int .i64 k ∧ p = .int .i64 pos ∧ q = .bool bad ∧ Along l pos bad r ∧ Kept noBlock w1 wr ∧ Rd wr (fresh w1 w2) b r bad) (fun _ _ i _ => ks.length - (intOf i).toNat)
    case atStart => exact ⟨0, 0, false, l, by omega, rfl, rfl, rfl, ⟨Nat.zero_le _, fun _ => rfl⟩, k2, h2⟩
    case round =>
      obtain ⟨k, pos, bad, r, hk1, rfl, rfl, rfl, hal, hkept, hr⟩ := hrel
      by_cases hlt : k < ks.length
      · obtain ⟨x, hx⟩ : ∃ x, ks[k]? = some x := ⟨_, List.getElem?_eq_getElem hlt⟩
        obtain ⟨ad, rfl, _, hcell⟩ := (hk.keep hkept (fun _ _ h => h)).at_ (k := k) (u := bv x) (by simp [hx])
        unfold bv at hcell
        clear hx
        have hpos : pos ≤ n := by have := hal.1; omega
        obtain ⟨L, hL⟩ : ∃ L : Nat, L = if x.toNat % 3 = 1 then 1 else 8 := ⟨_, rfl⟩
        have hL8 : L = 1 ∨ L = 8 := by rw [hL]; split <;> simp
        go_upto_if 31 with (fail)
        go_cut [11] (fun s wc2 => wr = wc2 ∧ s = .int .i64 (L : Int))
        case first =>
          have HL := Lib.hid hL
          clear hL hL8
          go_wp2
          all_goals
            go_meet
            case rel =>
              refine ⟨rfl, ?_⟩
              rw [HL.out]
              first
              | rw [if_pos (by have h3 : ((x.toNat : Int) % 3 == 1) = true := by assumption
                               have := of_decide_eq_true h3; omega)]; rfl
              | rw [if_neg (by have h3 : ((x.toNat : Int) % 3 == 1) = false := by assumption
                               have := of_decide_eq_false h3; omega)]; rfl
        case rest =>
          obtain ⟨rfl, rfl⟩ := hcut
          have HL := Lib.hid hL
          clear hL
          obtain ⟨q, hq⟩ : ∃ q, q = stands l pos bad L := ⟨_, rfl⟩
          obtain ⟨N, pos1, bad1⟩ := q
          have HQ := Lib.hid hq
          have HB1 := Lib.hid (stands_flag hq)
          clear hq
          go_upto_region 11 with (fail)
          go_cut [7] (fun s w3 => wr = w3 ∧ s = .bool bad1)
          case first =>
            have hb := HB1.out
            cases bad
            · go_wp2
              go_meet
              case rel => exact ⟨rfl, by rw [hb]; congr 1; rw [Bool.false_or]; exact decide_eq_decide.2 (by omega)⟩
            · go_wp2
              go_meet
              case rel => exact ⟨rfl, by rw [hb]; rfl⟩
          case rest =>
            obtain ⟨rfl, rfl⟩ := hcut
            go_upto_if 42 with (fail)
            go_cut [6, 10] (fun s t w3 => wr = w3 ∧ s = .int .i64 (pos1 : Int) ∧ t = .int .i64 N)
            case first =>
              rcases stands_inv HQ.out with ⟨rfl, rfl, rfl, hcase⟩ | ⟨rfl, rfl, hpl, rfl, rfl⟩
              · clear hcase
                go_wp2
                go_meet
                case rel => exact ⟨rfl, rfl, rfl⟩
              · clear HQ HB1
                go_wp2
                go_loop [10, 50] (fun s i => ∃ j : Nat, j ≤ L ∧ i = .int .i64 j ∧ s = .int .i64 (wrap64 (rdU ((l.drop pos).take j)))) (fun _ i => L - (intOf i).toNat)
                case atStart => exact ⟨0, by omega, rfl, by simp [rdU, wrap64]⟩
                case round =>
                  obtain ⟨j, hj, rfl, rfl⟩ := hrel
                  by_cases hjl : j < L
                  · obtain ⟨y, hy⟩ : ∃ y, l[pos + j]? = some y := ⟨_, List.getElem?_eq_getElem (by omega)⟩
                    obtain ⟨ad0, rfl, _, hc0⟩ := (hlc.keep hkept (fun _ _ h => h)).at_ (k := pos + j) (u := bv y) (by simp [hy])
                    rw [← add_add] at hc0
                    unfold bv at hc0
                    have hts := take_snoc (l.drop pos) j y (by rw [List.getElem?_drop]; exact hy)
                    have HS := Lib.hid (wrap_step (rdU ((l.drop pos).take j)) y)
                    have HT := Lib.hid hts
                    clear hts hy
                    go_wp2
                    go_round
                    case rel => exact ⟨j + 1, by omega, by go_num, by rw [HT.out, rdU_snoc, ← HS.out]⟩
                    case measure => simp [intOf]; omega
                  · obtain rfl : j = L := by omega
                    go_wp2
                    go_meet
                    case rel => exact ⟨rfl, by go_num, rfl⟩
            case rest =>
              obtain ⟨rfl, rfl, rfl⟩ := hcut
              have hp1 : pos1 ≤ n := by
                rcases stands_inv HQ.out with ⟨_, _, rfl, _⟩ | ⟨_, _, hpl, _, rfl⟩ <;> omega
              have hNb : -9223372036854775808 ≤ N ∧ N ≤ 9223372036854775807 := by
                rcases stands_inv HQ.out with ⟨_, rfl, _, _⟩ | ⟨_, _, _, rfl, _⟩
                · omega
                · unfold wrap64; omega
              clear HB1
              have hx3 : x.toNat % 3 = 2 ∨ x.toNat % 3 ≠ 2 := by omega
              rcases hx3 with hx3 | hx3
              · have t2 : ((x.toNat : Int) % 3 == 2) = true := by simp; omega
                obtain ⟨⟨t, pos2, bad2⟩, hts⟩ : ∃ q, q = textStands l pos1 bad1 N := ⟨_, rfl⟩
                have HTS := Lib.hid hts
                go_upto_if 69 with (fail)
                go_cut [6, 7, 14] (fun s q u w3 => wr = w3 ∧ s = .int .i64 (pos2 : Int) ∧ q = .bool bad2 ∧ u = .string ⟨t.toArray⟩)
                case first =>
                  unfold textStands at hts
                  cases bad1
                  · rw [if_neg (by simp)] at hts
                    by_cases hN : N < 0
                    · rw [if_pos (.inl hN)] at hts
                      simp only [Prod.mk.injEq] at hts
                      obtain ⟨rfl, rfl, rfl⟩ := hts
                      go_wp2
                      go_meet
                      case rel => exact ⟨rfl, rfl, rfl, rfl⟩
                    · by_cases hN2 : (l.length : Int) < pos1 + N
                      · rw [if_pos (.inr hN2)] at hts
                        simp only [Prod.mk.injEq] at hts
                        obtain ⟨rfl, rfl, rfl⟩ := hts
                        have hd1 : decide ((n : Int) - (pos2 : Int) < N) = true := decide_eq_true (by omega)
                        clear hN2
                        go_wp2
                        go_meet
                        case rel => exact ⟨rfl, rfl, rfl, rfl⟩
                      · rw [if_neg (by omega)] at hts
                        simp only [Prod.mk.injEq] at hts
                        obtain ⟨rfl, rfl, rfl⟩ := hts
                        obtain ⟨M, rfl⟩ : ∃ M : Nat, N = M := Int.eq_ofNat_of_zero_le (by omega)
                        have hd1 : decide ((n : Int) - (pos1 : Int) < (M : Int)) = false := decide_eq_false (by omega)
                        have hpM : pos1 + M ≤ n := by omega
                        have hlt := (((hlc.keep hkept (fun _ _ h => h)).drop pos1 (cap := c) (by simpa [hl] using hnc)).take M)
                        rw [← List.map_drop, ← List.map_take] at hlt
                        have hcv := fun c => run_str_lies (P := Try.prog) 25 9 5 Try.underlying25 Try.underlying5 Try.underlying9 hlt (n := M) (by rw [List.length_take, List.length_drop]; omega) c
                        clear hN2 hlt hN
                        obtain ⟨A1, hA1⟩ : ∃ A1, (if c = pos1 then a else Option.map (fun x => x.add pos1) a) = A1 := ⟨_, rfl⟩
                        rw [hA1] at hcv
                        go_wp2
                        go_meet
                        case rel => exact ⟨rfl, by go_num, rfl, rfl⟩
                  · rw [if_pos rfl] at hts
                    simp only [Prod.mk.injEq] at hts
                    obtain ⟨rfl, rfl, rfl⟩ := hts
                    go_wp2
                    go_meet
                    case rel => exact ⟨rfl, rfl, rfl, rfl⟩
                case rest =>
                  obtain ⟨rfl, rfl, rfl, rfl⟩ := hcut
                  have t0 : ((x.toNat : Int) % 3 == 0) = false := by simp; omega
                  have t1 : ((x.toNat : Int) % 3 == 1) = false := by simp; omega
                  have hL8' : L = 8 := by rw [HL.out, if_neg (by omega)]
                  have hq1 : (N, pos1, bad1) = stands l pos bad 8 := by have := HQ.out; rwa [hL8'] at this
                  obtain ⟨r', e', hal'⟩ := hal.text hq1 HTS.out
                  clear hx3 HL HQ HTS hts hq1 hL8' hL8
                  go_wp2_with fail
                  refine (rtext_any b _ r bad wr hr).mono ?_
                  rw [e']
                  rintro e w5 ⟨rfl, h5, k5⟩
                  simp only at h5
                  clear e'
                  go_wp2_with fail
                  refine (rbad_any b _ _ _ w5 h5).mono ?_
                  rintro e w6 ⟨rfl, rfl⟩
                  go_wp2
                  go_roundw
                  case rel => exact ⟨k + 1, pos2, bad2, r', by omega, by go_num, rfl, rfl, hal', hkept.trans k5 (fun i hi h => by have := h2.foot.1; omega), h5⟩
                  case measure => simp [intOf]; omega
              · have t2 : ((x.toNat : Int) % 3 == 2) = false := by simp; omega
                by_cases hx1 : x.toNat % 3 = 1
                · have t0 : ((x.toNat : Int) % 3 == 0) = false := by simp; omega
                  have t1 : ((x.toNat : Int) % 3 == 1) = true := by simp; omega
                  have hL8' : L = 1 := by rw [HL.out, if_pos hx1]
                  have hq1 : (N, pos1, bad1) = stands l pos bad 1 := by have := HQ.out; rwa [hL8'] at this
                  obtain ⟨r', y, e', rfl, hal'⟩ := hal.byte hq1
                  have hy256 : (y.toNat : Int) ≤ 255 := by have := y.toNat_lt; omega
                  clear hx1 hx3 HL HQ hNb hq1 hL8' hL8
                  go_wp2_with fail
                  refine (rbyte_any b _ r bad wr hr).mono ?_
                  rw [e']
                  rintro e w5 ⟨rfl, h5, k5⟩
                  simp only at h5
                  clear e'
                  go_wp2_with fail
                  refine (rbad_any b _ _ _ w5 h5).mono ?_
                  rintro e w6 ⟨rfl, rfl⟩
                  go_wp2
                  go_roundw
                  case rel => exact ⟨k + 1, pos1, bad1, r', by omega, by go_num, rfl, rfl, hal', hkept.trans k5 (fun i hi h => by have := h2.foot.1; omega), h5⟩
                  case measure => simp [intOf]; omega
                · have t0 : ((x.toNat : Int) % 3 == 0) = true := by simp; omega
                  have t1 : ((x.toNat : Int) % 3 == 1) = false := by simp; omega
                  have hL8' : L = 8 := by rw [HL.out, if_neg hx1]
                  have hq1 : (N, pos1, bad1) = stands l pos bad 8 := by have := HQ.out; rwa [hL8'] at this
                  obtain ⟨r', e', hal'⟩ := hal.num hq1
                  clear hx1 hx3 HL HQ hq1 hL8' hL8
                  go_wp2_with fail
                  refine (rnum_any b _ r bad wr hr).mono ?_
                  rw [e']
                  rintro e w5 ⟨rfl, h5, k5⟩
                  simp only at h5
                  clear e'
                  go_wp2_with fail
                  refine (rbad_any b _ _ _ w5 h5).mono ?_
                  rintro e w6 ⟨rfl, rfl⟩
                  go_wp2
                  go_roundw
                  case rel => exact ⟨k + 1, pos1, bad1, r', by omega, by go_num, rfl, rfl, hal', hkept.trans k5 (fun i hi h => by have := h2.foot.1; omega), h5⟩
                  case measure => simp [intOf]; omega
      · obtain rfl : k = ks.length := by omega
        go_wp2_with fail
        refine (rdone_any b _ _ _ _ hr).mono ?_
        rintro e w6 ⟨rfl, rfl⟩
        cases bad
        · have hr' := hal.2 rfl
          have hrd : r.isEmpty = ((pos : Int) == (n : Int)) := by
            have h1 := hal.1
            rw [hr']
            by_cases hp : pos = n
            · subst hp
              rw [← hl, List.drop_length]
              simp
            · have h2 : (l.drop pos).length ≠ 0 := by rw [List.length_drop]; omega
              cases hd : l.drop pos with
              | nil => rw [hd] at h2; simp at h2
              | cons y ys => simp; omega
          clear hr'
          go_wp2
          go_ret
          exact ⟨rfl, k1.step hkept⟩
        · go_wp2
          go_ret
          exact ⟨rfl, k1.step hkept⟩

end Go.Proofs.Ytnenbohnbojjgaa
