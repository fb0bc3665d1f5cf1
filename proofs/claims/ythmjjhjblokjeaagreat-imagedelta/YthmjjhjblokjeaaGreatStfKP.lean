/-
  Pairs, or sessions, whose keys rise: where a key stands. No statement is proved here.
-/
import Derived.Test.YthmjjhjblokjeaaGreatProg
import Derived.Test.YthmjjhjblokjeaaGreatRowK
import Derived.Test.YthmjjhjblokjeaaGreatStt
import Derived.IntWalk
namespace Go.Proofs.YthmjjhjblokjeaaGreat.KP
open Go.RowKit Srt Tot

def enc (p : ByteArray × (ByteArray × Bool)) : List Value := [.string p.1, .string p.1, .string p.2.1, .bool p.2.2]
def val (p : ByteArray × (ByteArray × Bool)) : Value := .agg #[.string p.1, .string p.1, .string p.2.1, .bool p.2.2]
theorem enc_len (p : ByteArray × (ByteArray × Bool)) : (enc p).length = 4 := rfl
theorem enc_one (p : ByteArray × (ByteArray × Bool)) : ∀ u ∈ enc p, u.oneCell' = true := by
  intro u hu
  simp only [enc, List.mem_cons, List.not_mem_nil, or_false] at hu
  rcases hu with rfl | rfl | rfl | rfl <;> rfl
def cells (L : List (ByteArray × (ByteArray × Bool))) : List Value := flat enc L
theorem cells_one (L : List (ByteArray × (ByteArray × Bool))) : ∀ u ∈ cells L, u.oneCell' = true := flat_one' enc_one L
theorem cells_len (L : List (ByteArray × (ByteArray × Bool))) : (cells L).length = L.length * 4 := flat_len enc_len L
def ek : ByteArray → Value := Value.string
def cmpr (x y : ByteArray) : Int := if lt x y = true then -1 else if lt y x = true then 1 else 0

set_option maxRecDepth 100000 in
set_option maxHeartbeats 1000000 in
theorem cmp_any (x y : ByteArray) (w : World) : Calls Tryz.prog 76 #[ek x, ek y] w fun e w' => e = .returned (.int .i64 (cmpr x y)) ∧ w = w' := by
  unfold ek
  cases h1 : lt x y with
  | true =>
    have hv : cmpr x y = -1 := by unfold cmpr; rw [if_pos h1]
    rw [hv]
    have f1 : Op.bytesLess x.toList y.toList = true := h1
    clear h1 hv
    go_enter Tryz.func76, Tryz.ntmps76
    go_wp2
    go_ret
    exact ⟨rfl, rfl⟩
  | false =>
    cases h2 : lt y x with
    | true =>
      have hv : cmpr x y = 1 := by unfold cmpr; rw [if_neg (by rw [h1]; simp), if_pos h2]
      rw [hv]
      have f2 : Op.bytesLess x.toList y.toList = false := h1
      have f3 : (x.toList == y.toList) = false := beq_false_of_ne (fun e => (ne_of_lt h2).symm ((toList_inj _ _).1 e))
      clear h1 h2 hv
      go_enter Tryz.func76, Tryz.ntmps76
      go_wp2
      go_ret
      exact ⟨rfl, rfl⟩
    | false =>
      have hv : cmpr x y = 0 := by unfold cmpr; rw [if_neg (by rw [h1]; simp), if_neg (by rw [h2]; simp)]
      rw [hv]
      obtain rfl := tot h1 h2
      have f4 : Op.bytesLess x.toList x.toList = false := irr x
      clear h1 h2 hv
      go_enter Tryz.func76, Tryz.ntmps76
      go_wp2
      go_ret
      exact ⟨rfl, rfl⟩

set_option maxRecDepth 100000 in
set_option maxHeartbeats 1000000 in
theorem cl_any (p : ByteArray × (ByteArray × Bool)) (k : ByteArray) (w : World) : Calls Tryz.prog 75 #[val p, ek k] w fun e w' => e = .returned (.int .i64 (cmpr p.1 k)) ∧ Kept noBlock w w' := by
  have HC := Lib.hid (cmp_any p.1 k)
  obtain ⟨r, hr⟩ : ∃ r, r = cmpr p.1 k := ⟨_, rfl⟩
  rw [← hr] at HC ⊢
  clear hr
  unfold ek at *
  unfold val
  go_enter Tryz.func75, Tryz.ntmps75
  go_wp2_with fail
  refine (HC.out _).mono ?_
  rintro e w1 ⟨rfl, rfl⟩
  go_wp2
  go_ret
  exact ⟨rfl, Kept.alloc _ _ _⟩

set_option maxRecDepth 100000 in
set_option maxHeartbeats 1000000 in
theorem bs_any (F : Nat → Prop) (a : Option Addr) (n c : Nat) (L : List (ByteArray × (ByteArray × Bool))) (k : ByteArray) (w : World) (h : Lies w F a (cells L)) (hl : L.length = n) (hc : n ≤ c) (hn : n ≤ 1099511627776) (hu : Up L) :
    Calls Tryz.prog 74 #[.slice a n c, ek k, .func (.func 75) #[] #[]] w fun e w' => e = .returned (.tuple #[.int .i64 (pos L k : Nat), .bool (has L k)]) ∧ Kept noBlock w w' := by
  have H := Lib.hid h; clear h
  have HL := Lib.hid hl; clear hl
  have HU := Lib.hid hu; clear hu
  obtain ⟨kv, hkv⟩ : ∃ kv, kv = ek k := ⟨_, rfl⟩
  rw [← hkv]
  have HK := Lib.hid hkv; clear hkv
  go_enter Tryz.func74, Tryz.ntmps74
  go_wp2
  go_loopw [9, 10] (fun p q wr => ∃ (i j : Nat), p = .int .i64 (i : Int) ∧ q = .int .i64 (j : Int) ∧ i ≤ j ∧ j ≤ n ∧ Hid (∀ (m : Nat) (x : ByteArray × (ByteArray × Bool)), m < i → L[m]? = some x → lt x.1 k = true) ∧ Hid (∀ x : ByteArray × (ByteArray × Bool), L[j]? = some x → lt x.1 k = false) ∧ Hid (Kept noBlock w wr)) (fun p q _ => (intOf q).toNat - (intOf p).toNat)
  case atStart => exact ⟨0, n, rfl, rfl, Nat.zero_le _, Nat.le_refl _, Lib.hid (fun m x hm => absurd hm (Nat.not_lt_zero _)), Lib.hid (fun x hx => by rw [List.getElem?_eq_none (by rw [HL.out]; exact Nat.le_refl _)] at hx; cases hx), Lib.hid (Kept.refl _ _)⟩
  case round =>
    obtain ⟨i, j, rfl, rfl, hij, hjn, H1, H2, HW⟩ := hrel
    by_cases hlt : i < j
    · obtain ⟨m, hm⟩ : ∃ m, m = (i + j) / 2 := ⟨_, rfl⟩
      have hm1 : i ≤ m := by omega
      have hm2 : m < j := by omega
      have hq : ((i : Int) + (j : Int)) / 2 = (m : Int) := by omega
      obtain ⟨x, hx⟩ : ∃ x, L[m]? = some x := ⟨L[m]'(by rw [HL.out]; omega), List.getElem?_eq_getElem _⟩
      obtain ⟨g, o, rfl, _, cc⟩ := (H.out.keep HW.out (fun _ _ h => h)).elem enc_len (by omega) hx
      have c0 := cc 0 _ rfl; rw [Nat.add_zero] at c0; have c1 := cc 1 _ rfl; have c2 := cc 2 _ rfl; have c3 := cc 3 _ rfl
      clear cc
      have HX := Lib.hid hx; clear hx hm
      have hmn : m < n := by omega
      have HC := Lib.hid (cl_any x k)
      unfold val at HC
      obtain ⟨r, hr⟩ : ∃ r, r = cmpr x.1 k := ⟨_, rfl⟩
      rw [← hr, ← HK.out] at HC
      have HR := Lib.hid hr; clear hr
      go_wp2_with fail
      refine (HC.out _).mono ?_
      rintro e w1 ⟨rfl, k1⟩
      have HW1 := Lib.hid (HW.out.step k1); clear k1 HC
      by_cases hlx : lt x.1 k = true
      · have hr : r = -1 := by rw [HR.out]; unfold cmpr; rw [if_pos hlx]
        have H1' : Hid (∀ (q : Nat) (y : ByteArray × (ByteArray × Bool)), q < m + 1 → L[q]? = some y → lt y.1 k = true) := Lib.hid (fun q y hq hy => by
          rcases Nat.lt_or_ge q m with h | h
          · exact tr (HU.out.get h hy HX.out) hlx
          · have : q = m := by omega
            subst this
            rw [HX.out] at hy
            injection hy with hy
            rw [← hy]
            exact hlx)
        clear hlx HR
        subst hr
        go_wp2
        go_roundw
        case rel => exact ⟨m + 1, j, by go_num, rfl, by omega, hjn, H1', H2, HW1⟩
        case measure => simp [intOf]; omega
      · have hr : ¬ r < 0 := by rw [HR.out]; unfold cmpr; rw [if_neg hlx]; split <;> omega
        have H2' : Hid (∀ y : ByteArray × (ByteArray × Bool), L[m]? = some y → lt y.1 k = false) := Lib.hid (fun y hy => by
          rw [HX.out] at hy
          injection hy with hy
          rw [← hy]
          simpa using hlx)
        clear hlx HR
        go_wp2
        go_roundw
        case rel => exact ⟨i, m, rfl, rfl, hm1, by omega, H1, H2', HW1⟩
        case measure => simp [intOf]; omega
    · obtain rfl : i = j := by omega
      have HP : Hid (pos L k = i) := Lib.hid (pos_eq (by rw [HL.out]; exact hjn) H1.out H2.out)
      by_cases hin : i < n
      · obtain ⟨x, hx⟩ : ∃ x, L[i]? = some x := ⟨L[i]'(by rw [HL.out]; omega), List.getElem?_eq_getElem _⟩
        obtain ⟨g, o, rfl, _, cc⟩ := (H.out.keep HW.out (fun _ _ h => h)).elem enc_len (by omega) hx
        have c0 := cc 0 _ rfl; rw [Nat.add_zero] at c0; have c1 := cc 1 _ rfl; have c2 := cc 2 _ rfl; have c3 := cc 3 _ rfl
        clear cc
        have HX := Lib.hid hx; clear hx
        have HC := Lib.hid (cl_any x k)
        unfold val at HC
        obtain ⟨r, hr⟩ : ∃ r, r = cmpr x.1 k := ⟨_, rfl⟩
        rw [← hr, ← HK.out] at HC
        have HR := Lib.hid hr; clear hr
        go_wp2_with fail
        refine (HC.out _).mono ?_
        rintro e w1 ⟨rfl, k1⟩
        have HW1 := Lib.hid (HW.out.step k1); clear k1 HC
        have hh : has L k = (r == 0) := by
          have hlx := H2.out x HX.out
          have e1 : Srt.look L k = if x.1 = k then some x.2 else none := by rw [look_at HU.out, HP.out, HX.out]; rfl
          have e2 : r = if lt k x.1 = true then 1 else 0 := by rw [HR.out]; unfold cmpr; rw [if_neg (by rw [hlx]; simp)]
          unfold has
          rw [e1]
          by_cases e : x.1 = k
          · have : lt k x.1 = false := by rw [e]; exact irr k
            rw [if_pos e, e2, this]
            rfl
          · rw [if_neg e, e2, if_pos (lt_of_ne hlx e)]
            rfl
        have HH := Lib.hid hh; clear hh HR
        go_wp2
        go_ret2
        exact ⟨by rw [HP.out, HH.out]; rfl, HW1.out⟩
      · have hh : has L k = false := by
          unfold has
          rw [look_at HU.out, HP.out, List.getElem?_eq_none (by rw [HL.out]; omega)]
          rfl
        have HH := Lib.hid hh; clear hh
        obtain rfl : i = n := by omega
        go_wp2
        go_ret2
        exact ⟨by rw [HP.out, HH.out]; rfl, HW.out⟩

set_option maxRecDepth 100000 in
set_option maxHeartbeats 1000000 in
theorem find_any (F : Nat → Prop) (a : Option Addr) (n c : Nat) (L : List (ByteArray × (ByteArray × Bool))) (k : ByteArray) (w : World) (h : Lies w F a (cells L)) (hl : L.length = n) (hc : n ≤ c) (hn : n ≤ 1099511627776) (hu : Up L) :
    Calls Tryz.prog 47 #[.slice a n c, ek k] w fun e w' => e = .returned (.tuple #[.int .i64 (pos L k : Nat), .bool (has L k)]) ∧ Kept noBlock w w' := by
  have HB := Lib.hid (bs_any F a n c L k w h hl hc hn hu)
  clear h hl hu
  generalize ek k = kv at HB ⊢
  go_enter Tryz.func47, Tryz.ntmps47
  go_wp2_with fail
  refine HB.out.mono ?_
  rintro e w1 ⟨rfl, k1⟩
  go_wp2
  go_ret2
  exact ⟨rfl, k1⟩
end Go.Proofs.YthmjjhjblokjeaaGreat.KP
