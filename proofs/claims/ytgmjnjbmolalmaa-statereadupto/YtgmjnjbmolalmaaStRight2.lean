/-
  Which rows and states are right. No statement is proved here.
-/
import Derived.Test.YtgmjnjbmolalmaaStRightS
namespace Go.Proofs.Ytgmjnjbmolalmaa
open Go.RowKit Tot

set_option maxHeartbeats 1000000 in
theorem gone_any (k v : ByteArray) (g : Bool) (w : World) : Calls Try.prog 39 #[.agg #[.string k, .string v, .bool g]] w (Says w g) := by
  go_enter Try.func39, Try.ntmps39
  go_wp2
  go_ret
  exact ⟨rfl, Kept.alloc _ _ _⟩
set_option maxRecDepth 100000 in
set_option maxHeartbeats 1000000 in
theorem index_any (F : Nat → Prop) (a : Option Addr) (n c : Nat) (ps : Prs) (w : World) (h : Lies w F a (PR.cells ps)) (hl : ps.length = n) (hc : n ≤ c) (hn : n ≤ 1099511627776) :
    Calls Try.prog 59 #[.slice a n c, .func (.func 39) #[] #[]] w fun e w' => ∃ i : Int, e = .returned (.int .i64 i) ∧ (0 ≤ i ↔ ∃ p ∈ ps, p.2.2 = true) ∧ Kept noBlock w w' := by
  have H := Lib.hid h
  have HL := Lib.hid hl
  clear h hl
  go_enter Try.func59, Try.ntmps59
  go_wp2
  go_loopw [8] (fun i wr => ∃ k : Nat, k ≤ n ∧ i = .int .i64 (k : Int) ∧ Hid (∀ p ∈ ps.take k, p.2.2 = false) ∧ Hid (Kept noBlock w wr)) (fun i _ => n - (intOf i).toNat)
  case atStart => exact ⟨0, by omega, rfl, by unfold Hid; simp, Kept.refl _ _⟩
  case round =>
    obtain ⟨k, hk, rfl, HP, HK⟩ := hrel
    by_cases hlt : k < n
    · obtain ⟨x, hx⟩ : ∃ x, ps[k]? = some x := ⟨_, List.getElem?_eq_getElem (by have := HL.out; omega)⟩
      obtain ⟨g, o, rfl, _, cc⟩ := (H.out.keep HK.out (fun _ _ h => h)).elem PR.enc_len (by omega) hx
      have c0 := cc 0 _ rfl
      have c1 := cc 1 _ rfl
      have c2 := cc 2 _ rfl
      rw [Nat.add_zero] at c0
      obtain ⟨xk, xv, xg⟩ := x
      simp only at c0 c1 c2
      have HX := Lib.hid hx
      have GO := Lib.hid (gone_any xk xv xg wr)
      clear hx cc
      cases xg
      · go_wp2_with fail
        refine GO.out.mono ?_
        rintro e u ⟨rfl, ku⟩
        have KU := Lib.hid (HK.out.step ku)
        have HP2 : Hid (∀ p ∈ ps.take (k + 1), p.2.2 = false) := fun p hp => by
          rw [take_snoc ps k _ HX.out] at hp
          rcases List.mem_append.1 hp with h | h
          · exact HP.out p h
          · obtain rfl : p = _ := by simpa using h
            rfl
        clear ku GO
        go_wp2
        go_roundw
        case rel => exact ⟨k + 1, by omega, by go_num, HP2, KU⟩
        case measure => simp [intOf]; omega
      · go_wp2_with fail
        refine GO.out.mono ?_
        rintro e u ⟨rfl, ku⟩
        have KU := Lib.hid (HK.out.step ku)
        clear ku GO
        go_wp2
        go_ret
        exact ⟨(k : Int), rfl, ⟨fun _ => ⟨_, List.mem_of_getElem? HX.out, rfl⟩, fun _ => by omega⟩, KU.out⟩
    · obtain rfl : k = n := by omega
      have hp := HP.out
      rw [List.take_of_length_le (by have := HL.out; omega)] at hp
      have HPP := Lib.hid hp
      clear hp
      go_wp2
      go_ret
      refine ⟨-1, rfl, ⟨fun h => by omega, fun ⟨p, hp, hg⟩ => ?_⟩, HK.out⟩
      rw [HPP.out p hp] at hg
      cases hg
set_option maxHeartbeats 1000000 in
theorem contains_any (F : Nat → Prop) (a : Option Addr) (n c : Nat) (ps : Prs) (w : World) (h : Lies w F a (PR.cells ps)) (hl : ps.length = n) (hc : n ≤ c) (hn : n ≤ 1099511627776) :
    Calls Try.prog 38 #[.slice a n c, .func (.func 39) #[] #[]] w (Says w (!decide (∀ p ∈ ps, p.2.2 = false))) := by
  have IX := Lib.hid (index_any F a n c ps w h hl hc hn)
  clear h hl
  go_enter Try.func38, Try.ntmps38
  go_wp2_with fail
  refine IX.out.mono ?_
  rintro e u ⟨i, rfl, hi, ku⟩
  have hd : (!decide (∀ p ∈ ps, p.2.2 = false)) = decide (0 ≤ i) := by
    by_cases h0 : 0 ≤ i
    · obtain ⟨p, hp, hg⟩ := hi.1 h0
      rw [decide_eq_true h0, decide_eq_false (fun h => by rw [h p hp] at hg; cases hg)]
      rfl
    · rw [decide_eq_false h0, decide_eq_true (fun p hp => by
        cases hg : p.2.2 with
        | false => rfl
        | true => exact absurd (hi.2 ⟨p, hp, hg⟩) h0)]
      rfl
  have HD := Lib.hid hd
  clear hd hi IX
  go_wp2
  go_ret
  exact ⟨by rw [HD.out]; rfl, ku⟩

set_option maxRecDepth 100000 in
set_option maxHeartbeats 1000000 in
theorem rows_any (F : Nat → Prop) (a : Option Addr) (n c : Nat) (b : Option Addr) (m d : Nat) (ps : Prs) (xs : Sns) (most : Int) (w : World) (h : Lies w F a (PR.cells ps)) (hl : ps.length = n) (hc : n ≤ c) (hn : n ≤ 1099511627776)
    (h2 : Lies w F b (SN.cells xs)) (hl2 : xs.length = m) (hc2 : m ≤ d) (hn2 : m ≤ 1099511627776) :
    Calls Try.prog 33 #[.slice a n c, .slice b m d, .int .i64 most] w (Says w (decide (RowsOk ps xs most))) := by
  have RP := Lib.hid (rightpairs_any F a n c ps w h hl hc hn)
  have RS := Lib.hid (fun u (k : Kept noBlock w u) => rightsess_any F b m d xs u (h2.keep k (fun _ _ h => h)) hl2 hc2 hn2)
  have NO : Hid (∀ u, Kept noBlock w u → ¬ RowsOk ps xs most → Says w (decide (RowsOk ps xs most)) (.returned (.bool false)) u) := fun u k h => ⟨by rw [decide_eq_false h], k⟩
  have HL := Lib.hid hl
  clear h h2 hl hl2
  by_cases h0 : (n : Int) ≤ most
  · by_cases h1 : PairsOk ps
    · rw [decide_eq_true h1] at RP
      by_cases h3 : SesssOk xs
      · simp only [decide_eq_true h3] at RS
        have YES : Hid (∀ u, Kept noBlock w u → Says w (decide (RowsOk ps xs most)) (.returned (.bool true)) u) := fun u k => ⟨by rw [decide_eq_true ⟨by rw [HL.out]; exact h0, h1, h3⟩], k⟩
        clear h1 h3
        go_enter Try.func33, Try.ntmps33
        go_wp2_with fail
        refine RP.out.mono ?_
        rintro e u ⟨rfl, ku⟩
        have KU := Lib.hid ku
        clear ku
        go_wp2_with fail
        refine (RS.out u KU.out).mono ?_
        rintro e v ⟨rfl, kv⟩
        go_wp2
        go_ret
        exact YES.out _ (KU.out.step kv)
      · simp only [decide_eq_false h3] at RS
        have NO2 : Hid (¬ RowsOk ps xs most) := fun h => h3 h.2.2
        clear h1 h3
        go_enter Try.func33, Try.ntmps33
        go_wp2_with fail
        refine RP.out.mono ?_
        rintro e u ⟨rfl, ku⟩
        have KU := Lib.hid ku
        clear ku
        go_wp2_with fail
        refine (RS.out u KU.out).mono ?_
        rintro e v ⟨rfl, kv⟩
        go_wp2
        go_ret
        exact NO.out _ (KU.out.step kv) NO2.out
    · rw [decide_eq_false h1] at RP
      have NO2 : Hid (¬ RowsOk ps xs most) := fun h => h1 h.2.1
      clear h1
      go_enter Try.func33, Try.ntmps33
      go_wp2_with fail
      refine RP.out.mono ?_
      rintro e u ⟨rfl, ku⟩
      go_wp2
      go_ret
      exact NO.out _ ku NO2.out
  · have NO2 : Hid (¬ RowsOk ps xs most) := fun h => h0 (by have := h.1; rw [HL.out] at this; exact this)
    go_enter Try.func33, Try.ntmps33
    go_wp2
    go_ret
    exact NO.out _ (Kept.refl _ _) NO2.out

set_option maxRecDepth 100000 in
set_option maxHeartbeats 1000000 in
theorem sright_any (F : Nat → Prop) (s : StV) (A : Option Addr) (c : Nat) (B : Option Addr) (d : Nat) (w : World) (h : Sv w F s A c B d) (hn : s.pairs.length ≤ 1099511627776) (hm : s.sess.length ≤ 1099511627776) :
    Calls Try.prog 16 #[stv s A c B d] w (Says w (decide s.Right)) := by
  have RO := Lib.hid (fun u (k : Kept noBlock w u) => rows_any F A s.pairs.length c B s.sess.length d s.pairs s.sess 64 u (h.lp.keep k (fun _ _ h => h)) rfl h.cp hn (h.ls.keep k (fun _ _ h => h)) rfl h.cs hm)
  have CO := Lib.hid (fun u (k : Kept noBlock w u) => contains_any F A s.pairs.length c s.pairs u (h.lp.keep k (fun _ _ h => h)) rfl h.cp hn)
  have NO : Hid (∀ u, Kept noBlock w u → ¬ s.Right → Says w (decide s.Right) (.returned (.bool false)) u) := fun u k h => ⟨by rw [decide_eq_false h], k⟩
  have ka := Kept.alloc noBlock w (.cells #[.int .i64 s.index, .int .i64 s.term, .slice A s.pairs.length c, .slice B s.sess.length d] 33)
  have hb := heap_alloc_new w (.cells #[.int .i64 s.index, .int .i64 s.term, .slice A s.pairs.length c, .slice B s.sess.length d] 33)
  have KA := Lib.hid ka
  have HB := Lib.hid hb
  clear h hn hm ka hb
  unfold stv
  go_enter Try.func16, Try.ntmps16
  go_upto_region 1 with (fail)
  generalize w.alloc (.cells #[.int .i64 s.index, .int .i64 s.term, .slice A s.pairs.length c, .slice B s.sess.length d] 33) = w1 at KA HB ⊢
  obtain ⟨c0, c1, c2, c3⟩ := st_cells HB.out
  go_wp2_with fail
  by_cases h1 : 0 ≤ s.index ∧ s.index ≤ 1048576
  · refine (swithin_yes _ _ _ _ h1.1 h1.2).mono ?_
    rintro e w' ⟨rfl, rfl⟩
    go_wp2_with fail
    by_cases h2 : 0 ≤ s.term ∧ s.term ≤ 1048576
    · refine (swithin_yes _ _ _ _ h2.1 h2.2).mono ?_
      rintro e w' ⟨rfl, rfl⟩
      go_wp2_with fail
      refine (RO.out w1 KA.out).mono ?_
      rintro e w2 ⟨rfl, k2⟩
      have K2 := Lib.hid (KA.out.step k2)
      replace c2 := k2.cell c2 (fun h => h)
      clear k2 RO c0 c1 c3
      by_cases h3 : RowsOk s.pairs s.sess 64
      · rw [decide_eq_true h3]
        go_wp2_with fail
        refine (CO.out w2 K2.out).mono ?_
        rintro e w3 ⟨rfl, k3⟩
        have K3 := Lib.hid (K2.out.step k3)
        have FIN : Hid (Says w (decide s.Right) (.returned (.bool (decide (∀ p ∈ s.pairs, p.2.2 = false)))) w3) := by
          refine ⟨?_, K3.out⟩
          congr 2
          refine decide_eq_decide.2 ⟨fun h => ⟨h1, h2, h3, h⟩, fun h => h.2.2.2⟩
        generalize decide (∀ p ∈ s.pairs, p.2.2 = false) = gb at FIN ⊢
        clear k3 CO c2 h1 h2 h3
        cases gb
        · go_wp2
          go_ret
          exact FIN.out
        · go_wp2
          go_ret
          exact FIN.out
      · rw [decide_eq_false h3]
        have NO2 : Hid (¬ s.Right) := fun h => h3 h.2.2.1
        clear h3
        go_wp2
        go_ret
        exact NO.out _ K2.out NO2.out
    · refine (swithin_no _ _ _ _ h2).mono ?_
      rintro e w' ⟨rfl, rfl⟩
      have NO2 : Hid (¬ s.Right) := fun h => h2 h.2.1
      clear h2
      go_wp2
      go_ret
      exact NO.out _ KA.out NO2.out
  · refine (swithin_no _ _ _ _ h1).mono ?_
    rintro e w' ⟨rfl, rfl⟩
    have NO2 : Hid (¬ s.Right) := fun h => h1 h.1
    clear h1
    go_wp2
    go_ret
    exact NO.out _ KA.out NO2.out
end Go.Proofs.Ytgmjnjbmolalmaa
