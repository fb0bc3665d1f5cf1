/-
  Which states the statements of layer 7 call right. No statement is proved here.
-/
import Derived.Test.YtgmjnjbmolalmaaL7Rows
namespace Go.Proofs.Ytgmjnjbmolalmaa
open Go.RowKit Tot

set_option maxRecDepth 100000 in
set_option maxHeartbeats 1000000 in
theorem lright_any (F : Nat → Prop) (s : StV) (A : Option Addr) (c : Nat) (B : Option Addr) (d : Nat) (w : World) (h : Sv w F s A c B d) (hn : s.pairs.length ≤ 1099511627776) (hm : s.sess.length ≤ 1099511627776) :
    Calls Try.prog 26 #[stv s A c B d] w (Says w (decide s.Right)) := by
  have RO := Lib.hid (fun u (k : Kept noBlock w u) => lrows_any F A s.pairs.length c B s.sess.length d s.pairs s.sess 64 u (h.lp.keep k (fun _ _ h => h)) rfl h.cp hn (h.ls.keep k (fun _ _ h => h)) rfl h.cs hm)
  have NO : Hid (∀ u, Kept noBlock w u → ¬ s.Right → Says w (decide s.Right) (.returned (.bool false)) u) := fun u k h => ⟨by rw [decide_eq_false h], k⟩
  have ka := Kept.alloc noBlock w (.cells #[.int .i64 s.index, .int .i64 s.term, .slice A s.pairs.length c, .slice B s.sess.length d] 33)
  have hb := heap_alloc_new w (.cells #[.int .i64 s.index, .int .i64 s.term, .slice A s.pairs.length c, .slice B s.sess.length d] 33)
  have KA := Lib.hid ka
  have HB := Lib.hid hb
  have HLP := Lib.hid h.lp
  have hcp := h.cp
  obtain ⟨n, hnn⟩ : ∃ n, n = s.pairs.length := ⟨_, rfl⟩
  rw [← hnn] at KA HB RO hn hcp
  have HN := Lib.hid hnn
  clear h hm ka hb
  unfold stv
  rw [← hnn]
  clear hnn
  go_enter Try.func26, Try.ntmps26
  go_upto_region 1 with (fail)
  generalize w.alloc (.cells #[.int .i64 s.index, .int .i64 s.term, .slice A n c, .slice B s.sess.length d] 33) = w1 at KA HB ⊢
  obtain ⟨c0, c1, c2, c3⟩ := st_cells HB.out
  go_wp2
  go_loopw [8] (fun i wr => ∃ k : Nat, k ≤ n ∧ i = .int .i64 (k : Int) ∧ Hid (∀ p ∈ s.pairs.take k, p.2.2 = false) ∧ Hid (Kept noBlock w1 wr)) (fun i _ => n - (intOf i).toNat)
  case atStart => exact ⟨0, by omega, rfl, by unfold Hid; simp, Kept.refl _ _⟩
  case round =>
    obtain ⟨k, hk, rfl, HP, HK⟩ := hrel
    by_cases hlt : k < n
    · obtain ⟨x, hx⟩ : ∃ x, s.pairs[k]? = some x := ⟨_, List.getElem?_eq_getElem (by have := HN.out; omega)⟩
      obtain ⟨g, o, rfl, _, cc⟩ := (HLP.out.keep (KA.out.step HK.out) (fun _ _ h => h)).elem PR.enc_len (by omega) hx
      have e0 := cc 0 _ rfl
      have e1 := cc 1 _ rfl
      have e2 := cc 2 _ rfl
      rw [Nat.add_zero] at e0
      obtain ⟨xk, xv, xg⟩ := x
      simp only at e0 e1 e2
      have HX := Lib.hid hx
      clear hx cc c0 c1 c2 c3
      cases xg
      · have KU := Lib.hid (HK.out.step (Kept.alloc noBlock wr (.cells #[.string xk, .string xv, .bool false] 61)))
        have HP2 : Hid (∀ p ∈ s.pairs.take (k + 1), p.2.2 = false) := fun p hp => by
          rw [take_snoc s.pairs k _ HX.out] at hp
          rcases List.mem_append.1 hp with h | h
          · exact HP.out p h
          · obtain rfl : p = _ := by simpa using h
            rfl
        go_wp2
        go_roundw
        case rel => exact ⟨k + 1, by omega, by go_num, HP2, KU⟩
        case measure => simp [intOf]; omega
      · have NO2 := Lib.hid (NO.out _ (KA.out.step (HK.out.step (Kept.alloc noBlock wr (.cells #[.string xk, .string xv, .bool true] 61)))) (fun h => by have := h.2.2.2 _ (List.mem_of_getElem? HX.out); cases this))
        go_wp2
        go_ret
        exact NO2.out
    · obtain rfl : k = n := by omega
      have hp := HP.out
      rw [List.take_of_length_le (by have := HN.out; omega)] at hp
      have HPP := Lib.hid hp
      have a0 := HK.out.cell c0 (fun h => h)
      have a1 := HK.out.cell c1 (fun h => h)
      have a2 := HK.out.cell c2 (fun h => h)
      have a3 := HK.out.cell c3 (fun h => h)
      have KW := Lib.hid (KA.out.step HK.out)
      clear hp HP c0 c1 c2 c3
      by_cases h1 : 0 ≤ s.index
      · by_cases h2 : s.index ≤ 1048576
        · by_cases h3 : 0 ≤ s.term
          · by_cases h4 : s.term ≤ 1048576
            · have RW := Lib.hid (RO.out wr KW.out)
              have FIN : Hid (∀ u, Kept noBlock wr u → Says w (decide s.Right) (.returned (.bool (decide (RowsOk s.pairs s.sess 64)))) u) := fun u ku => by
                refine ⟨?_, KW.out.step ku⟩
                congr 2
                exact decide_eq_decide.2 ⟨fun h => ⟨⟨h1, h2⟩, ⟨h3, h4⟩, h, HPP.out⟩, fun h => h.2.2.1⟩
              go_wp2_with fail
              refine RW.out.mono ?_
              rintro e u ⟨rfl, ku⟩
              have FU := Lib.hid (FIN.out u ku)
              clear ku FIN RW RO a0 a1 a2 a3
              generalize decide (RowsOk s.pairs s.sess 64) = rb at FU ⊢
              go_wp2
              go_ret
              exact FU.out
            · have NO2 := Lib.hid (NO.out _ KW.out (fun h => h4 h.2.1.2))
              go_wp2
              go_ret
              exact NO2.out
          · have NO2 := Lib.hid (NO.out _ KW.out (fun h => h3 h.2.1.1))
            go_wp2
            go_ret
            exact NO2.out
        · have NO2 := Lib.hid (NO.out _ KW.out (fun h => h2 h.1.2))
          go_wp2
          go_ret
          exact NO2.out
      · have NO2 := Lib.hid (NO.out _ KW.out (fun h => h1 h.1.1))
        go_wp2
        go_ret
        exact NO2.out
end Go.Proofs.Ytgmjnjbmolalmaa
