/-
  The statements' own comparison of rows of files. No statement is proved here.
-/
import Derived.Test.YtollmkkbeeeccaaP11Of
import Derived.Deep.QuietTactic
namespace Go.Proofs.Ytollmkkbeeeccaa
open Go.RowKit Tot

theorem take_two {xs ys : List RefV} {j : Nat} {x y : RefV} (h : xs.take j = ys.take j) (hx : xs[j]? = some x) (hy : ys[j]? = some y) (e : x = y) : xs.take (j + 1) = ys.take (j + 1) := by
  rw [take_snoc xs j x hx, take_snoc ys j y hy, h, e]

set_option maxRecDepth 100000 in
set_option maxHeartbeats 1000000 in
theorem refs_any (F G : Nat → Prop) (A B : Option Addr) (n c m d : Nat) (xs ys : List RefV) (w : World) (h1 : Lies w F A (refCells xs)) (h2 : Lies w G B (refCells ys)) (l1 : xs.length = n) (l2 : ys.length = m) (hn : n ≤ 1099511627776) (hnc : n ≤ c) (hmd : m ≤ d) :
    Calls Try.prog 15 #[.slice A n c, .slice B m d] w fun e w' => e = .returned (.bool (decide (xs = ys))) ∧ Kept noBlock w w' := by
  have H1 := Lib.hid h1
  have H2 := Lib.hid h2
  have L1 := Lib.hid l1
  have L2 := Lib.hid l2
  obtain ⟨z, hz⟩ : ∃ z, z = decide (xs = ys) := ⟨_, rfl⟩
  have HZ := Lib.hid hz
  rw [← hz]
  clear h1 h2 l1 l2 hz
  by_cases hnm : n = m
  · subst hnm
    have hb : ((n : Int) != (n : Int)) = false := by simp
    go_enter Try.func15, Try.ntmps15
    go_wp2_with fail
    go_loopw [13] (fun i wr => ∃ j : Nat, j ≤ n ∧ i = .int .i64 (j : Int) ∧ Hid (xs.take j = ys.take j) ∧ Hid (Kept noBlock w wr)) (fun i _ => n - (intOf i).toNat)
    case atStart => exact ⟨0, by omega, rfl, rfl, Kept.refl _ _⟩
    case round =>
      obtain ⟨j, hjn, rfl, HT, HK⟩ := hrel
      by_cases hlt : j < n
      · obtain ⟨x, hx⟩ : ∃ x, xs[j]? = some x := ⟨_, List.getElem?_eq_getElem (by have := L1.out; omega)⟩
        obtain ⟨y, hy⟩ : ∃ y, ys[j]? = some y := ⟨_, List.getElem?_eq_getElem (by have := L2.out; omega)⟩
        obtain ⟨g1, o1, rfl, _, cc⟩ := (H1.out.keep HK.out (fun _ _ h => h)).elem (enc := RefV.cells) ref_len (by omega) hx
        obtain ⟨g2, o2, rfl, _, dd⟩ := (H2.out.keep HK.out (fun _ _ h => h)).elem (enc := RefV.cells) ref_len (by omega) hy
        have y0 := cc 0 _ rfl
        have y1 := cc 1 _ rfl
        have y2 := cc 2 _ rfl
        have y3 := cc 3 _ rfl
        have z0 := dd 0 _ rfl
        have z1 := dd 1 _ rfl
        have z2 := dd 2 _ rfl
        have z3 := dd 3 _ rfl
        rw [Nat.add_zero] at y0 z0
        have NE := fun u => ref_neq u x y
        unfold RefV.val at NE
        by_cases hxy : x = y
        · have HT9 := Lib.hid (take_two HT.out hx hy hxy)
          rw [decide_eq_true hxy] at NE
          clear cc dd hx hy hxy
          go_upto_region 6 with (fail)
          go_quiet (fail)
          have K5 := Lib.hid (HK.out.step (Kept.drewN noBlock wr nq))
          generalize wr.drewN nq = w8 at K5 ⊢
          clear NE
          go_wp2
          go_roundw
          case rel => exact ⟨j + 1, by omega, by go_num, HT9, K5⟩
          case measure => simp [intOf]; omega
        · have HZ9 : Hid (z = false) := by
            unfold Hid
            rw [HZ.out, decide_eq_false_iff_not]
            rintro rfl
            rw [hx] at hy
            injection hy with hy
            exact hxy hy
          rw [decide_eq_false hxy] at NE
          clear cc dd hx hy hxy
          go_upto_region 6 with (fail)
          go_quiet (fail)
          have K5 := Lib.hid (HK.out.step (Kept.drewN noBlock wr nq))
          generalize wr.drewN nq = w8 at K5 ⊢
          clear NE
          go_wp2
          go_ret
          rw [HZ9.out]
          exact ⟨rfl, K5.out⟩
      · obtain rfl : j = n := by omega
        have HZ9 : Hid (z = true) := by
          have ht := HT.out
          rw [List.take_of_length_le (by have := L1.out; omega), List.take_of_length_le (by have := L2.out; omega)] at ht
          unfold Hid
          rw [HZ.out, ht]
          simp
        go_wp2
        go_ret
        rw [HZ9.out]
        exact ⟨rfl, HK.out⟩
  · have hb : ((n : Int) != (m : Int)) = true := by simpa using (by omega : (n : Int) ≠ (m : Int))
    have HZ9 : Hid (z = false) := by
      unfold Hid
      rw [HZ.out, decide_eq_false_iff_not]
      rintro rfl
      exact hnm (by have := L1.out; have := L2.out; omega)
    clear hnm
    go_enter Try.func15, Try.ntmps15
    go_wp2
    go_ret
    rw [HZ9.out]
    exact ⟨rfl, Kept.refl _ _⟩
end Go.Proofs.Ytollmkkbeeeccaa
