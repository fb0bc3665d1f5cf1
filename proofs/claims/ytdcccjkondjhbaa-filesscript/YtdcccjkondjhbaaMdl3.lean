/-
  The model's methods, second part: call, change. No statement is proved here.
-/
import Derived.Test.YtdcccjkondjhbaaMdl2
import Derived.Test.YtdcccjkondjhbaaTail
namespace Go.Proofs.Ytdcccjkondjhbaa
open Go.RowKit Go.Maps

set_option maxRecDepth 100000 in
set_option maxHeartbeats 2000000 in
theorem mcall_any (G K : Nat → Prop) (m : Nat) (S : St) (g : Nat → Nat) (stop : Int) (mn mk : Nat) (A : Option Addr) (c : Nat) (A' : Option Addr) (c' : Nat) (xs ys : List Value) (w : World) (h : MdR w G m S g K stop mn mk A c A' c' xs ys) (hd : S.down = false) (hc : S.calls < 1000000) :
    Calls Try.prog 29 #[.pointer (some ⟨m, 0, none⟩)] w fun e w' => e = .returned (.bool (decide (S.count.1 = 0))) ∧ (∃ stop', MdR w' G m S.count.2 g K stop' mn mk A c A' c' xs ys) ∧ Kept (fun i => i = m) w w' := by
  have hs := h.stp hd
  have hlo := h.lo
  have hhi := h.hi
  have harm := h.arm
  have H := Lib.hid h
  have hb := h.blk
  unfold mcells at hb
  clear h
  have hlast : ∀ (v : Int) (d : Bool), ((w.setCell ⟨m, 7, none⟩ (.int .i64 ((S.calls : Int) + 1))).setCell ⟨m, 6, none⟩ (.bool d)).setCell ⟨m, 5, none⟩ (.int .i64 v) =
      ((w.setCell ⟨m, 7, none⟩ (.int .i64 ((S.calls : Int) + 1))).setCell ⟨m, 6, none⟩ (.bool d)).setCell ⟨m, 5, none⟩ (.int .i64 v) := fun _ _ => rfl
  clear hlast
  have fin : ∀ (v : Int) (d : Bool) (S' : St), S' = { S with calls := S.calls + 1, down := d, left := S'.left } → (S'.down = false → v = if S'.armed = true then S'.left else -1) → -1 ≤ v → v ≤ 1000 → (S'.armed = true → 0 ≤ S'.left) → Ok S' →
      MdR (((w.setCell ⟨m, 7, none⟩ (.int .i64 ((S.calls : Int) + 1))).setCell ⟨m, 6, none⟩ (.bool d)).setCell ⟨m, 5, none⟩ (.int .i64 v)) G m S' g K v mn mk A c A' c' xs ys ∧
      Kept (fun i => i = m) w (((w.setCell ⟨m, 7, none⟩ (.int .i64 ((S.calls : Int) + 1))).setCell ⟨m, 6, none⟩ (.bool d)).setCell ⟨m, 5, none⟩ (.int .i64 v)) := by
    intro v d S' hS' h1 h2 h3 h4 ok
    have k1 : Kept (fun i => i = m) w (((w.setCell ⟨m, 7, none⟩ (.int .i64 ((S.calls : Int) + 1))).setCell ⟨m, 6, none⟩ (.bool d)).setCell ⟨m, 5, none⟩ (.int .i64 v)) :=
      ((Kept.setCell (S := fun i => i = m) w (by rfl) _).step (Kept.setCell _ (by rfl) _)).step (Kept.setCell _ (by rfl) _)
    have b1 := heap_setCell_same _ m 5 _ 31 (.int .i64 v) (heap_setCell_same _ m 6 _ 31 (.bool d) (heap_setCell_same w m 7 _ 31 (.int .i64 ((S.calls : Int) + 1)) hb))
    refine ⟨H.out.turn k1 ?_ (by rw [hS']) (by rw [hS']) (by rw [hS']) (by rw [hS']) h1 h2 h3 h4 ok, k1⟩
    rw [b1, hS']
    rfl
  have FIN := Lib.hid fin
  have ok0 := Lib.hid H.out.ok
  obtain ⟨n, hn⟩ : ∃ n, n = S.calls := ⟨_, rfl⟩
  have c7 : w.cell? ⟨m, 7, none⟩ = some (.int .i64 (S.calls : Int)) := cell_of_row _ _ _ _ _ _ hb
  have c5 : w.cell? ⟨m, 5, none⟩ = some (.int .i64 stop) := cell_of_row _ _ _ _ _ _ hb
  have c6 : w.cell? ⟨m, 6, none⟩ = some (.bool S.down) := cell_of_row _ _ _ _ _ _ hb
  have f7 : w.frozen? ⟨m, 7, none⟩ = false := frozen_of_row _ _ _ _ _ hb
  have f6 : w.frozen? ⟨m, 6, none⟩ = false := frozen_of_row _ _ _ _ _ hb
  have f5 : w.frozen? ⟨m, 5, none⟩ = false := frozen_of_row _ _ _ _ _ hb
  have hcl : S.calls < 1000000 := hc
  unfold St.count
  cases ha : S.armed with
  | false =>
    rw [ha] at hs
    simp only [Bool.false_eq_true, if_false] at hs
    subst hs
    simp only [if_true]
    have F1 := Lib.hid (FIN.out (-1) false { S with calls := S.calls + 1 } (by rw [← hd]) (fun _ => by simp [ha]) (by omega) (by omega) (fun h9 => by simp [ha] at h9) (by have := ok0.out.calls hc S.down S.left ok0.out.left_lo ok0.out.left_hi S.armed; exact this))
    rw [← hn] at c7 hcl F1 ⊢
    rw [ha] at F1
    have hm1 : (-min 1 2 : Int) = -1 := by decide
    clear fin FIN hb hn hc harm
    go_enter Try.func29, Try.ntmps29
    go_wp2
    go_ret
    exact ⟨by simp, ⟨_, F1.out.1⟩, F1.out.2⟩
  | true =>
    rw [ha] at hs
    simp only [if_true] at hs
    have hl0 := harm ha
    simp only [Bool.true_eq_false, if_false]
    by_cases hp : 0 < S.left
    · simp only [if_pos hp]
      have F1 := Lib.hid (FIN.out (S.left - 1) false { S with calls := S.calls + 1, left := S.left - 1 } (by rw [← hd]) (fun _ => by simp [ha]) (by omega) (by omega) (fun _ => by show 0 ≤ S.left - 1; omega) (by have := ok0.out.calls hc S.down (S.left - 1) (by omega) (by have := ok0.out.left_hi; omega) S.armed; exact this))
      obtain ⟨lf, hlf⟩ : ∃ lf, lf = S.left := ⟨_, rfl⟩
      rw [← hlf] at hs hp F1 hl0
      subst hs
      rw [← hn] at c7 hcl F1 ⊢
      rw [ha] at F1
      have hne : (stop == 0) = false := by rw [beq_eq_false_iff_ne]; omega
      have hmx : max (-1 : Int) (stop - 1) = stop - 1 := by omega
      have HLF := Lib.hid hlf
      clear fin FIN hb hn hc harm hlf
      go_enter Try.func29, Try.ntmps29
      go_wp2
      go_ret
      rw [← HLF.out]
      exact ⟨by simp, ⟨_, F1.out.1⟩, F1.out.2⟩
    · simp only [if_neg hp]
      have F1 := Lib.hid (FIN.out (-1) true { S with calls := S.calls + 1, down := true } rfl (fun h9 => by simp at h9) (by omega) (by omega) harm (by have := ok0.out.calls hc true S.left ok0.out.left_lo ok0.out.left_hi S.armed; exact this))
      have hs0 : stop = 0 := by omega
      subst hs0
      rw [← hn] at c7 hcl F1 ⊢
      rw [ha] at F1
      have hm1 : (-min 1 1 : Int) = -1 := by decide
      clear fin FIN hb hn hc harm hs hp hl0
      go_enter Try.func29, Try.ntmps29
      go_wp2
      go_ret
      exact ⟨by simp, ⟨_, F1.out.1⟩, F1.out.2⟩
end Go.Proofs.Ytdcccjkondjhbaa
