/-
  A map's pairs are gone over: run, All. No statement is proved here.
-/
import Derived.Test.YtohanlhfbfodlaaSorted4II
import Derived.Test.YtohanlhfbfodlaaRuns
import Derived.Shelf.Abstract
import Derived.Shelf.RegionOpen
import Derived.OwnWalkIn
import Derived.TacticsInMore
import Derived.LoopNIn
import Derived.LoopIn
import Derived.Deep.DeepCutAuto
namespace Go.Proofs.Ytohanlhfbfodlaa.II
open Go.RowKit Srt Tot
attribute [local go_sem] Oper.semAt_some

/-- Types of cells that a function that goes over maps changes; types of cells that a round leaves. -/
def TT (_ : Nat) (t : TypeId) : Prop := t = 25
def UU (_ : Nat) (t : TypeId) : Prop := t = 73 ∨ t = 25 ∨ t = 43
def enc (x : Int × Int) : Array Value := #[ek x.1, ev x.2]

set_option maxRecDepth 100000 in
set_option maxHeartbeats 1000000 in
theorem run_goes (T U : Nat → TypeId → Prop) (a : Option Addr) (n c : Nat) (L : List (Int × Int)) (l m : Nat) (J Jx : List (Int × Int) → World → Prop) (pre0 : List (Int × Int)) (W : World) (h : Rowed W 73 a (cells L)) (hl : L.length = n) (hc : n ≤ c) (hn : n ≤ 1099511627776) (hU : ∀ g o, a = some ⟨g, o, none⟩ → U g 73)
    (hJ : ∀ s A B, J s A → Abide T m A B → J s B) (hY : ∀ pre x rest W1, L = pre ++ x :: rest → J (pre0 ++ pre) W1 → YieldAt Fence.wide 0 Try.prog l (enc x) W1 (Told U m J Jx (pre0 ++ pre ++ [x]) W1)) (h0 : J pre0 W) :
    Calls Try.prog 35 #[.slice a n c, .func (.yield l) #[] #[]] W fun e W' => (e = .returned (.bool true) ∧ J (pre0 ++ L) W' ∧ Spares U W W' ∧ KeepsFrom m W W') ∨
      (e = .returned (.bool false) ∧ (∃ part, part <+: L ∧ Jx (pre0 ++ part) W') ∧ Spares U W W' ∧ KeepsFrom m W W') := by
  have H := Lib.hid h; clear h
  have HL := Lib.hid hl; clear hl
  have HJ := Lib.hid hJ; clear hJ
  have HY := Lib.hid hY; clear hY
  have H0 := Lib.hid h0; clear h0
  have HU := Lib.hid hU; clear hU
  go_enter Try.func35, Try.ntmps35
  go_wp2
  go_loopw [9] (fun e wr => ∃ k : Nat, k ≤ n ∧ e = .int .i64 (k : Int) ∧ Hid (J (pre0 ++ L.take k) wr) ∧ Hid (Spares U W wr) ∧ Hid (KeepsFrom m W wr)) (fun e _ => n - (intOf e).toNat)
  case atStart => exact ⟨0, Nat.zero_le _, rfl, Lib.hid (by simpa using H0.out), Lib.hid (Spares.refl _ _), Lib.hid (KeepsFrom.refl _ _)⟩
  case round =>
    obtain ⟨k, hk, rfl, HJk, HS, HK⟩ := hrel
    by_cases hlt : k < n
    · obtain ⟨x, hx⟩ : ∃ x, L[k]? = some x := ⟨L[k]'(by rw [HL.out]; omega), List.getElem?_eq_getElem _⟩
      have hR := H.out.keepAt (w' := wr) (fun g o cs e hg => HS.out g cs _ _ hg (HU.out g o e))
      obtain ⟨g, o, rfl, c0, c1⟩ := hR.pair hx
      have hsp : L = L.take k ++ x :: L.drop (k + 1) := by
        have hk' : k < L.length := by rw [HL.out]; exact hlt
        rw [List.getElem?_eq_getElem hk'] at hx
        injection hx with hx
        rw [← hx, List.getElem_cons_drop, List.take_append_drop]
      have htk : L.take (k + 1) = L.take k ++ [x] := take_snoc L k x hx
      have HSP := Lib.hid hsp; clear hsp
      have HTK := Lib.hid htk; clear htk hR
      obtain ⟨x1, x2⟩ := x
      have YY : Hid (∀ W1, Kept noBlock wr W1 → YieldAt Fence.wide 0 Try.prog l (enc (x1, x2)) W1 (Told U m J Jx (pre0 ++ L.take (k + 1)) W1)) := Lib.hid (by
        intro W1 k1
        have hy := HY.out (L.take k) (x1, x2) (L.drop (k + 1)) W1 HSP.out (HJ.out _ _ _ HJk.out (Abide.of_kept k1))
        rw [List.append_assoc, ← HTK.out] at hy
        exact hy)
      clear hx
      unfold enc ek ev at *
      dsimp only at c0 c1
      go_upto_region 4 with (fail)
      refine (wpIn_wide (n := 1)).1 ?_
      have k1 : Kept noBlock wr (wr.alloc (.cells #[ek x1, ev x2] 73)) := Kept.alloc _ _ _
      unfold ek ev at k1
      obtain ⟨fn, tm, asg, bod, hy, hR⟩ := YY.out _ k1
      dsimp only at hy
      have KA := Lib.hid k1
      clear k1 YY c0 c1
      gi_wp2
      refine hR.mono ?_
      clear hR hy
      rintro e w5 (⟨rfl, hJ5, s5, k5⟩ | ⟨rfl, hJ5, s5, k5⟩)
      · have HJ5 := Lib.hid hJ5
        have HS5 := Lib.hid (HS.out.trans ((Spares.of_kept KA.out).trans s5))
        have HK5 := Lib.hid (HK.out.trans ((keepsFrom_kept KA.out (fun _ _ h => h.elim)).trans k5))
        clear hJ5 s5 k5 KA
        gi_wp2
        go_wp2
        go_roundw
        case rel => exact ⟨k + 1, by omega, by go_num, HJ5, HS5, HK5⟩
        case measure => simp [intOf]; omega
      · have HJ5 := Lib.hid hJ5
        have HS5 := Lib.hid (HS.out.trans ((Spares.of_kept KA.out).trans s5))
        have HK5 := Lib.hid (HK.out.trans ((keepsFrom_kept KA.out (fun _ _ h => h.elim)).trans k5))
        clear hJ5 s5 k5 KA
        gi_wp2
        go_wp2
        go_ret
        exact .inr ⟨rfl, ⟨_, List.take_prefix _ _, HJ5.out⟩, HS5.out, HK5.out⟩
    · obtain rfl : k = n := by omega
      have hJL : J (pre0 ++ L) wr := by
        have := HJk.out
        rwa [List.take_of_length_le (by rw [HL.out]; exact Nat.le_refl _)] at this
      have HJL := Lib.hid hJL; clear hJL
      go_wp2
      go_ret
      exact .inl ⟨rfl, HJL.out, HS.out, HK.out⟩

theorem run_any (a : Option Addr) (n c : Nat) (L : List (Int × Int)) (l m : Nat) (J Jx : List (Int × Int) → World → Prop) (pre0 : List (Int × Int)) (W : World) (h : Rowed W 73 a (cells L)) (hl : L.length = n) (hc : n ≤ c) (hn : n ≤ 1099511627776)
    (hJ : ∀ s A B, J s A → Abide TT m A B → J s B) (hY : ∀ pre x rest W1, L = pre ++ x :: rest → J (pre0 ++ pre) W1 → YieldAt Fence.wide 0 Try.prog l (enc x) W1 (Told UU m J Jx (pre0 ++ pre ++ [x]) W1)) (h0 : J pre0 W) :
    Calls Try.prog 35 #[.slice a n c, .func (.yield l) #[] #[]] W fun e W' => (e = .returned (.bool true) ∧ J (pre0 ++ L) W' ∧ Spares UU W W' ∧ KeepsFrom m W W') ∨
      (e = .returned (.bool false) ∧ (∃ part, part <+: L ∧ Jx (pre0 ++ part) W') ∧ Spares UU W W' ∧ KeepsFrom m W W') :=
  run_goes TT UU a n c L l m J Jx pre0 W h hl hc hn (fun _ _ _ => .inl rfl) hJ hY h0

set_option maxRecDepth 100000 in
set_option maxHeartbeats 1000000 in
theorem all_any (m : Nat) (w : World) :
    Calls Try.prog 20 #[.pointer (some ⟨m, 0, none⟩)] w fun e w' => e = .returned (.func (.func 34) #[] #[.pointer (some ⟨w.heap.size, 0, none⟩)]) ∧ w'.heap[w.heap.size]? = some (.cells #[.pointer (some ⟨m, 0, none⟩)] 24 (0, 0)) ∧ Kept noBlock w w' := by
  go_enter Try.func20, Try.ntmps20
  go_wp2
  go_ret
  exact ⟨rfl, heap_alloc_new _ _, Kept.alloc _ _ _⟩

set_option maxRecDepth 100000 in
set_option maxHeartbeats 1000000 in
theorem all1_goes (T U : Nat → TypeId → Prop) (Bb : Nat) (F : Nat → Prop) (m : Nat) (L : List (Int × Int)) (w : World) (hb : w.heap[Bb]? = some (.cells #[.pointer (some ⟨m, 0, none⟩)] 24 (0, 0))) (h : Mp w F m L) (hU : ∀ b, F b → U b 73) :
    Runs Try.prog 34 #[.pointer (some ⟨Bb, 0, none⟩)] enc T U L w := by
  intro l J Jx W kW hJ hJx hY h0
  show Calls Try.prog 34 #[.func (.yield l) #[] #[], .pointer (some ⟨Bb, 0, none⟩)] W _
  obtain ⟨A, c, h⟩ := h
  have h1 := h.keep kW (fun _ _ h => h)
  have c0 : W.cell? ⟨Bb, 0, none⟩ = some (.pointer (some ⟨m, 0, none⟩)) := cell_of_row _ _ _ _ _ _ (kW.blk hb (fun h => h))
  have c1 : W.cell? ⟨m, 0, none⟩ = some (.slice A L.length c) := cell_of_row _ _ _ _ _ _ h1.blk
  have hnc : L.length ≤ c := by obtain ⟨_, _, e, hle⟩ := own_form h1.own; injection e with _ _ e; omega
  have RR := Lib.hid (run_goes T U A L.length c L l W.heap.size J Jx [] W (Rowed.of_own h1.own) rfl hnc (by have := h.len; omega) (fun g o e => hU g (h1.fr g (by rw [e]; rfl))) hJ (fun pre x rest W1 hL hJ1 => hY pre x rest W1 hL hJ1) h0)
  obtain ⟨n, hn⟩ : ∃ n, n = L.length := ⟨_, rfl⟩
  rw [← hn] at c1 RR
  clear hn h h1 hb kW hJ hJx hY h0 hnc
  go_enter Try.func34, Try.ntmps34
  go_wp2_with fail
  refine RR.out.mono ?_
  rintro e w1 (⟨rfl, hJ1, _⟩ | ⟨rfl, ⟨part, hp, hJ1⟩, _⟩)
  · have HJ1 := Lib.hid hJ1; clear hJ1
    go_wp2
    go_end0
    exact ⟨⟨_, rfl⟩, .inl HJ1.out⟩
  · have HJ1 := Lib.hid hJ1; clear hJ1
    go_wp2
    go_end0
    exact ⟨⟨_, rfl⟩, .inr ⟨part, hp, HJ1.out⟩⟩
theorem all1_runs (Bb : Nat) (F : Nat → Prop) (m : Nat) (L : List (Int × Int)) (w : World) (hb : w.heap[Bb]? = some (.cells #[.pointer (some ⟨m, 0, none⟩)] 24 (0, 0))) (h : Mp w F m L) :
    Runs Try.prog 34 #[.pointer (some ⟨Bb, 0, none⟩)] enc TT UU L w := all1_goes TT UU Bb F m L w hb h (fun _ _ => .inl rfl)
end Go.Proofs.Ytohanlhfbfodlaa.II
