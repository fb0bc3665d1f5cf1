/-
  Layer 5's examples; words for the laws' loops. No statement is proved here.
-/
import Derived.Test.YtohanlhfbfodlaaSortedIterIS
import Derived.Test.YtohanlhfbfodlaaSortedIterII
namespace Go.Proofs.Ytohanlhfbfodlaa
open Go.RowKit Go.Shelf
attribute [local go_sem] Oper.semAt_some

theorem Abide.keptLow {T : Nat → TypeId → Prop} {m : Nat} {A B : World} (h : Abide T m A B) : Kept (fun k => m ≤ k) A B := ⟨h.os, h.tape, h.output, h.size, fun k hk hn => h.low k (by omega) hk⟩
theorem results_box {fn : Func} {s : Nat} (h : fn.results = #[.cell s 4]) (tmps : Array Value) (w : World) (B : Nat) (v : Value) (hp : tmps.getD s undef = .pointer (some ⟨B, 0, none⟩)) (hc : w.cell? ⟨B, 0, none⟩ = some v) : (results fn tmps).run Try.prog w = .ok v w := by
  have hp' : tmps[s]?.getD undef = .pointer (some ⟨B, 0, none⟩) := by simpa using hp
  have hl : (loadVar 4 ⟨B, 0, none⟩).run Try.prog w = .ok v w := by
    simp [loadVar, run_isAgg_plain (P := Try.prog) (t := 4) Try.underlying4 rfl, hc, go_sem]
  simp [results, h, hp', asAddr, hl]
/-- The examples' pairs. -/
def ex2 : List (Int × List UInt8) := [(1, [121]), (3, [120])]
def digits (l : List (Int × List UInt8)) : Int := l.foldl (fun n p => 10 * n + p.1) 0
structure AwakeI (w : World) (B0 B4 m : Nat) (F : Nat → Prop) (pre : List (Int × List UInt8)) (W : World) : Prop where
  res : W.heap[B0]? = some (.cells #[.bool false] 4 (0, 0))
  num : W.heap[B4]? = some (.cells #[.int .i64 (digits pre)] 3 (0, 0))
  map : IS.Mp W F m ex2
  kept : Kept noBlock w W
theorem AwakeI.abide {w : World} {B0 B4 m m0 : Nat} {F : Nat → Prop} {pre : List (Int × List UInt8)} {A B : World} (h : AwakeI w B0 B4 m F pre A) (hF : ∀ b, F b → b < m0) (hw : w.heap.size ≤ m0) (k : Abide IS.TT m0 A B) : AwakeI w B0 B4 m F pre B :=
  ⟨k.blk h.res (.inr (by unfold IS.TT; decide)), k.blk h.num (.inr (by unfold IS.TT; decide)), h.map.keep k.keptLow (fun b hb => by have := hF b hb; omega), Abide.kept h.kept k hw⟩
theorem AwakeI.next {w : World} {B0 B4 m m0 : Nat} {F : Nat → Prop} {pre : List (Int × List UInt8)} {x : Int × List UInt8} {W : World} (h : AwakeI w B0 B4 m F pre W) (h4 : w.heap.size ≤ B4) (h04 : B0 ≠ B4) (hF : ¬ F B4) :
    let W' := W.setCell ⟨B4, 0, none⟩ (.int .i64 (10 * digits pre + x.1))
    KeepsFrom m0 W W' ∧ Spares IS.UU W W' ∧ AwakeI w B0 B4 m F (pre ++ [x]) W' := by
  intro W'
  have k : Kept (fun b => b = B4) W W' := Kept.setCell W (by rfl) _
  refine ⟨keepsFrom_kept k (fun b _ e => by subst e; exact ⟨_, _, _, h.num⟩), Spares.of k (fun b e => by subst e; exact ⟨_, _, _, h.num, by unfold IS.UU; decide⟩), ⟨k.blk h.res h04, ?_, h.map.keep k (fun b hb e => hF (e ▸ hb)), h.kept.trans k (fun b hb e => by omega)⟩⟩
  have := setB (u := .int .i64 (10 * digits pre + x.1)) h.num
  rw [show digits (pre ++ [x]) = 10 * digits pre + x.1 by simp [digits]]
  exact this

set_option maxRecDepth 100000 in
set_option maxHeartbeats 2000000 in
theorem awake_any (w : World) : Calls Try.prog 10 #[] w fun e w' => e = .returned (.bool true) ∧ Kept noBlock w w' := by
  refine (callsIn_wide (n := 3)).1 ?_
  refine callsIn_of_wp_marks Try.func10 rfl trivial ?_ rfl
  simp only [Try.ntmps10, List.size_toArray, List.length_nil, Nat.reduceSub, Array.replicate_succ, Array.replicate_zero, List.push_toArray, List.append_toArray, List.nil_append, List.cons_append]
  refine wpIn_wide.2 ?_
  go_wp2_with fail
  have a0 : ((w.alloc (.cells #[.bool false] 4)).alloc (.cells #[.slice none 0 0] 64)).heap[w.heap.size]? = some (.cells #[.bool false] 4 (0, 0)) := heap_alloc2_old _ _ _
  have o0 : IS.Own (w.heap.size + 1) ((w.alloc (.cells #[.bool false] 4)).alloc (.cells #[.slice none 0 0] 64)) (w.heap.size + 1) [] := by
    have := IS.Own.new (base := w.heap.size + 1) (w := w.alloc (.cells #[.bool false] 4)) (by simp)
    rw [World.size_alloc] at this
    exact this
  have k0 : Kept noBlock w ((w.alloc (.cells #[.bool false] 4)).alloc (.cells #[.slice none 0 0] 64)) := (Kept.alloc _ _ _).step (Kept.alloc _ _ _)
  have s0 : ((w.alloc (.cells #[.bool false] 4)).alloc (.cells #[.slice none 0 0] 64)).heap.size = w.heap.size + 2 := by simp
  generalize ((w.alloc (.cells #[.bool false] 4)).alloc (.cells #[.slice none 0 0] 64)) = w0 at a0 o0 k0 s0 ⊢
  obtain ⟨B0, hB0⟩ : ∃ B0, B0 = w.heap.size := ⟨_, rfl⟩
  obtain ⟨m, hm⟩ : ∃ m, m = w.heap.size + 1 := ⟨_, rfl⟩
  rw [← hm] at o0
  rw [← hB0] at a0
  rw [← hm, ← hB0]
  have hs0 : m < w0.heap.size := by omega
  have h01 : B0 < m := by omega
  have h0w : w.heap.size ≤ B0 := by omega
  clear hm hB0 s0
  have A0 := Lib.hid a0; clear a0
  have K0 := Lib.hid k0; clear k0
  have p1 := o0.put 3 [120] (by simp) (by omega)
  unfold IS.ek IS.ev str at p1
  rw [show Srt.has ([] : List (Int × List UInt8)) 3 = false from rfl, show Srt.put ([] : List (Int × List UInt8)) 3 [120] = [(3, [120])] from rfl] at p1
  clear o0
  refine p1.mono ?_
  clear p1
  rintro e w1 ⟨rfl, o1, k1⟩
  have R1 := Lib.hid (k1.blk A0.out (by omega))
  have hs1 := k1.size
  have K1 := Lib.hid (K0.out.trans k1 (fun i hi h => by omega))
  have O1 := Lib.hid o1
  clear k1 o1 A0 K0
  go_wp2_with fail
  have p2 := O1.out.put 1 [121] (by simp) (by omega)
  unfold IS.ek IS.ev str at p2
  rw [show Srt.has [((3 : Int), ([120] : List UInt8))] 1 = false from rfl, show Srt.put [((3 : Int), ([120] : List UInt8))] 1 [121] = ex2 from rfl] at p2
  refine p2.mono ?_
  clear p2 O1
  rintro e w2 ⟨rfl, o2, k2⟩
  have R2 := Lib.hid (k2.blk R1.out (by omega))
  have hs2 := k2.size
  have K2 := Lib.hid (K1.out.trans k2 (fun i hi h => by omega))
  have O2 := Lib.hid o2
  clear k2 o2 R1 K1
  go_wp2_with fail
  obtain ⟨F, hM2, hF2⟩ := O2.out
  have hlt2 := hM2.lt
  have m3 := hM2.kept (Kept.alloc noBlock w2 (.cells #[.int .i64 0] 3))
  have b3 := Below.heap_alloc w2 (.cells #[.int .i64 0] 3) B0 (by omega)
  rw [R2.out] at b3
  have n3 : (w2.alloc (.cells #[.int .i64 0] 3)).heap[w2.heap.size]? = some (.cells #[.int .i64 0] 3 (0, 0)) := heap_alloc_new _ _
  have k3 := K2.out.step (Kept.alloc noBlock w2 (.cells #[.int .i64 0] 3))
  have s3 : (w2.alloc (.cells #[.int .i64 0] 3)).heap.size = w2.heap.size + 1 := by simp
  obtain ⟨B4, hB4⟩ : ∃ B4, B4 = w2.heap.size := ⟨_, rfl⟩
  rw [← hB4] at n3 s3 ⊢
  generalize w2.alloc (.cells #[.int .i64 0] 3) = w3 at m3 b3 n3 k3 s3 ⊢
  have h4w : w.heap.size ≤ B4 := by omega
  have h04 : B0 < B4 := by omega
  have h43 : B4 < w3.heap.size := by omega
  have HF4 : Hid (¬ F B4) := Lib.hid (fun h => by have := hlt2 _ h; omega)
  have hF0 : ¬ F B0 := fun h => by have := hF2 _ h; omega
  have hFw : ∀ i, F i → ¬ i < w.heap.size := fun i h hi => by have := hF2 _ h; omega
  have HF0 := Lib.hid hF0; clear hF0
  have HFW := Lib.hid hFw; clear hFw
  have HFL : Hid (∀ b, F b → b < w3.heap.size) := Lib.hid (fun b h => by have := hlt2 _ h; omega)
  have hwm : w.heap.size ≤ w3.heap.size := by omega
  have M3 := Lib.hid m3
  have I3 : Hid (AwakeI w B0 B4 m F [] w3) := Lib.hid ⟨b3, n3, m3, k3⟩
  clear hM2 hF2 hlt2 m3 b3 n3 k3 s3 hB4 O2 R2 K2 hs0 hs1 hs2
  have p3 := IS.len_any F m ex2 w3 M3.out
  rw [show ((ex2.length : Nat) : Int) = 2 from rfl] at p3
  refine p3.mono ?_
  clear p3
  rintro e w4 ⟨rfl, rfl⟩
  go_wp2_with fail
  refine (IS.all_any m w3).mono ?_
  rintro e w4 ⟨rfl, bb, k4⟩
  have HR := Lib.hid (IS.all1_runs w3.heap.size F m ex2 w4 bb (M3.out.kept k4))
  have hk4 := k4.size
  have I4 : Hid (AwakeI w B0 B4 m F [] w4) := Lib.hid (I3.out.abide HFL.out hwm (Abide.of_kept k4))
  obtain ⟨Bb, hBb⟩ : ∃ Bb, Bb = w3.heap.size := ⟨_, rfl⟩
  rw [← hBb] at HR ⊢
  clear bb k4 M3 I3 hBb
  have HFL4 : Hid (∀ b, F b → b < w4.heap.size) := Lib.hid (fun b h => Nat.lt_of_lt_of_le (HFL.out b h) hk4)
  have hw4 : w.heap.size ≤ w4.heap.size := by omega
  go_wp2_with fail
  refine (wpIn_wide (n := 3)).1 ?_
  refine wpIn_runs_to rfl (enters_of Try.func43 (by kernel_rfl) rfl) HR.out (Kept.refl _ _) (fun _ => rfl) (fun x => [(5, IS.ek x.1), (6, IS.ev x.2)]) (fun pre W => Hid (AwakeI w B0 B4 m F pre W)) (fun _ _ _ => False)
    (fun s A B h k => Lib.hid (h.out.abide HFL4.out hw4 k)) (fun _ _ _ _ h _ => h) I4 ?assign ?body ?done ?stop
  case assign =>
    intro l x W K hK
    dsimp only [IS.enc]
    simp only [landed, List.foldl_cons, List.foldl_nil, List.zip_toArray, List.zip_cons_cons, List.zip_nil_right, IS.enc, List.foldl_toArray, List.setIfInBounds_toArray, List.set_cons_zero, List.set_cons_succ] at hK
    gi_wp2
    exact hK
  case body =>
    rintro l pre x rest W hL hI
    simp only [landed, List.foldl_cons, List.foldl_nil, List.zip_toArray, List.zip_cons_cons, List.zip_nil_right, IS.enc, List.foldl_toArray, List.setIfInBounds_toArray, List.set_cons_zero, List.set_cons_succ]
    have hn := hI.out.num
    have c4 : W.cell? ⟨B4, 0, none⟩ = some (.int .i64 (digits pre)) := cell_of_row _ _ _ _ _ _ hn
    have f4 : W.frozen? ⟨B4, 0, none⟩ = false := frozen_of_row _ _ _ _ _ hn
    have N := Lib.hid (hI.out.next (m0 := w4.heap.size) (x := x) h4w (by omega) HF4.out)
    clear hn
    unfold ex2 at hL
    cases pre with
    | nil =>
      injection hL with h1 h2
      subst h1
      rw [show digits [] = 0 from rfl] at c4 N
      unfold IS.ek IS.ev str
      gi_wp2
      exact ⟨N.out.1, N.out.2.1, Lib.hid N.out.2.2⟩
    | cons p q =>
      injection hL with h1 h2
      subst h1
      cases q with
      | nil =>
        injection h2 with h3 h4
        subst h3 h4
        rw [show digits [((1 : Int), ([121] : List UInt8))] = 1 from rfl] at c4 N
        unfold IS.ek IS.ev str
        gi_wp2
        exact ⟨N.out.1, N.out.2.1, Lib.hid N.out.2.2⟩
      | cons p2 q2 =>
        injection h2 with h3 h4
        cases q2 <;> simp at h4
  case done =>
    intro D W hD hI hK
    have g1 := IS.get_any F m ex2 3 W hI.out.map
    rw [show Srt.look ex2 3 = some [120] from rfl, show Srt.has ex2 3 = true from rfl] at g1
    unfold IS.ek IS.ev str at g1
    have HKD := Lib.hid hK; clear hK
    go_wp2_with fail
    refine g1.mono ?_
    clear g1
    rintro e w5 ⟨rfl, k5⟩
    have m5 := hI.out.map.kept k5
    have g2 := IS.put_any F m ex2 3 [122] w5 m5 (by show 2 < 1048576; omega)
    rw [show Srt.has ex2 3 = true from rfl] at g2
    unfold IS.ek IS.ev str at g2
    have c4 : w5.cell? ⟨B4, 0, none⟩ = some (.int .i64 13) := cell_of_row _ _ _ _ _ _ (k5.blk hI.out.num (fun h => h))
    have r5 := k5.blk hI.out.res (fun h => h)
    have HKD5 := Lib.hid (k5.blk HKD.out (fun h => h))
    have K5 := Lib.hid (hI.out.kept.step k5)
    clear k5 hI m5 HKD
    go_wp2_with fail
    refine g2.mono ?_
    clear g2
    rintro e w6 ⟨rfl, d6⟩
    have r6 := d6.kept.blk r5 HF0.out
    have HKD6 := Lib.hid (d6.kept.blk HKD5.out (fun h => by have := HFL4.out _ h; omega))
    have K6 := Lib.hid (K5.out.trans d6.kept (fun i hi h => HFW.out i h hi))
    have g3 := IS.len_any _ m _ w6 d6.map
    rw [show (((Srt.put ex2 3 [122]).length : Nat) : Int) = 2 from rfl] at g3
    clear r5 HKD5 K5 d6 c4
    have c6 : w6.cell? ⟨B0, 0, none⟩ = some (.bool false) := cell_of_row _ _ _ _ _ _ r6
    have f6 : w6.frozen? ⟨B0, 0, none⟩ = false := frozen_of_row _ _ _ _ _ r6
    have R6 := Lib.hid r6; clear r6
    go_wp2_with fail
    refine g3.mono ?_
    clear g3
    rintro e w7 ⟨rfl, rfl⟩
    go_wp2
    have r7 := setB (u := .bool true) R6.out
    have k7 : Kept (fun b => b = B0) w6 (w6.setCell ⟨B0, 0, none⟩ (.bool true)) := Kept.setCell w6 (by rfl) _
    have hk7 := k7.blk HKD6.out (by omega)
    refine ⟨by simp, .inl ⟨_, _, rfl, run_takeDeferred hk7, ?_⟩⟩
    have st : Abide IS.TT w4.heap.size (w6.setCell ⟨B0, 0, none⟩ (.bool true)) ((w6.setCell ⟨B0, 0, none⟩ (.bool true)).putObj D (.deferred none)) := Abide.putObj _ hD hk7 rfl
    refine ⟨_, results_box rfl _ _ B0 (.bool true) rfl (cell_of_row _ _ _ _ _ _ (st.blk r7 (.inr (by unfold IS.TT; decide)))), rfl, ?_⟩
    exact Abide.kept (K6.out.trans k7 (fun i hi e => by omega)) st hw4
  case stop =>
    rintro D c pre W _ _ h _
    exact h.elim
end Go.Proofs.Ytohanlhfbfodlaa
