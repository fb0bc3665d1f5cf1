/-
  A map's pairs are gone over from a key on, and falling. No statement is proved here.
-/
import Derived.Test.YtohanlhfbfodlaaSortedIterII
import Derived.BigQuiet
import Derived.Deep.QuietTactic
namespace Go.Proofs.Ytohanlhfbfodlaa.II
open Go.RowKit Srt Tot Go.Shelf
attribute [local go_sem] Oper.semAt_some

set_option maxRecDepth 100000 in
set_option maxHeartbeats 1000000 in
theorem from_any (m : Nat) (k : Int) (w : World) :
    Calls Try.prog 22 #[.pointer (some ⟨m, 0, none⟩), .int .i64 k] w fun e w' => e = .returned (.func (.func 38) #[] #[.pointer (some ⟨w.heap.size, 0, none⟩), .pointer (some ⟨w.heap.size + 1, 0, none⟩)]) ∧
      w'.heap[w.heap.size]? = some (.cells #[.pointer (some ⟨m, 0, none⟩)] 24 (0, 0)) ∧ w'.heap[w.heap.size + 1]? = some (.cells #[.int .i64 k] 3 (0, 0)) ∧ Kept noBlock w w' := by
  go_enter Try.func22, Try.ntmps22
  go_wp2
  go_ret
  exact ⟨rfl, heap_alloc2_old _ _ _, heap_alloc2_new _ _ _, (Kept.alloc _ _ _).step (Kept.alloc _ _ _)⟩

set_option maxRecDepth 100000 in
set_option maxHeartbeats 1000000 in
theorem from1_runs (Bb Bk : Nat) (k : Int) (F : Nat → Prop) (m : Nat) (L : List (Int × Int)) (w : World) (hb : w.heap[Bb]? = some (.cells #[.pointer (some ⟨m, 0, none⟩)] 24 (0, 0))) (hk : w.heap[Bk]? = some (.cells #[.int .i64 k] 3 (0, 0))) (h : Mp w F m L) :
    Runs Try.prog 38 #[.pointer (some ⟨Bb, 0, none⟩), .pointer (some ⟨Bk, 0, none⟩)] enc TT UU (L.drop (pos L k)) w := by
  intro l J Jx W kW hJ hJx hY h0
  show Calls Try.prog 38 #[.func (.yield l) #[] #[], .pointer (some ⟨Bb, 0, none⟩), .pointer (some ⟨Bk, 0, none⟩)] W _
  obtain ⟨A, c, h⟩ := h
  have h1 := h.keep kW (fun _ _ h => h)
  have c0 : W.drew.cell? ⟨Bb, 0, none⟩ = some (.pointer (some ⟨m, 0, none⟩)) := cell_of_row _ _ _ _ _ _ (kW.blk hb (fun h => h))
  have ck : W.drew.cell? ⟨Bk, 0, none⟩ = some (.int .i64 k) := cell_of_row _ _ _ _ _ _ (kW.blk hk (fun h => h))
  have c1 : W.drew.cell? ⟨m, 0, none⟩ = some (.slice A L.length c) := cell_of_row _ _ _ _ _ _ h1.blk
  have hnc : L.length ≤ c := by obtain ⟨_, _, e, hle⟩ := own_form h1.own; injection e with _ _ e; omega
  have hlen := h.len
  have hpl := pos_le L k
  have FD := Lib.hid (find_any A L.length c L k W.drew ((Rowed.of_own h1.own).kept (Kept.drew noBlock W)) rfl hnc (by omega) h.up)
  unfold ek at FD
  have RR : Hid (∀ W1, Kept noBlock W W1 → Calls Try.prog 35 #[.slice (if c = pos L k then A else A.map (·.add (pos L k * 2))) (L.length - pos L k) (c - pos L k), .func (.yield l) #[] #[]] W1 fun e W' => (e = .returned (.bool true) ∧ J (L.drop (pos L k)) W' ∧ Spares UU W1 W' ∧ KeepsFrom W.heap.size W1 W') ∨
      (e = .returned (.bool false) ∧ (∃ part, part <+: L.drop (pos L k) ∧ Jx part W') ∧ Spares UU W1 W' ∧ KeepsFrom W.heap.size W1 W')) := Lib.hid (by
    intro W1 k1
    have hr : Rowed W1 73 (if c = pos L k then A else A.map (·.add (pos L k * 2))) (cells (L.drop (pos L k))) := by
      unfold cells
      rw [pcells_drop]
      refine ((Rowed.of_own h1.own).kept k1).drop (pos L k) (pos L k * 2) (fun hlt => ?_)
      have := pcells_len ek ev L
      unfold cells at hlt
      omega
    exact run_any _ (L.length - pos L k) (c - pos L k) (L.drop (pos L k)) l W.heap.size J Jx [] W1 hr (by rw [List.length_drop]) (by omega) (by omega) hJ (fun pre x rest W2 hL hJ1 => hY pre x rest W2 hL hJ1) (hJ _ _ _ h0 (Abide.of_kept k1)))
  obtain ⟨n, hn⟩ : ∃ n, n = L.length := ⟨_, rfl⟩
  obtain ⟨p, hp⟩ : ∃ p, p = pos L k := ⟨_, rfl⟩
  rw [← hn, ← hp] at RR hpl
  rw [← hn] at c1
  rw [← hn, ← hp] at FD
  obtain ⟨A1, hA1⟩ : ∃ A1, (if c = p then A else A.map (fun x => x.add (p * 2))) = A1 := ⟨_, rfl⟩
  rw [hA1] at RR
  rw [← hp]
  generalize has L k = hh at FD
  clear hn hp h hb hk hJ hJx hY h0 hnc hlen
  have H1 := Lib.hid h1; clear h1
  have KW := Lib.hid kW; clear kW
  have hpi : (p : Int) ≤ n := by omega
  go_enter Try.func38, Try.ntmps38
  go_upto_region 0 with (fail)
  refine wp_region_noPanic ?_
  refine wp_region_held_drew (S := fun w' => w'.cell? ⟨Bb, 0, none⟩ = some (.pointer (some ⟨m, 0, none⟩)) ∧ w'.cell? ⟨Bk, 0, none⟩ = some (.int .i64 k) ∧ w'.cell? ⟨m, 0, none⟩ = some (.slice A n c)) (by kernel_rfl) ⟨c0, ck, c1⟩ (fun hHeld => ?_)
  refine wpAnyH_take (i := 0) (oi := ⟨some 7, Op.load 24 (Operand.tmp 1), 24, _, _, none⟩) (v := ?v0n1k1) rfl (by kernel_rfl) (by kernel_rfl) (by kernel_rfl) (fun _ _ _ h => h) (Or.inl ⟨by rfl, ?y0n1k1⟩) hHeld ?z0n1k1
  case y0n1k1 => intro w hSw; (try dsimp only at hSw); go_simp <;> rfl
  try simp only [Act.put, List.setIfInBounds_toArray, List.set_cons_zero, List.set_cons_succ]
  refine wpAnyH_take (i := 1) (oi := ⟨some 8, Op.nilCheck (Operand.tmp 7), 0, _, _, none⟩) (v := ?v1n1k2) rfl (by kernel_rfl) (by kernel_rfl) (by kernel_rfl) (fun _ _ _ h => h) (Or.inl ⟨by rfl, ?y1n1k2⟩) hHeld ?z1n1k2
  case y1n1k2 => intro w hSw; (try dsimp only at hSw); go_simp <;> rfl
  try simp only [Act.put, List.setIfInBounds_toArray, List.set_cons_zero, List.set_cons_succ]
  refine wpAnyH_take (i := 2) (oi := ⟨some 9, Op.fieldAddr 27 (Operand.tmp 8) 0, 0, _, _, none⟩) (v := ?v2n1k3) rfl (by kernel_rfl) (by kernel_rfl) (by kernel_rfl) (fun _ _ _ h => h) (Or.inl ⟨by rfl, ?y2n1k3⟩) hHeld ?z2n1k3
  case y2n1k3 => intro w hSw; (try dsimp only at hSw); go_simp <;> rfl
  try simp only [Act.put, List.setIfInBounds_toArray, List.set_cons_zero, List.set_cons_succ]
  refine wpAnyH_take (i := 3) (oi := ⟨some 10, Op.load 25 (Operand.tmp 9), 25, _, _, none⟩) (v := ?v3n1k4) rfl (by kernel_rfl) (by kernel_rfl) (by kernel_rfl) (fun _ _ _ h => h) (Or.inl ⟨by rfl, ?y3n1k4⟩) hHeld ?z3n1k4
  case y3n1k4 => intro w hSw; (try dsimp only at hSw); go_simp <;> rfl
  try simp only [Act.put, List.setIfInBounds_toArray, List.set_cons_zero, List.set_cons_succ]
  refine wpAnyH_take (i := 4) (oi := ⟨some 11, Op.load 3 (Operand.tmp 2), 3, _, _, none⟩) (v := ?v4n1k5) rfl (by kernel_rfl) (by kernel_rfl) (by kernel_rfl) (fun _ _ _ h => h) (Or.inl ⟨by rfl, ?y4n1k5⟩) hHeld ?z4n1k5
  case y4n1k5 => intro w hSw; (try dsimp only at hSw); go_simp <;> rfl
  try simp only [Act.put, List.setIfInBounds_toArray, List.set_cons_zero, List.set_cons_succ]
  refine wpAnyH_ready (rs := [5]) (by kernel_rfl) (by simp) ?_
  refine AllReadyH.cons (o := ⟨some 12, Op.call { callee := Callee.value (Operand.func 28), args := #[Operand.tmp 10, Operand.tmp 11], argTypes := #[25, 3] }, 38, _, _, none⟩) rfl (fun K hK => ?_) AllReadyH.nil
  go_simp
  refine FD.out.mono ?_
  rintro e w3 ⟨rfl, k3⟩
  have c03 := k3.cell c0 (fun h => h)
  have ck3 := k3.cell ck (fun h => h)
  have c13 := k3.cell c1 (fun h => h)
  have K3 := Lib.hid ((Kept.drew noBlock W).step k3)
  dsimp only
  refine hK.out _ _ ⟨c03, ck3, c13⟩ (fun hHeld => ?_)
  clear hK K
  try simp only [Act.put, List.setIfInBounds_toArray, List.set_cons_zero, List.set_cons_succ]
  refine wpAnyH_take (i := 6) (oi := ⟨some 6, Op.move (Operand.tmp 12), 38, _, _, none⟩) (v := ?v6n1k6) rfl (by kernel_rfl) (by kernel_rfl) (by kernel_rfl) (fun _ _ _ h => h) (Or.inl ⟨by rfl, ?y6n1k6⟩) hHeld ?z6n1k6
  case y6n1k6 => intro w hSw; (try dsimp only at hSw); go_simp <;> rfl
  try simp only [Act.put, List.setIfInBounds_toArray, List.set_cons_zero, List.set_cons_succ]
  refine wpAnyH_take (i := 7) (oi := ⟨some 13, Op.extract (Operand.tmp 6) 0, 3, _, _, none⟩) (v := ?v7n1k7) rfl (by kernel_rfl) (by kernel_rfl) (by kernel_rfl) (fun _ _ _ h => h) (Or.inl ⟨by rfl, ?y7n1k7⟩) hHeld ?z7n1k7
  case y7n1k7 => intro w hSw; (try dsimp only at hSw); go_simp <;> rfl
  try simp only [Act.put, List.setIfInBounds_toArray, List.set_cons_zero, List.set_cons_succ]
  refine wpAnyH_take (i := 8) (oi := ⟨some 14, Op.extract (Operand.tmp 6) 1, 4, _, _, none⟩) (v := ?v8n1k8) rfl (by kernel_rfl) (by kernel_rfl) (by kernel_rfl) (fun _ _ _ h => h) (Or.inl ⟨by rfl, ?y8n1k8⟩) hHeld ?z8n1k8
  case y8n1k8 => intro w hSw; (try dsimp only at hSw); go_simp <;> rfl
  try simp only [Act.put, List.setIfInBounds_toArray, List.set_cons_zero, List.set_cons_succ]
  refine wpAnyH_take (i := 9) (oi := ⟨some 4, Op.assign (Operand.tmp 13), 3, _, _, none⟩) (v := ?v9n1k9) rfl (by kernel_rfl) (by kernel_rfl) (by kernel_rfl) (fun _ _ _ h => h) (Or.inl ⟨by rfl, ?y9n1k9⟩) hHeld ?z9n1k9
  case y9n1k9 => intro w hSw; (try dsimp only at hSw); go_simp <;> rfl
  try simp only [Act.put, List.setIfInBounds_toArray, List.set_cons_zero, List.set_cons_succ]
  refine wpAnyH_take (i := 10) (oi := ⟨some 5, Op.assign (Operand.tmp 14), 4, _, _, none⟩) (v := ?v10n1k10) rfl (by kernel_rfl) (by kernel_rfl) (by kernel_rfl) (fun _ _ _ h => h) (Or.inl ⟨by rfl, ?y10n1k10⟩) hHeld ?z10n1k10
  case y10n1k10 => intro w hSw; (try dsimp only at hSw); go_simp <;> rfl
  try simp only [Act.put, List.setIfInBounds_toArray, List.set_cons_zero, List.set_cons_succ]
  refine wpAnyH_done (by kernel_rfl) ?_ _
  refine NoPanic.normal ?_
  clear hHeld c0 ck c1 FD
  go_wp2_with fail
  refine (RR.out w3 K3.out).mono ?_
  rintro e w1 (⟨rfl, hJ1, _⟩ | ⟨rfl, ⟨part, hp, hJ1⟩, _⟩)
  · have HJ1 := Lib.hid hJ1; clear hJ1
    go_wp2
    go_end0
    exact ⟨⟨_, rfl⟩, .inl HJ1.out⟩
  · have HJ1 := Lib.hid hJ1; clear hJ1
    go_wp2
    go_end0
    exact ⟨⟨_, rfl⟩, .inr ⟨part, hp, HJ1.out⟩⟩

/-! ### falling -/
/-- The pairs from the last one on, each with its place. -/
def revL (L : List (Int × Int)) : List (Nat × (Int × Int)) := L.zipIdx.reverse.map fun p => (p.2, p.1)
theorem revL_len (L : List (Int × Int)) : (revL L).length = L.length := by simp [revL]
theorem revL_get (L : List (Int × Int)) {i : Nat} {x : Int × Int} (h : L[i]? = some x) : (revL L)[L.length - 1 - i]? = some (i, x) := by
  have hi : i < L.length := (List.getElem?_eq_some_iff.1 h).1
  unfold revL
  rw [List.getElem?_map, List.getElem?_reverse (by simp; omega)]
  simp only [List.length_zipIdx]
  rw [show L.length - 1 - (L.length - 1 - i) = i by omega, List.getElem?_zipIdx, h]
  simp
theorem revL_snd (L : List (Int × Int)) : (revL L).map (·.2) = L.reverse := by
  unfold revL
  rw [List.map_map]
  have : ((fun p : Nat × (Int × Int) => p.2) ∘ fun p : (Int × Int) × Nat => (p.2, p.1)) = Prod.fst := rfl
  rw [this, List.map_reverse, List.zipIdx_map_fst]
def encB (x : Nat × (Int × Int)) : Array Value := #[.int .i64 (x.1 : Int), .agg #[ek x.2.1, ev x.2.2]]

set_option maxRecDepth 100000 in
set_option maxHeartbeats 1000000 in
theorem bw_any (v : Value) (w : World) (hv : ∃ a n c, v = .slice a n c) :
    Calls Try.prog 37 #[v] w fun e w' => e = .returned (.func (.func 55) #[] #[.pointer (some ⟨w.heap.size, 0, none⟩)]) ∧ w'.heap[w.heap.size]? = some (.cells #[v] 25 (0, 0)) ∧ Kept noBlock w w' := by
  obtain ⟨a, n, c, rfl⟩ := hv
  go_enter Try.func37, Try.ntmps37
  go_wp2
  go_ret
  exact ⟨rfl, heap_alloc_new _ _, Kept.alloc _ _ _⟩

set_option maxRecDepth 100000 in
set_option maxHeartbeats 1000000 in
theorem bw1_runs (Bs : Nat) (a : Option Addr) (n c : Nat) (L : List (Int × Int)) (w : World) (hb : w.heap[Bs]? = some (.cells #[.slice a n c] 25 (0, 0))) (h : Rowed w 73 a (cells L)) (hl : L.length = n) (hn : n ≤ 1099511627776) :
    Runs Try.prog 55 #[.pointer (some ⟨Bs, 0, none⟩)] encB TT UU (revL L) w := by
  intro l J Jx W kW hJ hJx hY h0
  show Calls Try.prog 55 #[.func (.yield l) #[] #[], .pointer (some ⟨Bs, 0, none⟩)] W _
  have hb0 := kW.blk hb (fun h => h)
  have c0 : W.cell? ⟨Bs, 0, none⟩ = some (.slice a n c) := cell_of_row _ _ _ _ _ _ hb0
  have HB := Lib.hid hb0; clear hb0 hb
  have H := Lib.hid (h.kept kW); clear h
  have HL := Lib.hid hl; clear hl
  have HJ := Lib.hid hJ; clear hJ
  have HY := Lib.hid hY; clear hY
  have H0 := Lib.hid h0; clear h0 kW hJx
  go_enter Try.func55, Try.ntmps55
  go_wp2
  clear c0
  go_loopw [3] (fun e wr => ∃ k : Nat, k ≤ n ∧ e = .int .i64 ((k : Int) - 1) ∧ Hid (J ((revL L).take (n - k)) wr) ∧ Hid (Spares UU W wr)) (fun e _ => ((intOf e) + 1).toNat)
  case atStart => exact ⟨n, Nat.le_refl _, rfl, Lib.hid (by rw [Nat.sub_self]; exact H0.out), Lib.hid (Spares.refl _ _)⟩
  case round =>
    obtain ⟨k, hk, rfl, HJk, HS⟩ := hrel
    by_cases hlt : 0 < k
    · obtain ⟨i, hi⟩ : ∃ i, k = i + 1 := ⟨k - 1, by omega⟩
      have hki : (k : Int) - 1 = (i : Int) := by omega
      obtain ⟨x, hx⟩ : ∃ x, L[i]? = some x := ⟨L[i]'(by rw [HL.out]; omega), List.getElem?_eq_getElem _⟩
      have hR := H.out.keep (w' := wr) (fun g cs hg => HS.out g cs _ _ hg (.inl rfl))
      have cb : wr.cell? ⟨Bs, 0, none⟩ = some (.slice a n c) := cell_of_row _ _ _ _ _ _ (HS.out _ _ _ _ HB.out (.inr (.inl rfl)))
      obtain ⟨g, o, rfl, c0, c1⟩ := hR.pair hx
      have hrg := revL_get L hx
      rw [HL.out] at hrg
      have hrl := revL_len L
      rw [HL.out] at hrl
      have hj : n - 1 - i = n - k := by omega
      rw [hj] at hrg
      have htk : (revL L).take (n - i) = (revL L).take (n - k) ++ [(i, x)] := by
        rw [show n - i = n - k + 1 by omega]
        exact take_snoc _ _ _ hrg
      have hsp : revL L = (revL L).take (n - k) ++ (i, x) :: (revL L).drop (n - k + 1) := by
        have hk' : n - k < (revL L).length := by omega
        rw [List.getElem?_eq_getElem hk'] at hrg
        injection hrg with hrg
        rw [← hrg, List.getElem_cons_drop, List.take_append_drop]
      have YY := Lib.hid (HY.out _ (i, x) _ wr hsp HJk.out)
      rw [← htk] at YY
      have hin : i < n := by omega
      obtain ⟨x1, x2⟩ := x
      clear hx hR hrg hrl hj htk hsp
      unfold encB ek ev at *
      dsimp only at c0 c1
      go_upto_region 3 with (fail)
      refine (wpIn_wide (n := 1)).1 ?_
      obtain ⟨fn, tm, asg, bod, hy, hR⟩ := YY.out
      dsimp only at hy
      clear YY
      gi_wp2
      refine hR.mono ?_
      clear hR hy
      rintro e w5 (⟨rfl, hJ5, s5, k5⟩ | ⟨rfl, hJ5, s5, k5⟩)
      · have HJ5 := Lib.hid hJ5
        have HS5 := Lib.hid (HS.out.trans s5)
        clear hJ5 s5 k5 c0 c1 cb
        gi_wp2
        go_wp2
        go_roundw
        case rel => exact ⟨i, by omega, rfl, HJ5, HS5⟩
        case measure => simp [intOf]; omega
      · have HJ5 := Lib.hid hJ5
        clear hJ5 s5 k5 c0 c1 cb
        gi_wp2
        go_wp2
        refine bodyPost_ret (results_none rfl _ _ _) rfl ?_
        exact ⟨⟨_, rfl⟩, .inr ⟨_, List.take_prefix _ _, HJ5.out⟩⟩
    · obtain rfl : k = 0 := by omega
      have hJL : J (revL L) wr := by
        have := HJk.out
        rwa [List.take_of_length_le (by rw [revL_len, HL.out]; omega)] at this
      have HJL := Lib.hid hJL; clear hJL
      go_wp2
      go_end0
      exact ⟨⟨_, rfl⟩, .inl HJL.out⟩

set_option maxRecDepth 100000 in
set_option maxHeartbeats 1000000 in
theorem back_any (m : Nat) (w : World) :
    Calls Try.prog 21 #[.pointer (some ⟨m, 0, none⟩)] w fun e w' => e = .returned (.func (.func 36) #[] #[.pointer (some ⟨w.heap.size, 0, none⟩)]) ∧ w'.heap[w.heap.size]? = some (.cells #[.pointer (some ⟨m, 0, none⟩)] 24 (0, 0)) ∧ Kept noBlock w w' := by
  go_enter Try.func21, Try.ntmps21
  go_wp2
  go_ret
  exact ⟨rfl, heap_alloc_new _ _, Kept.alloc _ _ _⟩

/-- Where the loop of Back is. -/
structure BackI (J : List (Int × Int) → World → Prop) (W : World) (l By : Nat) (pre : List (Nat × (Int × Int))) (V : World) : Prop where
  j : J (pre.map Prod.snd) V
  y : V.heap[By]? = some (.cells #[.func (.yield l) #[] #[]] 43 (0, 0))
  size : W.heap.size ≤ V.heap.size

set_option maxRecDepth 100000 in
set_option maxHeartbeats 1000000 in
theorem back1_runs (Bb : Nat) (F : Nat → Prop) (m : Nat) (L : List (Int × Int)) (w : World) (hb : w.heap[Bb]? = some (.cells #[.pointer (some ⟨m, 0, none⟩)] 24 (0, 0))) (h : Mp w F m L) :
    Runs Try.prog 36 #[.pointer (some ⟨Bb, 0, none⟩)] enc TT UU L.reverse w := by
  intro l J Jx W kW hJ hJx hY h0
  show Calls Try.prog 36 #[.func (.yield l) #[] #[], .pointer (some ⟨Bb, 0, none⟩)] W _
  obtain ⟨A, c, h⟩ := h
  refine (callsIn_wide (n := 3)).1 ?_
  refine callsIn_of_wp_marks Try.func36 rfl trivial ?_ rfl
  simp only [Try.ntmps36, List.size_toArray, List.length_cons, List.length_nil, Nat.reduceAdd, Nat.reduceSub, Array.replicate_succ, Array.replicate_zero, List.push_toArray, List.append_toArray, List.nil_append, List.cons_append]
  refine wpIn_wide.2 ?_
  have ka := Kept.alloc noBlock W (.cells #[.func (.yield l) #[] #[]] 43)
  have h1 := h.keep (kW.step ka) (fun _ _ h => h)
  have c0 : (W.alloc (.cells #[.func (.yield l) #[] #[]] 43)).cell? ⟨Bb, 0, none⟩ = some (.pointer (some ⟨m, 0, none⟩)) := cell_of_row _ _ _ _ _ _ ((kW.step ka).blk hb (fun h => h))
  have c1 : (W.alloc (.cells #[.func (.yield l) #[] #[]] 43)).cell? ⟨m, 0, none⟩ = some (.slice A L.length c) := cell_of_row _ _ _ _ _ _ h1.blk
  have hyb : (W.alloc (.cells #[.func (.yield l) #[] #[]] 43)).heap[W.heap.size]? = some (.cells #[.func (.yield l) #[] #[]] 43 (0, 0)) := heap_alloc_new _ _
  have HBW := Lib.hid (bw_any (.slice A L.length c) (W.alloc (.cells #[.func (.yield l) #[] #[]] 43)) ⟨_, _, _, rfl⟩)
  have hlen := h.len
  obtain ⟨n, hn⟩ : ∃ n, n = L.length := ⟨_, rfl⟩
  rw [← hn] at c1 HBW hlen
  have HR0 := Lib.hid (Rowed.of_own h1.own)
  have HN := Lib.hid hn; clear hn
  obtain ⟨By, hBy⟩ : ∃ By, By = W.heap.size := ⟨_, rfl⟩
  rw [← hBy] at hyb
  have HY := Lib.hid hY; clear hY
  have HJ := Lib.hid hJ; clear hJ
  have HJx := Lib.hid hJx; clear hJx
  have h01 := HJ.out _ _ _ h0 (Abide.of_kept ka)
  have hsz : (W.alloc (.cells #[.func (.yield l) #[] #[]] 43)).heap.size = W.heap.size + 1 := by simp
  go_wp2_with fail
  rw [← hBy]
  generalize W.alloc (.cells #[.func (.yield l) #[] #[]] 43) = W1 at c0 c1 hyb HBW HR0 h01 hsz ⊢
  refine HBW.out.mono ?_
  clear HBW
  rintro e w2 ⟨rfl, b2, k2⟩
  have HRU := Lib.hid (bw1_runs W1.heap.size A n c L w2 b2 (HR0.out.kept k2) HN.out.symm (by omega))
  have hs2 := k2.size
  have I2 : Hid (BackI J W l By [] w2) := Lib.hid ⟨HJ.out _ _ _ h01 (Abide.of_kept k2), k2.blk hyb (fun h => h), by omega⟩
  have hW2 : W.heap.size ≤ w2.heap.size := by omega
  have hBy2 : By < w2.heap.size := by have := lt_of_blk hyb; omega
  obtain ⟨Bs, hBs⟩ : ∃ Bs, Bs = W1.heap.size := ⟨_, rfl⟩
  rw [← hBs] at HRU ⊢
  clear b2 k2 h01 hyb c0 c1 HR0 h h1 hb kW ka hBs hBy hsz h0
  go_wp2_with fail
  refine (wpIn_wide (n := 3)).1 ?_
  refine wpIn_runs_box rfl (enters_of Try.func55 (by kernel_rfl) rfl) HRU.out (Kept.refl _ _) (fun _ => rfl) 4 73 (fun _ => by unfold TT; decide) (fun x => #[ek x.2.1, ev x.2.2]) (fun pre V => Hid (BackI J W l By pre V)) (fun (cd : Code) (pre : List (Nat × (Int × Int))) (V : World) => Hid (cd = .ret ∧ Jx (pre.map Prod.snd) V))
    (fun s A B h k => Lib.hid ⟨HJ.out _ _ _ h.out.j (k.mono hW2), k.blk h.out.y (.inr (by unfold TT; decide)), Nat.le_trans h.out.size k.size⟩) (fun cd s A B h k => Lib.hid ⟨h.out.1, HJx.out _ _ _ h.out.2 (k.mono hW2)⟩) I2 ?assign ?body ?done ?stop
  case assign =>
    intro l2 x V K hK
    dsimp only [encB]
    simp only [landed, List.foldl_cons, List.foldl_nil, List.zip_toArray, List.zip_cons_cons, List.zip_nil_right, encB, List.foldl_toArray, List.setIfInBounds_toArray, List.set_cons_zero, List.set_cons_succ] at hK
    unfold ek ev at hK ⊢
    gi_wp2
    exact hK
  case body =>
    rintro l2 pre x rest Bx V hL hI hbx
    simp only [landed, List.foldl_cons, List.foldl_nil, List.zip_toArray, List.zip_cons_cons, List.zip_nil_right, encB, List.foldl_toArray, List.setIfInBounds_toArray, List.set_cons_zero, List.set_cons_succ]
    have hL2 : L.reverse = pre.map Prod.snd ++ x.2 :: rest.map Prod.snd := by rw [← revL_snd, hL]; simp
    have YY := HY.out _ x.2 _ V hL2 hI.out.j
    rw [show pre.map Prod.snd ++ [x.2] = (pre ++ [x]).map Prod.snd by simp] at YY
    obtain ⟨xi, x1, x2⟩ := x
    unfold enc at YY
    dsimp only at YY hbx
    have cy : V.cell? ⟨By, 0, none⟩ = some (.func (.yield l) #[] #[]) := cell_of_row _ _ _ _ _ _ hI.out.y
    unfold ek ev at *
    have cx0 : V.cell? ⟨Bx, 0, none⟩ = some (.int .i64 x1) := cell_of_row _ _ _ _ _ _ hbx
    have cx1 : V.cell? ⟨Bx, 1, none⟩ = some (.int .i64 x2) := cell_of_row _ _ _ _ _ _ hbx
    obtain ⟨fn, tm, asg, bod, hy, hR⟩ := yieldAt_round (l0 := l2) YY
    clear YY hL hL2 hbx
    gi_wp2
    refine hR.mono ?_
    clear hR hy
    rintro e w5 (⟨rfl, hJ5, s5, k5⟩ | ⟨rfl, hJ5, s5, k5⟩)
    · have I5 : Hid (BackI J W l By (pre ++ [(xi, x1, x2)]) w5) := Lib.hid ⟨hJ5, s5 _ _ _ _ hI.out.y (.inr (.inr rfl)), Nat.le_trans hI.out.size k5.size⟩
      have S5 := Lib.hid s5
      have K5 := Lib.hid (keepsFrom_mono k5 hW2)
      clear hJ5 s5 k5 hI cy cx0 cx1
      gi_wp2
      exact ⟨K5.out, S5.out, I5⟩
    · have J5 := Lib.hid hJ5
      have K5 := Lib.hid (keepsFrom_mono k5 hW2)
      have S5 := Lib.hid s5
      clear hJ5 s5 k5 hI cy cx0 cx1
      gi_wp2
      exact ⟨K5.out, S5.out, Lib.hid ⟨rfl, J5.out⟩⟩
  case done =>
    intro D V hD hI hK
    have hj := hI.out.j
    rw [show (revL L).map Prod.snd = L.reverse from revL_snd L] at hj
    have HJV := Lib.hid hj
    have HKD := Lib.hid hK
    clear hj hK hI
    go_wp2
    refine ⟨by simp, .inl ⟨_, _, rfl, run_takeDeferred HKD.out, ?_⟩⟩
    exact ⟨_, results_none rfl _ _ _, ⟨_, rfl⟩, .inl (HJ.out _ _ _ HJV.out (Abide.putObj _ (Nat.le_trans hW2 hD) HKD.out rfl))⟩
  case stop =>
    rintro D cd pre V hD hpre h hK
    obtain ⟨rfl, hj⟩ := h.out
    have HJV := Lib.hid hj
    have HKD := Lib.hid hK
    clear hj hK h
    gi_wp2
    refine ⟨by simp, .inl ⟨_, _, rfl, run_takeDeferred HKD.out, ?_⟩⟩
    refine ⟨_, results_none rfl _ _ _, ⟨_, rfl⟩, .inr ⟨pre.map Prod.snd, ?_, HJx.out _ _ _ HJV.out (Abide.putObj _ (Nat.le_trans hW2 hD) HKD.out rfl)⟩⟩
    rw [← revL_snd]
    obtain ⟨t, ht⟩ := hpre
    exact ⟨t.map Prod.snd, by rw [← ht]; simp⟩
end Go.Proofs.Ytohanlhfbfodlaa.II
