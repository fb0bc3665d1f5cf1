/-
  SortedDel: what it does with whatever deeds and keys. No statement is proved here.
-/
import Derived.Test.YtohanlhfbfodlaaL5Of
import Derived.Test.YtohanlhfbfodlaaTabTB
import Derived.IntWalk
namespace Go.Proofs.Ytohanlhfbfodlaa
open Go.RowKit Go.Shelf Go.Maps
attribute [local go_sem] Oper.semAt_some

/-- What is left where keys were taken away. -/
structure Took (Ln Lm : List (Int × Int)) (T : List (Int × Bool)) : Prop where
  upn : Srt.Up Ln
  upm : Srt.Up Lm
  upt : Srt.Up T
  look : ∀ j, Srt.look Lm j = if Srt.has T j = true then none else Srt.look Ln j
  true_ : ∀ j v, Srt.look T j = some v → v = true
theorem Took.next {Ln Lm : List (Int × Int)} {T : List (Int × Bool)} (h : Took Ln Lm T) (k : Int) : Took Ln (Srt.del Lm k) (Srt.put T k true) := by
  refine ⟨h.upn, Srt.up_del h.upm k, Srt.up_put h.upt k true, fun j => ?_, fun j v hv => ?_⟩
  · rw [Srt.look_del h.upm]
    unfold Srt.has
    rw [Srt.look_put h.upt]
    by_cases e : j = k
    · rw [if_pos e, if_pos e]; simp
    · rw [if_neg e, if_neg e]
      exact h.look j
  · rw [Srt.look_put h.upt] at hv
    by_cases e : j = k
    · rw [if_pos e] at hv; injection hv with hv; exact hv.symm
    · rw [if_neg e] at hv; exact h.true_ j v hv
theorem Took.tk {Ln Lm : List (Int × Int)} {T : List (Int × Bool)} (h : Took Ln Lm T) (j : Int) : (Srt.look T j).getD false = Srt.has T j := by
  unfold Srt.has
  cases hl : Srt.look T j with
  | none => rfl
  | some v => rw [h.true_ j v hl]; rfl
theorem Took.ok {Ln Lm : List (Int × Int)} {T : List (Int × Bool)} (h : Took Ln Lm T) {p : Int × Int} (hp : p ∈ Ln) : Srt.has Lm p.1 = !Srt.has T p.1 ∧ (Srt.has Lm p.1 = true → Srt.look Lm p.1 = some p.2) := by
  have hl := h.look p.1
  rw [Srt.look_of_mem h.upn (k := p.1) (v := p.2) hp] at hl
  cases ht : Srt.has T p.1 with
  | true =>
    rw [if_pos ht] at hl
    have : Srt.has Lm p.1 = false := (Srt.has_false _ _).2 hl
    rw [this]
    exact ⟨rfl, fun h => by cases h⟩
  | false =>
    rw [if_neg (by rw [ht]; simp)] at hl
    have : Srt.has Lm p.1 = true := (Srt.has_iff _ _).2 ⟨_, hl⟩
    rw [this]
    exact ⟨rfl, fun _ => hl⟩
def leftOf (Lm pre : List (Int × Int)) : Nat := (pre.filter fun p => Srt.has Lm p.1).length
theorem leftOf_snoc (Lm pre : List (Int × Int)) (p : Int × Int) : leftOf Lm (pre ++ [p]) = leftOf Lm pre + if Srt.has Lm p.1 = true then 1 else 0 := by
  unfold leftOf
  rw [List.filter_append, List.length_append]
  cases h : Srt.has Lm p.1 <;> simp [h]
theorem leftOf_le (Lm pre : List (Int × Int)) : leftOf Lm pre ≤ pre.length := List.length_filter_le _ _
theorem Took.left {Ln Lm : List (Int × Int)} {T : List (Int × Bool)} (h : Took Ln Lm T) : leftOf Lm Ln = Lm.length := by
  unfold leftOf
  congr 1
  refine Srt.up_ext (h.upn.sub (List.filter_sublist (l := Ln))) h.upm fun p => ?_
  rw [List.mem_filter]
  constructor
  · rintro ⟨h1, h2⟩
    exact Srt.mem_of_look (k := p.1) (v := p.2) ((h.ok h1).2 h2)
  · intro hp
    have hl := Srt.look_of_mem h.upm (k := p.1) (v := p.2) hp
    have h2 := h.look p.1
    rw [hl] at h2
    split at h2
    · cases h2
    · exact ⟨Srt.mem_of_look (k := p.1) (v := p.2) h2.symm, (Srt.has_iff _ _).2 ⟨_, hl⟩⟩

structure DelI (w : World) (B4 B5 B7 B10 b m n : Nat) (Lm Ln : List (Int × Int)) (T : List (Int × Bool)) (E : List Nat) (F G : Nat → Prop) (pre : List (Int × Int)) (W : World) : Prop where
  res : W.heap[B4]? = some (.cells #[.bool false] 4 (0, 0))
  mbox : W.heap[B5]? = some (.cells #[.pointer (some ⟨m, 0, none⟩)] 24 (0, 0))
  tbox : W.heap[B7]? = some (.cells #[.map (some b)] 58 (0, 0))
  num : W.heap[B10]? = some (.cells #[.int .i64 (leftOf Lm pre : Nat)] 3 (0, 0))
  tab : TB.Tb W b T
  two : TwoR w W m n Lm Ln E F G
section
variable {w A B W : World} {B4 B5 B7 B10 b m n m0 : Nat} {Lm Ln : List (Int × Int)} {T : List (Int × Bool)} {E : List Nat} {F G : Nat → Prop} {pre : List (Int × Int)}
theorem DelI.abide (h : DelI w B4 B5 B7 B10 b m n Lm Ln T E F G pre A) (k : Abide II.TT m0 A B) (hF : ∀ i, F i → i < m0) (hG : ∀ i, G i → i < m0) (hw : w.heap.size ≤ m0) (hb : b < m0) : DelI w B4 B5 B7 B10 b m n Lm Ln T E F G pre B :=
  ⟨k.blk h.res (.inr (by unfold II.TT; decide)), k.blk h.mbox (.inr (by unfold II.TT; decide)), k.blk h.tbox (.inr (by unfold II.TT; decide)), k.blk h.num (.inr (by unfold II.TT; decide)), h.tab.same (k.low b hb h.tab.lt), h.two.abide k hF hG hw⟩
theorem DelI.kept (h : DelI w B4 B5 B7 B10 b m n Lm Ln T E F G pre A) (k : Kept noBlock A B) : DelI w B4 B5 B7 B10 b m n Lm Ln T E F G pre B :=
  ⟨k.blk h.res (fun h => h), k.blk h.mbox (fun h => h), k.blk h.tbox (fun h => h), k.blk h.num (fun h => h), h.tab.keep k (fun h => h), h.two.kept k⟩
theorem DelI.up (h : DelI w B4 B5 B7 B10 b m n Lm Ln T E F G pre W) (p : Int × Int) (hp : Srt.has Lm p.1 = true) (hE : B10 ∈ E) (hw : w.heap.size ≤ B10) (d4 : B4 ≠ B10) (d5 : B5 ≠ B10) (d7 : B7 ≠ B10) :
    let W' := W.setCell ⟨B10, 0, none⟩ (.int .i64 ((leftOf Lm pre : Nat) + 1 : Int))
    KeepsFrom m0 W W' ∧ Spares II.UU W W' ∧ DelI w B4 B5 B7 B10 b m n Lm Ln T E F G (pre ++ [p]) W' := by
  intro W'
  have k : Kept (fun i => i = B10) W W' := Kept.setCell W (by rfl) _
  refine ⟨keepsFrom_kept k (fun i _ e => by subst e; exact ⟨_, _, _, h.num⟩), Spares.of k (fun i e => by subst e; exact ⟨_, _, _, h.num, by unfold II.UU; decide⟩), ⟨k.blk h.res d4, k.blk h.mbox d5, k.blk h.tbox d7, ?_, h.tab.keep k (h.tab.ne h.num), h.two.keep k (fun i e => by subst e; exact ⟨hE, hw⟩)⟩⟩
  have := setB (u := .int .i64 ((leftOf Lm pre : Nat) + 1 : Int)) h.num
  rw [leftOf_snoc, if_pos hp]
  exact this
theorem DelI.skip (h : DelI w B4 B5 B7 B10 b m n Lm Ln T E F G pre W) (p : Int × Int) (hp : Srt.has Lm p.1 = false) : DelI w B4 B5 B7 B10 b m n Lm Ln T E F G (pre ++ [p]) W :=
  ⟨h.res, h.mbox, h.tbox, by rw [leftOf_snoc, if_neg (by rw [hp]; simp)]; exact h.num, h.tab, h.two⟩
end

set_option maxRecDepth 100000 in
set_option maxHeartbeats 4000000 in
theorem del_walk (F F2 : Nat → Prop) (a : Option Addr) (n c : Nat) (xs : List ActV) (a2 : Option Addr) (n2 c2 : Nat) (ys : List Int) (w : World) (h : Lies w F a (actCells xs)) (hx : ∀ x ∈ xs, x.fit) (hl : xs.length = n) (hc : n ≤ c)
    (h2 : Lies w F2 a2 (ys.map (Value.int .i8))) (hy : ∀ z ∈ ys, -128 ≤ z ∧ z ≤ 127) (hl2 : ys.length = n2) (hc2 : n2 ≤ c2) :
    Calls Try.prog 8 #[.slice a n c, .slice a2 n2 c2] w fun e w' => e = .returned (.bool true) ∧ Kept noBlock w w' := by
  obtain ⟨M, hme⟩ : ∃ M, M = min n2 60 := ⟨_, rfl⟩
  have q1 : (if (60 : Int) < (n2 : Int) then (60 : Int) else (n2 : Int)) = (M : Int) := by split <;> omega
  have i1 : (M : Int) ≤ c2 := by omega
  have hmn : M ≤ n2 := by omega
  have hm60 : M ≤ 60 := by omega
  have HY := Lib.hid hy; clear hy
  have HL2 := Lib.hid hl2; clear hl2
  have H2 := Lib.hid h2; clear h2
  have OF := Lib.hid (fun W (kW : Kept noBlock w W) => of_any F a n c xs W (h.keep kW (fun _ _ h => h)) hx hl hc)
  have hsm := ofL_len (xs.take 60)
  have hsm2 : (ofL (xs.take 60)).length ≤ 60 := by have := List.length_take_le 60 xs; omega
  obtain ⟨Ln, hLn⟩ : ∃ Ln, Ln = ofL (xs.take 60) := ⟨_, rfl⟩
  have hupn : Srt.Up Ln := by rw [hLn]; exact ofL_up _
  have hsmall : Small Ln := by rw [hLn]; exact ofL_small (fun x hx' => hx x (List.mem_of_mem_take hx'))
  rw [← hLn] at OF hsm2
  have HUP := Lib.hid hupn
  have HSM := Lib.hid hsmall
  clear hme h hx hl hsm hLn hupn hsmall
  refine (callsIn_wide (n := 3)).1 ?_
  refine callsIn_of_wp_marks Try.func8 rfl trivial ?_ rfl
  simp only [Try.ntmps8, List.size_toArray, List.length_cons, List.length_nil, Nat.reduceAdd, Nat.reduceSub, Array.replicate_succ, Array.replicate_zero, List.push_toArray, List.append_toArray, List.nil_append, List.cons_append]
  refine wpIn_wide.2 ?_
  go_wp2_with fail
  have a4 := heap_alloc_new w (.cells #[.bool false] 4)
  have k4 := Kept.alloc noBlock w (.cells #[.bool false] 4)
  have s4 : (w.alloc (.cells #[.bool false] 4)).heap.size = w.heap.size + 1 := by simp
  obtain ⟨B4, hB4⟩ : ∃ B4, B4 = w.heap.size := ⟨_, rfl⟩
  rw [← hB4] at a4 ⊢
  generalize w.alloc (.cells #[.bool false] 4) = w0 at a4 k4 s4 ⊢
  refine (awake_any w0).mono ?_
  rintro e w1 ⟨rfl, k1⟩
  have A1 := Lib.hid (k1.blk a4 (fun h => h))
  have K1 := Lib.hid (k4.step k1)
  have hs1 : B4 < w1.heap.size := by have := k1.size; omega
  have h4w : w.heap.size ≤ B4 := by omega
  clear a4 k4 k1 s4 hB4
  go_wp2_with fail
  refine (OF.out w1 K1.out).mono ?_
  rintro e w2 ⟨m, rfl, o2, k2⟩
  have O2 := Lib.hid o2; clear o2
  have K2 := Lib.hid k2; clear k2
  go_wp2_with fail
  refine (OF.out w2 (K1.out.step K2.out)).mono ?_
  rintro e w3 ⟨nn, rfl, o3, k3⟩
  have t3 : Two w w3 m nn Ln Ln [B4] := Two.of K1.out O2.out K2.out o3 k3 (by intro e he; simp at he; omega)
  have b43 := k3.blk (K2.out.blk A1.out (fun h => h)) (fun h => h)
  have hs3 : B4 < w3.heap.size := by have := k3.size; have := K2.out.size; omega
  have T3 := Lib.hid t3
  have B43 := Lib.hid b43
  have hws : w.heap.size ≤ w3.heap.size := by omega
  clear t3 b43 o3 k3 O2 K2 A1 K1 OF
  have hmm := @run_makeMap Try.prog
  go_wp2_with fail
  have e5 : (w3.alloc (.cells #[.pointer (some ⟨m, 0, none⟩)] 24)).heap.size = w3.heap.size + 1 := by simp
  have e6 : ((w3.alloc (.cells #[.pointer (some ⟨m, 0, none⟩)] 24)).alloc (.map #[] 0)).heap.size = w3.heap.size + 1 + 1 := by simp
  have t5 := T3.out.more (Kept.alloc noBlock w3 (.cells #[.pointer (some ⟨m, 0, none⟩)] 24)) w3.heap.size (Nat.le_refl _) (by simp)
  have t6 := t5.more (Kept.alloc noBlock _ (.map #[] 0)) (w3.heap.size + 1) (by simp) (by simp)
  have t7 := t6.more (Kept.alloc noBlock _ (.cells #[.map (some (w3.heap.size + 1))] 58)) (w3.heap.size + 1 + 1) (by simp) (by simp)
  have kk7 : Kept noBlock w3 (((w3.alloc (.cells #[.pointer (some ⟨m, 0, none⟩)] 24)).alloc (.map #[] 0)).alloc (.cells #[.map (some (w3.heap.size + 1))] 58)) := ((Kept.alloc _ _ _).step (Kept.alloc _ _ _)).step (Kept.alloc _ _ _)
  have r4 := kk7.blk B43.out (fun h => h)
  have r5 : (((w3.alloc (.cells #[.pointer (some ⟨m, 0, none⟩)] 24)).alloc (.map #[] 0)).alloc (.cells #[.map (some (w3.heap.size + 1))] 58)).heap[w3.heap.size]? = some (.cells #[.pointer (some ⟨m, 0, none⟩)] 24 (0, 0)) := ((Kept.alloc noBlock _ _).step (Kept.alloc noBlock _ _)).blk (heap_alloc_new w3 _) (fun h => h)
  have r6 : TB.Tb (((w3.alloc (.cells #[.pointer (some ⟨m, 0, none⟩)] 24)).alloc (.map #[] 0)).alloc (.cells #[.map (some (w3.heap.size + 1))] 58)) (w3.heap.size + 1) [] := by
    have := World.ownsMap_made (w3.alloc (.cells #[.pointer (some ⟨m, 0, none⟩)] 24)) Try.prog 3 TB.rd
    rw [World.size_alloc] at this
    exact TB.Tb.keep ⟨this, List.Pairwise.nil⟩ (Kept.alloc noBlock _ _) (fun h => h)
  have r7 : (((w3.alloc (.cells #[.pointer (some ⟨m, 0, none⟩)] 24)).alloc (.map #[] 0)).alloc (.cells #[.map (some (w3.heap.size + 1))] 58)).heap[w3.heap.size + 1 + 1]? = some (.cells #[.map (some (w3.heap.size + 1))] 58 (0, 0)) := by
    have := heap_alloc_new ((w3.alloc (.cells #[.pointer (some ⟨m, 0, none⟩)] 24)).alloc (.map #[] 0)) (.cells #[.map (some (w3.heap.size + 1))] 58)
    rw [e6] at this
    exact this
  obtain ⟨B7, hB7⟩ : ∃ B7, B7 = w3.heap.size + 1 + 1 := ⟨_, rfl⟩
  obtain ⟨b, hb⟩ : ∃ b, b = w3.heap.size + 1 := ⟨_, rfl⟩
  obtain ⟨B5, hB5⟩ : ∃ B5, B5 = w3.heap.size := ⟨_, rfl⟩
  have d45 : B4 < B5 := by omega
  have d5b : B5 < b := by omega
  have db7 : b < B7 := by omega
  rw [← hB7, ← hb, ← hB5] at t7
  rw [← hb] at r4
  rw [← hb, ← hB5] at r5
  rw [← hb] at r6
  rw [← hB7, ← hb] at r7
  rw [← hB7, ← hb, ← hB5]
  generalize (((w3.alloc (.cells #[.pointer (some ⟨m, 0, none⟩)] 24)).alloc (.map #[] 0)).alloc (.cells #[.map (some b)] 58)) = w4 at t7 r4 r5 r6 r7 ⊢
  have hwb : w.heap.size ≤ b := by omega
  have T7 := Lib.hid t7
  have R4 := Lib.hid r4
  have R5 := Lib.hid r5
  have R6 := Lib.hid r6
  have R7 := Lib.hid r7
  clear e5 e6 t5 t6 t7 kk7 r4 r5 r6 r7 hB7 hb hB5 T3 B43 hmm hs1 hs3 hws
  go_loopw [28] (fun v wr => ∃ (k : Nat) (Lm : List (Int × Int)) (T : List (Int × Bool)), k ≤ M ∧ v = .int .i64 (k : Int) ∧ Hid (Two w wr m nn Lm Ln [B7, b, B5, B4]) ∧ Hid (Took Ln Lm T) ∧ Hid (T.length ≤ k) ∧ Hid (wr.heap[B4]? = some (.cells #[.bool false] 4 (0, 0))) ∧
      Hid (wr.heap[B5]? = some (.cells #[.pointer (some ⟨m, 0, none⟩)] 24 (0, 0))) ∧ Hid (wr.heap[B7]? = some (.cells #[.map (some b)] 58 (0, 0))) ∧ Hid (TB.Tb wr b T)) (fun v _ => M - (intOf v).toNat)
  case atStart => exact ⟨0, Ln, [], Nat.zero_le _, rfl, T7, Lib.hid ⟨HUP.out, HUP.out, List.Pairwise.nil, fun j => rfl, fun j v hv => by cases hv⟩, Lib.hid (Nat.le_refl _), R4, R5, R7, R6⟩
  case round =>
    clear T7 R4 R5 R6 R7
    obtain ⟨k, Lm, T, hk, rfl, HT, HTK, HTL, R4, R5, R7, R6⟩ := hrel
    by_cases hlt : k < M
    · obtain ⟨z, hzk⟩ : ∃ z, ys[k]? = some z := ⟨ys[k]'(by rw [HL2.out]; omega), List.getElem?_eq_getElem _⟩
      obtain ⟨f2, f3⟩ := HY.out z (List.mem_of_getElem? hzk)
      obtain ⟨g, o, rfl, _, hcell⟩ := (H2.out.keep HT.out.world (fun _ _ h => h)).norm (by intro e; have := congrArg List.length e; rw [List.length_map, HL2.out] at this; simp at this; omega)
      have cz : wr.cell? ⟨g, o + k, none⟩ = some (.int .i8 z) := hcell k _ (by rw [List.getElem?_map, hzk]; rfl)
      have c5 : wr.cell? ⟨B5, 0, none⟩ = some (.pointer (some ⟨m, 0, none⟩)) := cell_of_row _ _ _ _ _ _ R5.out
      have P := Lib.hid (HT.out.del z)
      have hfit : TB.Fits z := ⟨by omega, by omega⟩
      have HNX := Lib.hid (HTK.out.next z)
      have hTl := HTL.out
      clear hzk hcell
      go_wp2_with fail
      refine P.out.mono ?_
      rintro e w5 ⟨rfl, t5, s5⟩
      have T5 := Lib.hid t5
      have Q4 := Lib.hid ((s5 B4 (by simp)).trans R4.out)
      have Q5 := Lib.hid ((s5 B5 (by simp)).trans R5.out)
      have Q7 := Lib.hid ((s5 B7 (by simp)).trans R7.out)
      have Q6 := Lib.hid (R6.out.same (s5 b (by simp)))
      have c7 : w5.cell? ⟨B7, 0, none⟩ = some (.map (some b)) := cell_of_row _ _ _ _ _ _ Q7.out
      have HMX : Hid (T.length < maxLen) := Lib.hid (by unfold maxLen; omega)
      clear t5 s5 P R4 R5 R6 R7 HT cz c5
      go_wp2_with (with_reducible refine TB.wpList_put rfl (.tmp 36) (.tmp 38) (.const (.bool true)) rfl b T rfl Q6.out z rfl hfit HMX.out true rfl ?_)
      intro w6 t6 k6
      have T6 := Lib.hid (T5.out.keep k6 (fun i e => by subst e; exact ⟨by simp, hwb⟩))
      have S4 := Lib.hid (k6.blk Q4.out (by omega))
      have S5 := Lib.hid (k6.blk Q5.out (by omega))
      have S7 := Lib.hid (k6.blk Q7.out (by omega))
      have S6 := Lib.hid t6
      have HTL6 : Hid ((Srt.put T z true).length ≤ k + 1) := Lib.hid (by have := Srt.put_len T z true; split at this <;> omega)
      clear t6 k6 Q4 Q5 Q6 Q7 T5 c7 HMX
      go_wp2
      go_roundw
      case rel => exact ⟨k + 1, _, _, by omega, by go_num, T6, HNX, HTL6, S4, S5, S7, S6⟩
      case measure => simp [intOf]; omega
    · obtain rfl : k = M := by omega
      clear hk hlt HTL
      have hnum : (wr.alloc (.cells #[.int .i64 0] 3)).heap[wr.heap.size]? = some (.cells #[.int .i64 0] 3 (0, 0)) := heap_alloc_new _ _
      have t8 := HT.out.more (Kept.alloc noBlock wr (.cells #[.int .i64 0] 3)) wr.heap.size (Nat.le_refl _) (by simp)
      have ka := Kept.alloc noBlock wr (.cells #[.int .i64 0] 3)
      have l4 := lt_of_blk R4.out
      have l5 := lt_of_blk R5.out
      have l7 := lt_of_blk R7.out
      have S4 := Lib.hid (ka.blk R4.out (fun h => h))
      have S5 := Lib.hid (ka.blk R5.out (fun h => h))
      have S7 := Lib.hid (ka.blk R7.out (fun h => h))
      have S6 := Lib.hid (R6.out.keep ka (fun h => h))
      have hwr := HT.out.world.size
      go_wp2_with fail
      obtain ⟨B10, hB10⟩ : ∃ B10, B10 = wr.heap.size := ⟨_, rfl⟩
      rw [← hB10] at hnum t8 ⊢
      have d4 : B4 ≠ B10 := by omega
      have d5 : B5 ≠ B10 := by omega
      have d7 : B7 ≠ B10 := by omega
      have hw10 : w.heap.size ≤ B10 := by omega
      generalize wr.alloc (.cells #[.int .i64 0] 3) = w5 at hnum t8 S4 S5 S6 S7 ⊢
      have T8 := Lib.hid t8
      have N8 := Lib.hid hnum
      clear ka hnum t8 R4 R5 R6 R7 HT l4 l5 l7 hwr hB10
      refine (II.all_any nn w5).mono ?_
      rintro e w6 ⟨rfl, bb, k6⟩
      obtain ⟨FF, GG, t6⟩ := T8.out.kept k6
      have hwT := t6.two.world.size
      have HFF := Lib.hid (show ∀ i, FF i → i < w6.heap.size from t6.1.lt)
      have HGG := Lib.hid (show ∀ i, GG i → i < w6.heap.size from t6.2.1.lt)
      have HR := Lib.hid (II.all1_runs w5.heap.size GG nn Ln w6 bb t6.2.1)
      have I6 : Hid (DelI w B4 B5 B7 B10 b m nn Lm Ln T [B10, B7, b, B5, B4] FF GG [] w6) := Lib.hid ⟨k6.blk S4.out (fun h => h), k6.blk S5.out (fun h => h), k6.blk S7.out (fun h => h), k6.blk N8.out (fun h => h), S6.out.keep k6 (fun h => h), t6⟩
      have hbw : b < w6.heap.size := I6.out.tab.lt
      obtain ⟨Bb, hBb⟩ : ∃ Bb, Bb = w5.heap.size := ⟨_, rfl⟩
      rw [← hBb] at HR ⊢
      clear bb k6 hBb t6 T8 N8 S4 S5 S6 S7
      go_wp2_with fail
      refine (wpIn_wide (n := 3)).1 ?_
      refine wpIn_runs_to rfl (enters_of Try.func34 (by kernel_rfl) rfl) HR.out (Kept.refl _ _) (fun _ => rfl) (fun p => [(11, II.ek p.1), (12, II.ev p.2)]) (fun pre W => Hid (DelI w B4 B5 B7 B10 b m nn Lm Ln T [B10, B7, b, B5, B4] FF GG pre W)) (fun _ _ _ => False)
        (fun s A B h k => Lib.hid (h.out.abide k HFF.out HGG.out hwT hbw)) (fun _ _ _ _ h _ => h) I6 ?assign ?body ?done ?stop
      case assign =>
        intro l p W K hK
        dsimp only [II.enc]
        simp only [landed, List.foldl_cons, List.foldl_nil, List.zip_toArray, List.zip_cons_cons, List.zip_nil_right, II.enc, List.foldl_toArray, List.setIfInBounds_toArray, List.set_cons_zero, List.set_cons_succ] at hK
        gi_wp2
        exact hK
      case body =>
        rintro l pre p rest W hL hI
        simp only [landed, List.foldl_cons, List.foldl_nil, List.zip_toArray, List.zip_cons_cons, List.zip_nil_right, II.enc, List.foldl_toArray, List.setIfInBounds_toArray, List.set_cons_zero, List.set_cons_succ]
        have hpm : p ∈ Ln := by rw [hL]; simp
        have hpre : pre.length < Ln.length := by rw [hL]; simp
        obtain ⟨ok1, ok2⟩ := HTK.out.ok hpm
        obtain ⟨f2, f3⟩ := HSM.out p hpm
        have hfit : TB.Fits p.1 := ⟨by omega, by omega⟩
        have tk := HTK.out.tk p.1
        have g1 := hI.out.two.two.get p.1
        have hup := fun h => hI.out.up (m0 := w6.heap.size) p h (by simp) hw10 d4 d5 d7
        have hskip := fun h => hI.out.skip p h
        have hle := leftOf_le Lm pre
        have c5 : W.cell? ⟨B5, 0, none⟩ = some (.pointer (some ⟨m, 0, none⟩)) := cell_of_row _ _ _ _ _ _ hI.out.mbox
        obtain ⟨lf, hlf⟩ : ∃ lf, lf = leftOf Lm pre := ⟨_, rfl⟩
        rw [← hlf] at hle hup
        have hnum := hI.out.num
        rw [← hlf] at hnum
        have hlf2 : lf < 9223372036854775807 := by omega
        obtain ⟨pk, pv⟩ := p
        dsimp only at ok1 ok2 f2 f3 hfit tk g1 hup hskip
        have RL := Lib.hid (fun W' (kW : Kept noBlock W W') => TB.run_look1 b T (hI.out.tab.keep kW (fun h => h)) pk hfit)
        rw [tk] at RL
        unfold TB.ev at RL
        unfold II.ek II.ev
        have HLF := Lib.hid hlf
        clear tk hlf hpre hle
        cases hok : Srt.has Lm pk with
        | true =>
          have hl := ok2 hok
          have hht : Srt.has T pk = false := by cases ht : Srt.has T pk with | false => rfl | true => rw [hok, ht] at ok1; cases ok1
          rw [hok, hl, Option.getD_some] at g1
          rw [hht] at RL
          have G1 := Lib.hid g1
          have UP := Lib.hid (fun W' (kW : Kept noBlock W W') => (hI.out.kept kW).up (m0 := w6.heap.size) (pk, pv) hok (by simp) hw10 d4 d5 d7)
          clear hskip hup hok ok1 ok2 hl hht g1 hL
          gi_wp2_with fail
          refine ⟨trivial, ?_⟩
          refine (CallsIn.inRound l (callsIn_wide.2 G1.out)).mono ?_
          rintro e w7 ⟨rfl, k7⟩
          have c7 : w7.cell? ⟨B7, 0, none⟩ = some (.map (some b)) := cell_of_row _ _ _ _ _ _ (k7.blk hI.out.tbox (fun h => h))
          have n7 := k7.blk hnum (fun h => h)
          have c10 : w7.cell? ⟨B10, 0, none⟩ = some (.int .i64 (lf : Int)) := cell_of_row _ _ _ _ _ _ n7
          have f10 : w7.frozen? ⟨B10, 0, none⟩ = false := frozen_of_row _ _ _ _ _ n7
          have rl := RL.out w7 k7
          have u7 := UP.out w7 k7
          rw [← HLF.out] at u7
          have U7 := Lib.hid u7
          have KF := Lib.hid (keepsFrom_kept (B := w6.heap.size) k7 (fun _ _ h => h.elim))
          have SP := Lib.hid (Spares.of_kept (U := II.UU) k7)
          clear u7 k7 n7 hI c5 G1 RL UP hnum
          gi_wp2
          exact ⟨KF.out.trans U7.out.1, SP.out.trans U7.out.2.1, Lib.hid U7.out.2.2⟩
        | false =>
          have hht : Srt.has T pk = true := by cases ht : Srt.has T pk with | true => rfl | false => rw [hok, ht] at ok1; cases ok1
          rw [hok] at g1
          rw [hht] at RL
          generalize (Srt.look Lm pk).getD 0 = zz at g1
          have G1 := Lib.hid g1
          have UP := Lib.hid (fun W' (kW : Kept noBlock W W') => (hI.out.kept kW).skip (pk, pv) hok)
          clear hskip hup hok ok1 ok2 hht g1 hL
          gi_wp2_with fail
          refine ⟨trivial, ?_⟩
          refine (CallsIn.inRound l (callsIn_wide.2 G1.out)).mono ?_
          rintro e w7 ⟨rfl, k7⟩
          have c7 : w7.cell? ⟨B7, 0, none⟩ = some (.map (some b)) := cell_of_row _ _ _ _ _ _ (k7.blk hI.out.tbox (fun h => h))
          have rl := RL.out w7 k7
          have U7 := Lib.hid (UP.out w7 k7)
          have KF := Lib.hid (keepsFrom_kept (B := w6.heap.size) k7 (fun _ _ h => h.elim))
          have SP := Lib.hid (Spares.of_kept (U := II.UU) k7)
          clear k7 hI c5 G1 RL UP hnum
          gi_wp2
          exact ⟨KF.out, SP.out, Lib.hid U7.out⟩
      case done =>
        intro D W hD hI hK
        have hn := hI.out.num
        rw [HTK.out.left] at hn
        obtain ⟨lm, hlm⟩ : ∃ lm, lm = Lm.length := ⟨_, rfl⟩
        have Q := Lib.hid (hI.out.two.two.kept (Kept.drew noBlock W)).size
        rw [← hlm] at hn Q
        have c10 : W.drew.cell? ⟨B10, 0, none⟩ = some (.int .i64 (lm : Int)) := cell_of_row _ _ _ _ _ _ hn
        have c5 : W.drew.cell? ⟨B5, 0, none⟩ = some (.pointer (some ⟨m, 0, none⟩)) := cell_of_row _ _ _ _ _ _ hI.out.mbox
        have c4 : W.drew.cell? ⟨B4, 0, none⟩ = some (.bool false) := cell_of_row _ _ _ _ _ _ hI.out.res
        have f4 : W.drew.frozen? ⟨B4, 0, none⟩ = false := frozen_of_row _ _ _ _ _ hI.out.res
        have k7 : Kept (fun i => i = B4) W (W.setCell ⟨B4, 0, none⟩ (.bool true)).drew := (Kept.setCell (S := fun i => i = B4) W (by rfl) _).step (Kept.drew _ _)
        have c10s : (W.setCell ⟨B4, 0, none⟩ (.bool true)).drew.cell? ⟨B10, 0, none⟩ = some (.int .i64 (lm : Int)) := k7.cell (p := ⟨B10, 0, none⟩) c10 (Ne.symm d4)
        have c5s : (W.setCell ⟨B4, 0, none⟩ (.bool true)).drew.cell? ⟨B5, 0, none⟩ = some (.pointer (some ⟨m, 0, none⟩)) := k7.cell (p := ⟨B5, 0, none⟩) c5 (by show ¬ B5 = B4; omega)
        have r7 : (W.setCell ⟨B4, 0, none⟩ (.bool true)).drew.heap[B4]? = some (.cells #[.bool true] 4 (0, 0)) := setB (u := .bool true) hI.out.res
        have hk7 := k7.blk hK (fun e => by subst e; rw [hI.out.res] at hK; cases hK)
        have st : Abide II.TT w6.heap.size (W.setCell ⟨B4, 0, none⟩ (.bool true)).drew ((W.setCell ⟨B4, 0, none⟩ (.bool true)).drew.putObj D (.deferred none)) := Abide.putObj _ hD hk7 rfl
        have FIN := Lib.hid (Abide.kept (hI.out.two.two.world.trans k7 (fun i hi e => by omega)) st hwT)
        have R8 := Lib.hid (st.blk r7 (.inr (by unfold II.TT; decide)))
        have HK7 := Lib.hid hk7
        clear hK hlm hn k7 hI st r7 hk7
        go_upto_region 20 with (fail)
        refine wp_region_noPanic ?_
        refine wp_region_held_drew (S := fun w' => w'.cell? ⟨B10, 0, none⟩ = some (.int .i64 (lm : Int)) ∧ w'.cell? ⟨B5, 0, none⟩ = some (.pointer (some ⟨m, 0, none⟩))) (by kernel_rfl) ⟨c10, c5⟩ (fun hHeld => ?_)
        refine wpAnyH_take (i := 0) (oi := ⟨some 66, Op.load 3 (Operand.tmp 10), 3, _, _, none⟩) (v := ?v0n3k1) rfl (by kernel_rfl) (by kernel_rfl) (by kernel_rfl) (fun _ _ _ h => h) (Or.inl ⟨by rfl, ?y0n3k1⟩) hHeld ?z0n3k1
        case y0n3k1 => intro w hSw; (try dsimp only at hSw); go_simp <;> rfl
        try simp only [Act.put, List.setIfInBounds_toArray, List.set_cons_zero, List.set_cons_succ]
        refine wpAnyH_take (i := 1) (oi := ⟨some 67, Op.load 24 (Operand.tmp 5), 24, _, _, none⟩) (v := ?v1n3k2) rfl (by kernel_rfl) (by kernel_rfl) (by kernel_rfl) (fun _ _ _ h => h) (Or.inl ⟨by rfl, ?y1n3k2⟩) hHeld ?z1n3k2
        case y1n3k2 => intro w hSw; (try dsimp only at hSw); go_simp <;> rfl
        try simp only [Act.put, List.setIfInBounds_toArray, List.set_cons_zero, List.set_cons_succ]
        refine wpAnyH_ready (rs := [2]) (by kernel_rfl) (by simp) ?_
        refine AllReadyH.cons (o := ⟨some 68, Op.call { callee := Callee.value (Operand.func 17), args := #[Operand.tmp 67], argTypes := #[24] }, 3, _, _, none⟩) rfl (fun K hK => ?_) AllReadyH.nil
        go_simp
        refine Q.out.mono ?_
        rintro e w8 ⟨rfl, rfl⟩
        dsimp only
        refine hK.out _ _ ⟨c10, c5⟩ (fun hHeld => ?_)
        clear hK K
        try simp only [Act.put, List.setIfInBounds_toArray, List.set_cons_zero, List.set_cons_succ]
        refine wpAnyH_take (i := 3) (oi := ⟨some 69, Op.binOp BinOp.eql 3 (Operand.tmp 66) (Operand.tmp 68) 3, 4, _, _, none⟩) (v := ?v3n3k3) rfl (by kernel_rfl) (by kernel_rfl) (by kernel_rfl) (fun _ _ _ h => h) (Or.inl ⟨by rfl, ?y3n3k3⟩) hHeld ?z3n3k3
        case y3n3k3 => intro w hSw; (try dsimp only at hSw); go_simp <;> rfl
        try simp only [Act.put, List.setIfInBounds_toArray, List.set_cons_zero, List.set_cons_succ]
        refine wpAnyH_ready (rs := [4]) (by kernel_rfl) (by simp) ?_
        refine AllReadyH.cons (o := ⟨none, Op.store 4 (Operand.tmp 4) (Operand.tmp 69), 0, _, _, none⟩) rfl (fun K hK => ?_) AllReadyH.nil
        go_simp
        refine hK.out _ _ ⟨c10s, c5s⟩ (fun hHeld => ?_)
        clear hK K
        try simp only [Act.put, List.setIfInBounds_toArray, List.set_cons_zero, List.set_cons_succ]
        refine wpAnyH_done (by kernel_rfl) ?_ _
        refine NoPanic.normal ?_
        clear hHeld c10 c5 c4 f4 c10s c5s Q
        go_wp2
        refine ⟨by simp, .inl ⟨_, _, rfl, run_takeDeferred HK7.out, ?_⟩⟩
        exact ⟨_, results_box rfl _ _ B4 (.bool true) rfl (cell_of_row _ _ _ _ _ _ R8.out), rfl, FIN.out⟩
      case stop =>
        rintro D c pre W _ _ h _
        exact h.elim
end Go.Proofs.Ytohanlhfbfodlaa
