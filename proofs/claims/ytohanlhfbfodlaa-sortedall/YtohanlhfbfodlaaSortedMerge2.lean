/-
  Merge, and the function that it tells. No statement is proved here.
-/
import Derived.Test.YtohanlhfbfodlaaSortedMerge
import Derived.Sort.CutIn
import Derived.RangeFuncBound
namespace Go.Proofs.Ytohanlhfbfodlaa.II
open Go.RowKit Srt Tot Go.Shelf
attribute [local go_sem] Oper.semAt_some

set_option maxRecDepth 100000 in
set_option maxHeartbeats 1000000 in
theorem merge_any (ga gb : Nat) (la lb : Array Value) (w : World) :
    Calls Try.prog 23 #[.func (.func ga) #[] la, .func (.func gb) #[] lb] w fun e w' => e = .returned (.func (.func 39) #[] #[.pointer (some ⟨w.heap.size + 1, 0, none⟩), .pointer (some ⟨w.heap.size, 0, none⟩)]) ∧
      w'.heap[w.heap.size]? = some (.cells #[.func (.func ga) #[] la] 50 (0, 0)) ∧ w'.heap[w.heap.size + 1]? = some (.cells #[.func (.func gb) #[] lb] 50 (0, 0)) ∧ Kept noBlock w w' := by
  go_enter Try.func23, Try.ntmps23
  go_wp2
  go_ret
  exact ⟨rfl, heap_alloc2_old _ _ _, heap_alloc2_new _ _ _, (Kept.alloc _ _ _).step (Kept.alloc _ _ _)⟩

/-- Where the loop of Merge is. -/
structure MgI (J : List (Int × Int) → World → Prop) (W : World) (l By Br : Nat) (Lb : List (Int × Int)) (pre : List (Int × Int)) (V : World) : Prop where
  j : J (emt pre Lb) V
  y : V.heap[By]? = some (.cells #[.func (.yield l) #[] #[]] 43 (0, 0))
  rest : ∃ a n c, V.heap[Br]? = some (.cells #[.slice a n c] 25 (0, 0)) ∧ Rowed V 73 a (cells (rst pre Lb)) ∧ (rst pre Lb).length = n ∧ n ≤ c
theorem MgI.abide {J : List (Int × Int) → World → Prop} {W A B : World} {l By Br m0 : Nat} {Lb pre : List (Int × Int)} (h : MgI J W l By Br Lb pre A) (hJ : ∀ s A B, J s A → Abide TT W.heap.size A B → J s B) (k : Abide NT m0 A B) (hw : W.heap.size ≤ m0) : MgI J W l By Br Lb pre B := by
  obtain ⟨a, n, c, h1, h2, h3, h4⟩ := h.rest
  exact ⟨hJ _ _ _ h.j ((k.mono hw).more (fun _ _ h => h.elim)), k.blk h.y (.inr (fun h => h)), a, n, c, k.blk h1 (.inr (fun h => h)), h2.keep (fun g cs hg => k.blk hg (.inr (fun h => h))), h3, h4⟩

theorem pcells_one (L : List (Int × Int)) (n : Nat) : cells (L.take n) = (cells L).take (n * 2) := pcells_take ek ev L n
theorem pcells_two (L : List (Int × Int)) (n : Nat) : cells (L.drop n) = (cells L).drop (n * 2) := pcells_drop ek ev L n

set_option maxRecDepth 100000 in
set_option maxHeartbeats 2000000 in
theorem merge1_runs (Bb Ba : Nat) (va vb : Value) (Ua Ub : Nat → TypeId → Prop) (La Lb : List (Int × Int)) (w : World) (hbb : w.heap[Bb]? = some (.cells #[vb] 50 (0, 0))) (hba : w.heap[Ba]? = some (.cells #[va] 50 (0, 0)))
    (ha : Seq va Ua La w) (hb : Seq vb Ub Lb w) (hub : Up Lb) (hlb : Lb.length ≤ 1048576) :
    Runs Try.prog 39 #[.pointer (some ⟨Bb, 0, none⟩), .pointer (some ⟨Ba, 0, none⟩)] enc TT UU (mrg La Lb) w := by
  intro l J Jx W kW hJ hJx hY h0
  show Calls Try.prog 39 #[.func (.yield l) #[] #[], .pointer (some ⟨Bb, 0, none⟩), .pointer (some ⟨Ba, 0, none⟩)] W _
  obtain ⟨gb, lb, hvb, egb, hrb⟩ := hb.is
  obtain ⟨ga, la, hva, ega, hra⟩ := ha.is
  subst hva hvb
  have hwW := kW.size
  have ka := Kept.alloc noBlock W (.cells #[.func (.yield l) #[] #[]] 43)
  have hbL : Seq (.func (.func gb) #[] lb) Ub Lb (W.alloc (.cells #[.func (.yield l) #[] #[]] 43)) := ⟨⟨gb, lb, rfl, egb, hrb.later (kW.step ka)⟩, fun k t h => by have := hb.own k t h; exact ⟨by simp; omega, this.2⟩⟩
  have LAY := Lib.hid (lay_any _ Ub Lb _ hbL hlb)
  have cb : (W.alloc (.cells #[.func (.yield l) #[] #[]] 43)).cell? ⟨Bb, 0, none⟩ = some (.func (.func gb) #[] lb) := cell_of_row _ _ _ _ _ _ ((kW.step ka).blk hbb (fun h => h))
  have HBA := Lib.hid ((kW.step ka).blk hba (fun h => h))
  have hyb : (W.alloc (.cells #[.func (.yield l) #[] #[]] 43)).heap[W.heap.size]? = some (.cells #[.func (.yield l) #[] #[]] 43 (0, 0)) := heap_alloc_new _ _
  have hj1 := hJ _ _ _ h0 (Abide.of_kept ka)
  have hsz : (W.alloc (.cells #[.func (.yield l) #[] #[]] 43)).heap.size = W.heap.size + 1 := by simp
  have HRA := Lib.hid (hra.later (kW.step ka))
  have HUA := Lib.hid (fun k t (h : Ua k t) => (⟨Nat.lt_of_lt_of_le (ha.own k t h).1 hwW, (ha.own k t h).2⟩ : k < W.heap.size ∧ t = 73))
  have HUB := Lib.hid hub
  have HJ := Lib.hid hJ
  have HJx := Lib.hid hJx
  have HY := Lib.hid hY
  have EGA := Lib.hid ega
  clear hJ hJx hY hra hrb hbb hba ha hb hub ega egb hbL h0 hwW ka kW
  refine (callsIn_wide (n := 3)).1 ?_
  refine callsIn_of_wp_marks Try.func39 rfl trivial ?_ rfl
  simp only [Try.ntmps39, List.size_toArray, List.length_cons, List.length_nil, Nat.reduceAdd, Nat.reduceSub, Array.replicate_succ, Array.replicate_zero, List.push_toArray, List.append_toArray, List.nil_append, List.cons_append]
  refine wpIn_wide.2 ?_
  go_wp2_with fail
  obtain ⟨By, hBy⟩ : ∃ By, By = W.heap.size := ⟨_, rfl⟩
  rw [← hBy] at hyb ⊢
  generalize W.alloc (.cells #[.func (.yield l) #[] #[]] 43) = W1 at LAY cb HBA hyb hj1 hsz HRA ⊢
  refine LAY.out.mono ?_
  clear LAY cb
  rintro e w2 ⟨A, c, rfl, o2, k2⟩
  have hnc : Lb.length ≤ c := by obtain ⟨_, _, e, hle⟩ := own_form o2; injection e with _ _ e; omega
  have hs2 := k2.size
  have hyb2 := k2.blk hyb (fun h => h)
  have HBA2 := k2.blk HBA.out (fun h => h)
  have hj2 := HJ.out _ _ _ hj1 (Abide.of_kept k2)
  have hra2 := HRA.out.later k2
  clear hyb HBA hj1 HRA k2
  have ka := Kept.alloc noBlock w2 (.cells #[.slice A Lb.length c] 25)
  have I3 : Hid (MgI J W l By w2.heap.size Lb [] (w2.alloc (.cells #[.slice A Lb.length c] 25))) := Lib.hid ⟨HJ.out _ _ _ hj2 (Abide.of_kept ka), ka.blk hyb2 (fun h => h), A, Lb.length, c, heap_alloc_new _ _, (Rowed.of_own o2).kept ka, rfl, hnc⟩
  have ca : (w2.alloc (.cells #[.slice A Lb.length c] 25)).cell? ⟨Ba, 0, none⟩ = some (.func (.func ga) #[] la) := cell_of_row _ _ _ _ _ _ (ka.blk HBA2 (fun h => h))
  have HRA3 := Lib.hid (hra2.later ka)
  have hsz3 : (w2.alloc (.cells #[.slice A Lb.length c] 25)).heap.size = w2.heap.size + 1 := by simp
  go_wp2_with fail
  obtain ⟨Br, hBr⟩ : ∃ Br, Br = w2.heap.size := ⟨_, rfl⟩
  rw [← hBr] at I3 ⊢
  generalize w2.alloc (.cells #[.slice A Lb.length c] 25) = w3 at I3 ca HRA3 hsz3 ⊢
  have hWB : W.heap.size ≤ Br := by omega
  have hW3 : W.heap.size ≤ w3.heap.size := by omega
  clear hj2 hra2 hyb2 HBA2 ka o2 hnc hBr hsz hs2 hsz3 ca
  subst hBy
  refine (wpIn_wide (n := 3)).1 ?_
  refine wpIn_runs_to rfl EGA.out HRA3.out (Kept.refl _ _) (fun _ => rfl) (fun p => [(5, ek p.1), (6, ev p.2)]) (fun pre V => Hid (MgI J W l W.heap.size Br Lb pre V)) (fun cd _ V => Hid (cd = Code.ret ∧ ∃ q, q <+: mrg La Lb ∧ Jx q V))
    (fun s A B h k => Lib.hid (h.out.abide HJ.out k hW3)) (fun cd s A B h k => Lib.hid ⟨h.out.1, by obtain ⟨q, h1, h2⟩ := h.out.2; exact ⟨q, h1, HJx.out _ _ _ h2 ((k.mono hW3).more (fun _ _ h => h.elim))⟩⟩) I3 ?assign ?body ?done ?stop
  case assign =>
    intro l2 x V K hK
    dsimp only [enc]
    simp only [landed, List.foldl_cons, List.foldl_nil, List.zip_toArray, List.zip_cons_cons, List.zip_nil_right, enc, List.foldl_toArray, List.setIfInBounds_toArray, List.set_cons_zero, List.set_cons_succ] at hK
    gi_wp2
    exact hK
  case body =>
    rintro l2 pre x rest V hL hI
    simp only [landed, List.foldl_cons, List.foldl_nil, List.zip_toArray, List.zip_cons_cons, List.zip_nil_right, enc, List.foldl_toArray, List.setIfInBounds_toArray, List.set_cons_zero, List.set_cons_succ]
    obtain ⟨a, n, c, hbr, hrow, hrl, hnc⟩ := hI.out.rest
    obtain ⟨k, v⟩ := x
    obtain ⟨R, hR⟩ : ∃ R, R = rst pre Lb := ⟨_, rfl⟩
    rw [← hR] at hrow hrl
    have hupR : Up R := by rw [hR]; exact up_rst HUB.out pre
    have hRl : R.length ≤ 1048576 := by have := rst_len pre Lb; rw [hR]; omega
    have hpl := pos_le R k
    have hM : mrg La Lb = emt pre Lb ++ (R.take (pos R k) ++ (k, (Srt.look R k).getD v) :: mrg rest (past R k)) := by rw [hL, mrg_append, ← hR]; rfl
    have hE : emt (pre ++ [(k, v)]) Lb = emt pre Lb ++ (R.take (pos R k) ++ [(k, (Srt.look R k).getD v)]) := by rw [emt_snoc, ← hR]
    have hR2 : rst (pre ++ [(k, v)]) Lb = past R k := by rw [rst_snoc, ← hR]
    have cr : V.cell? ⟨Br, 0, none⟩ = some (.slice a n c) := cell_of_row _ _ _ _ _ _ hbr
    have FD := Lib.hid (find_any a n c R k V hrow hrl hnc (by omega) hupR)
    obtain ⟨p, hp⟩ : ∃ p, p = pos R k := ⟨_, rfl⟩
    obtain ⟨hh, hhh⟩ : ∃ hh, hh = has R k := ⟨_, rfl⟩
    rw [← hp, ← hhh] at FD
    have HHH := Lib.hid hhh; clear hhh
    unfold ek at FD ⊢
    unfold ev
    dsimp only
    rw [← hp] at hM hE hpl
    have HM := Lib.hid hM; clear hM
    obtain ⟨v2, hv2⟩ : ∃ v2, v2 = (Srt.look R k).getD v := ⟨_, rfl⟩
    rw [← hv2] at HM hE
    have HV2 := Lib.hid hv2; clear hv2
    have FIN : Hid (∀ (Y : World) (aR : Option Addr) (nR cR : Nat), J (emt pre Lb ++ R.take p) Y → Y.heap[W.heap.size]? = some (.cells #[.func (.yield l) #[] #[]] 43 (0, 0)) → Y.heap[Br]? = some (.cells #[.slice aR nR cR] 25 (0, 0)) → Rowed Y 73 aR (cells (past R k)) → (past R k).length = nR → nR ≤ cR →
        KeepsFrom w3.heap.size V Y → Spares Ua V Y → YieldAt Fence.wide 0 Try.prog l #[.int .i64 k, .int .i64 v2] Y fun e Z => (e = .returned (.bool true) ∧ Hid (KeepsFrom w3.heap.size V Z ∧ Spares Ua V Z ∧ Hid (MgI J W l W.heap.size Br Lb (pre ++ [(k, v)]) Z))) ∨
          (e = .returned (.bool false) ∧ Hid (KeepsFrom w3.heap.size V Z ∧ Spares Ua V Z ∧ Hid (∃ q, q <+: mrg La Lb ∧ Jx q Z)))) := Lib.hid (by
      intro Y aR nR cR mj my mr mrow ml mc kf sp
      have YY := HY.out (emt pre Lb ++ R.take p) (k, v2) (mrg rest (past R k)) Y (by rw [HM.out]; simp) mj
      refine YieldAt.mono YY ?_
      rintro e Z (⟨rfl, hJ5, s5, k5⟩ | ⟨rfl, hJ5, s5, k5⟩)
      · refine .inl ⟨rfl, Lib.hid ⟨kf.trans (keepsFrom_mono k5 hW3), sp.trans (s5.mono (fun k t h => .inl (HUA.out k t h).2)), Lib.hid ⟨?_, s5 _ _ _ _ my (.inr (.inr rfl)), aR, nR, cR, s5 _ _ _ _ mr (.inr (.inl rfl)), ?_, ?_, mc⟩⟩⟩
        · rw [hE, ← List.append_assoc]; exact hJ5
        · rw [hR2]; exact mrow.keep (fun g cs hg => s5 g cs _ _ hg (.inl rfl))
        · rw [hR2]; exact ml
      · refine .inr ⟨rfl, Lib.hid ⟨kf.trans (keepsFrom_mono k5 hW3), sp.trans (s5.mono (fun k t h => .inl (HUA.out k t h).2)), Lib.hid ⟨_, ?_, hJ5⟩⟩⟩
        exact ⟨mrg rest (past R k), by rw [HM.out]; simp⟩)
    clear hE hR2
    have HP := Lib.hid hp; clear hp
    have HRW := Lib.hid hrow; clear hrow
    have HRL := Lib.hid hrl; clear hrl
    have HUR := Lib.hid hupR; clear hupR
    have HBR := Lib.hid hbr; clear hbr
    have hpn : p ≤ n := by have := HRL.out; omega
    have hn1 : n ≤ 1048576 := by have := HRL.out; omega
    clear hpl hR hL
    gi_wp2_with fail
    refine ⟨trivial, ?_⟩
    refine (CallsIn.inRound l2 (callsIn_wide.2 FD.out)).mono ?_
    rintro e V1 ⟨rfl, k1⟩
    have y1 : V1.drew.heap[W.heap.size]? = some (.cells #[.func (.yield l) #[] #[]] 43 (0, 0)) := k1.blk hI.out.y (fun h => h)
    have r1 : V1.drew.heap[Br]? = some (.cells #[.slice a n c] 25 (0, 0)) := k1.blk HBR.out (fun h => h)
    have row1 : Rowed V1.drew 73 a (cells R) := HRW.out.kept (k1.step (Kept.drew noBlock V1))
    have j1 : J (emt pre Lb) V1.drew := HJ.out _ _ _ hI.out.j (Abide.of_kept (k1.step (Kept.drew noBlock V1)))
    have RUN : Hid (Calls Try.prog 35 #[.slice a p c, .func (.yield l) #[] #[]] V1.drew fun e V2 => ∃ t, e = .returned (.bool t) ∧ Spares UU V1.drew V2 ∧ KeepsFrom W.heap.size V1.drew V2 ∧ Hid ((t = true → J (emt pre Lb ++ R.take p) V2) ∧ (t = false → ∃ q, q <+: mrg La Lb ∧ Jx q V2))) := Lib.hid (by
      refine (run_any a p c (R.take p) l W.heap.size J Jx (emt pre Lb) V1.drew (by rw [pcells_one]; exact row1.take _) (by rw [List.length_take, HRL.out]; omega) (by omega) (by omega) HJ.out ?_ j1).mono ?_
      · intro pr' y r' Wz he hj
        exact HY.out (emt pre Lb ++ pr') y (r' ++ (k, v2) :: mrg rest (past R k)) Wz (by rw [HM.out, he]; simp) hj
      · rintro e V2 (⟨rfl, h1, h2, h3⟩ | ⟨rfl, ⟨q, hq, h1⟩, h2, h3⟩)
        · exact ⟨true, rfl, h2, h3, Lib.hid ⟨(fun _ => h1), (fun h => by cases h)⟩⟩
        · refine ⟨false, rfl, h2, h3, Lib.hid ⟨(fun h => by cases h), (fun _ => ⟨_, ?_, h1⟩)⟩⟩
          obtain ⟨z, hz⟩ := hq
          exact ⟨z ++ (k, v2) :: mrg rest (past R k), by rw [HM.out, ← hz]; simp⟩)
    have KF1 := Lib.hid ((keepsFrom_kept (B := w3.heap.size) k1 (fun _ _ h => h.elim)).trans (keepsFrom_kept (Kept.drew noBlock V1) (fun _ _ h => h.elim)))
    have SP1 := Lib.hid (show Spares Ua V V1.drew from Spares.of_kept (k1.step (Kept.drew noBlock V1)))
    have cy : V1.drew.cell? ⟨W.heap.size, 0, none⟩ = some (.func (.yield l) #[] #[]) := cell_of_row _ _ _ _ _ _ y1
    have cr1 : V1.drew.cell? ⟨Br, 0, none⟩ = some (.slice a n c) := cell_of_row _ _ _ _ _ _ r1
    have Y1 := Lib.hid y1
    have R1 := Lib.hid r1
    have ROW1 := Lib.hid row1
    have hpi : (p : Int) ≤ c := by omega
    clear FD y1 r1 row1 j1 k1 cr HRW HBR hI
    gi_upto_region 6 with (fail)
    refine wpIn_region_round (S := fun w' => w'.cell? ⟨Br, 0, none⟩ = some (.slice a n c) ∧ w'.cell? ⟨W.heap.size, 0, none⟩ = some (.func (.yield l) #[] #[])) (by kernel_rfl) (by kernel_rfl) ⟨cr1, cy⟩ (fun hHeld => ?_)
    refine wpAnyH_take (i := 0) (oi := ⟨some 20, Op.load 25 (Operand.tmp 4), 25, _, _, none⟩) (v := ?v0n1k1) rfl (by kernel_rfl) (by kernel_rfl) (by kernel_rfl) (fun _ _ _ h => h) (Or.inl ⟨by rfl, ?y0n1k1⟩) hHeld ?z0n1k1
    case y0n1k1 => intro w hSw; (try dsimp only at hSw); go_simp <;> rfl
    try simp only [Act.put, List.setIfInBounds_toArray, List.set_cons_zero, List.set_cons_succ]
    refine wpAnyH_take (i := 1) (oi := ⟨some 21, Op.move (Operand.tmp 7), 3, _, _, none⟩) (v := ?v1n1k2) rfl (by kernel_rfl) (by kernel_rfl) (by kernel_rfl) (fun _ _ _ h => h) (Or.inl ⟨by rfl, ?y1n1k2⟩) hHeld ?z1n1k2
    case y1n1k2 => intro w hSw; (try dsimp only at hSw); go_simp <;> rfl
    try simp only [Act.put, List.setIfInBounds_toArray, List.set_cons_zero, List.set_cons_succ]
    refine wpAnyH_take (i := 2) (oi := ⟨some 22, Op.slice 25 (Operand.tmp 20) none (some (Operand.tmp 21)) none, 25, _, _, none⟩) (v := ?v2n1k3) rfl (by kernel_rfl) (by kernel_rfl) (by kernel_rfl) (fun _ _ _ h => h) (Or.inl ⟨by rfl, ?y2n1k3⟩) hHeld ?z2n1k3
    case y2n1k3 => intro w hSw; (try dsimp only at hSw); go_simp <;> rfl
    try simp only [Act.put, List.setIfInBounds_toArray, List.set_cons_zero, List.set_cons_succ]
    refine wpAnyH_take (i := 3) (oi := ⟨some 23, Op.load 43 (Operand.tmp 3), 43, _, _, none⟩) (v := ?v3n1k4) rfl (by kernel_rfl) (by kernel_rfl) (by kernel_rfl) (fun _ _ _ h => h) (Or.inl ⟨by rfl, ?y3n1k4⟩) hHeld ?z3n1k4
    case y3n1k4 => intro w hSw; (try dsimp only at hSw); go_simp <;> rfl
    try simp only [Act.put, List.setIfInBounds_toArray, List.set_cons_zero, List.set_cons_succ]
    refine wpAnyH_ready (rs := [4]) (by kernel_rfl) (by simp) ?_
    refine AllReadyH.cons (o := ⟨some 24, Op.call { callee := Callee.value (Operand.func 35), args := #[Operand.tmp 22, Operand.tmp 23], argTypes := #[25, 43] }, 4, _, _, none⟩) rfl (fun K hK => ?_) AllReadyH.nil
    go_simp
    refine RUN.out.mono ?_
    rintro e V2 ⟨t, rfl, s2, k2, ht⟩
    have y2 := s2 _ _ _ _ Y1.out (.inr (.inr rfl))
    have r2 := s2 _ _ _ _ R1.out (.inr (.inl rfl))
    have row2 := ROW1.out.keep (fun g cs hg => s2 g cs _ _ hg (.inl rfl))
    have cy2 : V2.cell? ⟨W.heap.size, 0, none⟩ = some (.func (.yield l) #[] #[]) := cell_of_row _ _ _ _ _ _ y2
    have cr2 : V2.cell? ⟨Br, 0, none⟩ = some (.slice a n c) := cell_of_row _ _ _ _ _ _ r2
    have KF2 := Lib.hid (KF1.out.trans (keepsFrom_mono k2 hW3))
    have SP2 : Hid (Spares Ua V V2) := Lib.hid (SP1.out.trans (s2.mono (fun k t h => .inl (HUA.out k t h).2)))
    have Y2 := Lib.hid y2
    have R2 := Lib.hid r2
    have ROW2 := Lib.hid row2
    clear y2 r2 row2 s2 k2
    dsimp only
    refine hK.out _ _ ⟨cr2, cy2⟩ (fun hHeld => ?_)
    clear hK K
    try simp only [Act.put, List.setIfInBounds_toArray, List.set_cons_zero, List.set_cons_succ]
    refine wpAnyH_take (i := 5) (oi := ⟨some 25, Op.unOp UnOp.not 4 (Operand.tmp 24), 4, _, _, none⟩) (v := ?v5n1k5) rfl (by kernel_rfl) (by kernel_rfl) (by kernel_rfl) (fun _ _ _ h => h) (Or.inl ⟨by rfl, ?y5n1k5⟩) hHeld ?z5n1k5
    case y5n1k5 => intro w hSw; (try dsimp only at hSw); go_simp <;> rfl
    try simp only [Act.put, List.setIfInBounds_toArray, List.set_cons_zero, List.set_cons_succ]
    refine wpAnyH_done (by kernel_rfl) ?_ _
    refine Ends.of ?_
    clear hHeld cy cr1 RUN KF1 SP1 Y1 R1 ROW1
    cases t with
    | false =>
      have JF := Lib.hid (ht.out.2 rfl)
      clear ht FIN
      gi_wp2
      exact ⟨KF2.out, SP2.out, Lib.hid ⟨rfl, JF.out⟩⟩
    | true =>
      have jt := ht.out.1 rfl
      have f2 : V2.frozen? ⟨Br, 0, none⟩ = false := frozen_of_row _ _ _ _ _ R2.out
      obtain ⟨A1, hA1⟩ : ∃ A1, (if c = p then a else a.map (fun x => x.add (p * 2))) = A1 := ⟨_, rfl⟩
      have row3 : Rowed V2 73 A1 (cells (R.drop p)) := by
        rw [pcells_two, ← hA1]
        refine ROW2.out.drop p (p * 2) (fun hlt => ?_)
        have := pcells_len ek ev R
        have := HRL.out
        unfold cells at hlt
        omega
      have ks : Kept (fun b => b = Br) V2 (V2.setCell ⟨Br, 0, none⟩ (.slice A1 (n - p) (c - p))) := Kept.setCell V2 (by rfl) _
      have r3 : (V2.setCell ⟨Br, 0, none⟩ (.slice A1 (n - p) (c - p))).heap[Br]? = some (.cells #[.slice A1 (n - p) (c - p)] 25 (0, 0)) := setB R2.out
      have y3 := ks.blk Y2.out (fun e => by have h1 := Y2.out; rw [e, R2.out] at h1; cases h1)
      have row3' : Rowed (V2.setCell ⟨Br, 0, none⟩ (.slice A1 (n - p) (c - p))) 73 A1 (cells (R.drop p)) := row3.keep (fun g cs hg => ks.blk hg (fun e => by subst e; rw [R2.out] at hg; cases hg))
      have j3 : J (emt pre Lb ++ R.take p) (V2.setCell ⟨Br, 0, none⟩ (.slice A1 (n - p) (c - p))) := HJ.out _ _ _ jt (Abide.setCell (p := ⟨Br, 0, none⟩) _ hWB R2.out rfl)
      have kf3 := KF2.out.trans (keepsFrom_kept (B := w3.heap.size) ks (fun b _ e => by subst e; exact ⟨_, _, _, R2.out⟩))
      have sp3 := SP2.out.trans (Spares.of (U := Ua) ks (fun b e => by subst e; exact ⟨_, _, _, R2.out, fun h => by have := (HUA.out _ _ h).2; exact absurd this (by decide)⟩))
      have hpi2 : (p : Int) ≤ n := by omega
      clear ht jt row3 ks
      cases hh with
      | false =>
        have hnone : Srt.look R k = none := (has_false R k).1 HHH.out.symm
        have hvv : v2 = v := by rw [HV2.out, hnone]; rfl
        have hpast : past R k = R.drop p := by unfold past; rw [← HHH.out, ← HP.out]; rfl
        subst hvv
        have cy3 : (V2.setCell ⟨Br, 0, none⟩ (.slice A1 (n - p) (c - p))).cell? ⟨W.heap.size, 0, none⟩ = some (.func (.yield l) #[] #[]) := cell_of_row _ _ _ _ _ _ y3
        have YF := FIN.out _ A1 (n - p) (c - p) j3 y3 r3 (by rw [hpast]; exact row3') (by rw [hpast, List.length_drop, HRL.out]) (by omega) kf3 sp3
        clear FIN j3 y3 r3 row3' kf3 sp3 hnone hpast HM
        obtain ⟨fn, tm, asg, bod, hy, hRd⟩ := yieldAt_round (l0 := l2) YF
        clear YF
        gi_wp2
        refine hRd.mono ?_
        clear hRd hy
        rintro e Z (⟨rfl, hz⟩ | ⟨rfl, hz⟩)
        · gi_wp2
          exact hz.out
        · gi_wp2
          exact ⟨hz.out.1, hz.out.2.1, Lib.hid ⟨rfl, hz.out.2.2.out⟩⟩
      | true =>
        obtain ⟨u, hu, hlu⟩ := has_at HUR.out HHH.out.symm
        have hlt := has_lt HUR.out HHH.out.symm
        rw [← HP.out] at hu hlt
        rw [HRL.out] at hlt
        have hvv : v2 = u := by rw [HV2.out, hlu]; rfl
        have hpast : past R k = R.drop (p + 1) := by unfold past; rw [← HHH.out, ← HP.out]; rfl
        subst hvv
        have hd0 : (R.drop p)[0]? = some (k, v2) := by rw [List.getElem?_drop]; exact hu
        obtain ⟨g, o, rfl, ck0, ck1⟩ := row3'.pair hd0
        rw [Nat.zero_mul, Nat.add_zero] at ck0 ck1
        obtain ⟨X, hX⟩ : ∃ X, V2.setCell ⟨Br, 0, none⟩ (.slice (some ⟨g, o, none⟩) (n - p) (c - p)) = X := ⟨_, rfl⟩
        rw [hX] at r3 y3 row3' j3 kf3 sp3 ck1
        have crX : X.drew.cell? ⟨Br, 0, none⟩ = some (.slice (some ⟨g, o, none⟩) (n - p) (c - p)) := cell_of_row _ _ _ _ _ _ r3
        have frX : X.drew.frozen? ⟨Br, 0, none⟩ = false := frozen_of_row _ _ _ _ _ r3
        have ckX : X.drew.cell? ⟨g, o + 1, none⟩ = some (.int .i64 v2) := ck1
        have hnp : 0 < n - p := by omega
        have hnp2 : (1 : Int) ≤ ((n - p : Nat) : Int) := by omega
        obtain ⟨A2, hA2⟩ : ∃ A2, (if c - p = 1 then some (⟨g, o, none⟩ : Addr) else some ⟨g, o + 2, none⟩) = A2 := ⟨_, rfl⟩
        have hcp : ¬ (c = p) := by omega
        rw [if_neg hcp] at hA1
        have hxg : ∃ cs, X.heap[g]? = some (.cells cs 73 (0, 0)) := by
          obtain ⟨g', o', cs, e, hg, _⟩ := row3' (fun e => by have := congrArg List.length e; unfold cells at this; rw [pcells_len, List.length_drop, HRL.out] at this; simp at this; omega)
          injection e with e
          injection e with e1 e2
          subst e1
          exact ⟨cs, hg⟩
        have hgB : g ≠ Br := by
          obtain ⟨cs, hg⟩ := hxg
          rintro rfl
          rw [r3] at hg
          cases hg
        have ks2 : Kept (fun b => b = Br) X (X.setCell ⟨Br, 0, none⟩ (.slice A2 (n - p - 1) (c - p - 1))).drew := (Kept.setCell (S := fun b => b = Br) X (by rfl) _).step (Kept.drew _ _)
        have r4 : (X.setCell ⟨Br, 0, none⟩ (.slice A2 (n - p - 1) (c - p - 1))).drew.heap[Br]? = some (.cells #[.slice A2 (n - p - 1) (c - p - 1)] 25 (0, 0)) := setB r3
        have y4 := ks2.blk y3 (fun e => by have h1 := y3; rw [e, r3] at h1; cases h1)
        have row4 : Rowed (X.setCell ⟨Br, 0, none⟩ (.slice A2 (n - p - 1) (c - p - 1))).drew 73 A2 (cells (R.drop (p + 1))) := by
          have h9 : Rowed X 73 (if c - p = 1 then some ⟨g, o, none⟩ else (some (⟨g, o, none⟩ : Addr)).map (·.add 2)) (cells (R.drop (p + 1))) := by
            rw [show R.drop (p + 1) = (R.drop p).drop 1 by rw [List.drop_drop], pcells_two]
            refine row3'.drop 1 2 (fun hlt2 => ?_)
            have := pcells_len ek ev (R.drop p)
            have h8 := HRL.out
            rw [List.length_drop] at this
            unfold cells at hlt2
            omega
          simp only [Option.map_some, add_plain] at h9
          rw [hA2] at h9
          exact h9.keep (fun g' cs hg => ks2.blk hg (fun e => by subst e; rw [r3] at hg; cases hg))
        have ckY := ks2.cell (p := ⟨g, o + 1, none⟩) ck1 hgB
        have j4 : J (emt pre Lb ++ R.take p) (X.setCell ⟨Br, 0, none⟩ (.slice A2 (n - p - 1) (c - p - 1))).drew := HJ.out _ _ _ (HJ.out _ _ _ j3 (Abide.setCell (p := ⟨Br, 0, none⟩) _ hWB r3 rfl)) (Abide.of_kept (Kept.drew _ _))
        have kf4 := kf3.trans (keepsFrom_kept (B := w3.heap.size) ks2 (fun b _ e => by subst e; exact ⟨_, _, _, r3⟩))
        have sp4 := sp3.trans (Spares.of (U := Ua) ks2 (fun b e => by subst e; exact ⟨_, _, _, r3, fun h => by have := (HUA.out _ _ h).2; exact absurd this (by decide)⟩))
        have cyY : (X.setCell ⟨Br, 0, none⟩ (.slice A2 (n - p - 1) (c - p - 1))).drew.cell? ⟨W.heap.size, 0, none⟩ = some (.func (.yield l) #[] #[]) := cell_of_row _ _ _ _ _ _ y4
        have YF := Lib.hid (FIN.out _ A2 (n - p - 1) (c - p - 1) j4 y4 r4 (by rw [hpast]; exact row4) (by rw [hpast, List.length_drop, HRL.out]; omega) (by omega) kf4 sp4)
        clear ck0 ck1 hxg hgB ks2 r4 y4 row4 j4 kf4 sp4 FIN j3 y3 r3 row3' kf3 sp3 hpast hu hlu hd0 HM
        gi_upto_region 9 with (fail)
        clear hX
        refine wpIn_region_round (S := fun w' => w'.cell? ⟨g, o + 1, none⟩ = some (.int .i64 v2)) (by kernel_rfl) (by kernel_rfl) ckX (fun hHeld => ?_)
        refine wpAnyH_ready (rs := [0, 4]) (by kernel_rfl) (by simp) ?_
        refine (AllReadyH.cons (o := ⟨some 30, Op.load 25 (Operand.tmp 4), 25, _, _, none⟩) rfl (fun K hK => ?b0n2k2) (AllReadyH.cons (o := ⟨some 34, Op.load 25 (Operand.tmp 4), 25, _, _, none⟩) rfl (fun K hK => ?b4n2k1) AllReadyH.nil))
        case b0n2k2 =>
          go_simp
          refine hK.out _ _ ckX (fun hHeld => ?_)
          clear hK K
          try simp only [Act.put, List.setIfInBounds_toArray, List.set_cons_zero, List.set_cons_succ]
          refine wpAnyH_take (i := 1) (oi := ⟨some 31, Op.indexAddr 25 (Operand.tmp 30) (Operand.const (Value.int IntKind.i64 0)), 0, _, _, none⟩) (v := ?v1n2k3) rfl (by kernel_rfl) (by kernel_rfl) (by kernel_rfl) (fun _ _ _ h => h) (Or.inl ⟨by rfl, ?y1n2k3⟩) hHeld ?z1n2k3
          case y1n2k3 => intro w hSw; (try dsimp only at hSw); go_simp <;> rfl
          try simp only [Act.put, List.setIfInBounds_toArray, List.set_cons_zero, List.set_cons_succ]
          refine wpAnyH_take (i := 2) (oi := ⟨some 32, Op.fieldAddr 73 (Operand.tmp 31) 1, 0, _, _, none⟩) (v := ?v2n2k4) rfl (by kernel_rfl) (by kernel_rfl) (by kernel_rfl) (fun _ _ _ h => h) (Or.inl ⟨by rfl, ?y2n2k4⟩) hHeld ?z2n2k4
          case y2n2k4 => intro w hSw; (try dsimp only at hSw); go_simp <;> rfl
          try simp only [Act.put, List.setIfInBounds_toArray, List.set_cons_zero, List.set_cons_succ]
          refine wpAnyH_take (i := 3) (oi := ⟨some 33, Op.load 3 (Operand.tmp 32), 3, _, _, none⟩) (v := ?v3n2k5) rfl (by kernel_rfl) (by kernel_rfl) (by kernel_rfl) (fun _ _ _ h => h) (Or.inl ⟨by rfl, ?y3n2k5⟩) hHeld ?z3n2k5
          case y3n2k5 => intro w hSw; (try dsimp only at hSw); go_simp <;> rfl
          try simp only [Act.put, List.setIfInBounds_toArray, List.set_cons_zero, List.set_cons_succ]
          refine wpAnyH_take (i := 6) (oi := ⟨some 6, Op.assign (Operand.tmp 33), 3, _, _, none⟩) (v := ?v6n2k6) rfl (by kernel_rfl) (by kernel_rfl) (by kernel_rfl) (fun _ _ _ h => h) (Or.inl ⟨by rfl, ?y6n2k6⟩) hHeld ?z6n2k6
          case y6n2k6 => intro w hSw; (try dsimp only at hSw); go_simp <;> rfl
          try simp only [Act.put, List.setIfInBounds_toArray, List.set_cons_zero, List.set_cons_succ]
          refine wpAnyH_ready (rs := [4]) (by kernel_rfl) (by simp) ?_
          refine AllReadyH.cons (o := ⟨some 34, Op.load 25 (Operand.tmp 4), 25, _, _, none⟩) rfl (fun K hK => ?_) AllReadyH.nil
          go_simp
          refine hK.out _ _ ckX (fun hHeld => ?_)
          clear hK K
          try simp only [Act.put, List.setIfInBounds_toArray, List.set_cons_zero, List.set_cons_succ]
          refine wpAnyH_take (i := 5) (oi := ⟨some 35, Op.slice 25 (Operand.tmp 34) (some (Operand.const (Value.int IntKind.i64 1))) none none, 25, _, _, none⟩) (v := ?v5n2k7) rfl (by kernel_rfl) (by kernel_rfl) (by kernel_rfl) (fun _ _ _ h => h) (Or.inl ⟨by rfl, ?y5n2k7⟩) hHeld ?z5n2k7
          case y5n2k7 => intro w hSw; (try dsimp only at hSw); go_simp <;> rfl
          try simp only [Act.put, List.setIfInBounds_toArray, List.set_cons_zero, List.set_cons_succ]
          refine wpAnyH_ready (rs := [7]) (by kernel_rfl) (by simp) ?_
          refine AllReadyH.cons (o := ⟨none, Op.store 25 (Operand.tmp 4) (Operand.tmp 35), 0, _, _, none⟩) rfl (fun K hK => ?_) AllReadyH.nil
          go_simp
          refine hK.out _ _ ckY (fun hHeld => ?_)
          clear hK K
          try simp only [Act.put, List.setIfInBounds_toArray, List.set_cons_zero, List.set_cons_succ]
          refine wpAnyH_done (by kernel_rfl) ?_ _
          refine Ends.of ?_
          clear hHeld crX frX ckX ckY
          generalize (X.setCell ⟨Br, 0, none⟩ (.slice A2 (n - p - 1) (c - p - 1))).drew = Y at cyY YF ⊢
          obtain ⟨fn, tm, asg, bod, hy, hRd⟩ := yieldAt_round (l0 := l2) YF.out
          clear YF
          gi_wp2
          refine hRd.mono ?_
          clear hRd hy
          rintro e Z (⟨rfl, hz⟩ | ⟨rfl, hz⟩)
          · gi_wp2
            exact hz.out
          · gi_wp2
            exact ⟨hz.out.1, hz.out.2.1, Lib.hid ⟨rfl, hz.out.2.2.out⟩⟩
        case b4n2k1 =>
          go_simp
          refine hK.out _ _ ckX (fun hHeld => ?_)
          clear hK K
          try simp only [Act.put, List.setIfInBounds_toArray, List.set_cons_zero, List.set_cons_succ]
          refine wpAnyH_take (i := 5) (oi := ⟨some 35, Op.slice 25 (Operand.tmp 34) (some (Operand.const (Value.int IntKind.i64 1))) none none, 25, _, _, none⟩) (v := ?v5n2k8) rfl (by kernel_rfl) (by kernel_rfl) (by kernel_rfl) (fun _ _ _ h => h) (Or.inl ⟨by rfl, ?y5n2k8⟩) hHeld ?z5n2k8
          case y5n2k8 => intro w hSw; (try dsimp only at hSw); go_simp <;> rfl
          try simp only [Act.put, List.setIfInBounds_toArray, List.set_cons_zero, List.set_cons_succ]
          refine wpAnyH_ready (rs := [0]) (by kernel_rfl) (by simp) ?_
          refine AllReadyH.cons (o := ⟨some 30, Op.load 25 (Operand.tmp 4), 25, _, _, none⟩) rfl (fun K hK => ?_) AllReadyH.nil
          go_simp
          refine hK.out _ _ ckX (fun hHeld => ?_)
          clear hK K
          try simp only [Act.put, List.setIfInBounds_toArray, List.set_cons_zero, List.set_cons_succ]
          refine wpAnyH_take (i := 1) (oi := ⟨some 31, Op.indexAddr 25 (Operand.tmp 30) (Operand.const (Value.int IntKind.i64 0)), 0, _, _, none⟩) (v := ?v1n2k9) rfl (by kernel_rfl) (by kernel_rfl) (by kernel_rfl) (fun _ _ _ h => h) (Or.inl ⟨by rfl, ?y1n2k9⟩) hHeld ?z1n2k9
          case y1n2k9 => intro w hSw; (try dsimp only at hSw); go_simp <;> rfl
          try simp only [Act.put, List.setIfInBounds_toArray, List.set_cons_zero, List.set_cons_succ]
          refine wpAnyH_take (i := 2) (oi := ⟨some 32, Op.fieldAddr 73 (Operand.tmp 31) 1, 0, _, _, none⟩) (v := ?v2n2k10) rfl (by kernel_rfl) (by kernel_rfl) (by kernel_rfl) (fun _ _ _ h => h) (Or.inl ⟨by rfl, ?y2n2k10⟩) hHeld ?z2n2k10
          case y2n2k10 => intro w hSw; (try dsimp only at hSw); go_simp <;> rfl
          try simp only [Act.put, List.setIfInBounds_toArray, List.set_cons_zero, List.set_cons_succ]
          refine wpAnyH_take (i := 3) (oi := ⟨some 33, Op.load 3 (Operand.tmp 32), 3, _, _, none⟩) (v := ?v3n2k11) rfl (by kernel_rfl) (by kernel_rfl) (by kernel_rfl) (fun _ _ _ h => h) (Or.inl ⟨by rfl, ?y3n2k11⟩) hHeld ?z3n2k11
          case y3n2k11 => intro w hSw; (try dsimp only at hSw); go_simp <;> rfl
          try simp only [Act.put, List.setIfInBounds_toArray, List.set_cons_zero, List.set_cons_succ]
          refine wpAnyH_take (i := 6) (oi := ⟨some 6, Op.assign (Operand.tmp 33), 3, _, _, none⟩) (v := ?v6n2k12) rfl (by kernel_rfl) (by kernel_rfl) (by kernel_rfl) (fun _ _ _ h => h) (Or.inl ⟨by rfl, ?y6n2k12⟩) hHeld ?z6n2k12
          case y6n2k12 => intro w hSw; (try dsimp only at hSw); go_simp <;> rfl
          try simp only [Act.put, List.setIfInBounds_toArray, List.set_cons_zero, List.set_cons_succ]
          refine wpAnyH_ready (rs := [7]) (by kernel_rfl) (by simp) ?_
          refine AllReadyH.cons (o := ⟨none, Op.store 25 (Operand.tmp 4) (Operand.tmp 35), 0, _, _, none⟩) rfl (fun K hK => ?_) AllReadyH.nil
          go_simp
          refine hK.out _ _ ckY (fun hHeld => ?_)
          clear hK K
          try simp only [Act.put, List.setIfInBounds_toArray, List.set_cons_zero, List.set_cons_succ]
          refine wpAnyH_done (by kernel_rfl) ?_ _
          refine Ends.of ?_
          clear hHeld crX frX ckX ckY
          generalize (X.setCell ⟨Br, 0, none⟩ (.slice A2 (n - p - 1) (c - p - 1))).drew = Y at cyY YF ⊢
          obtain ⟨fn, tm, asg, bod, hy, hRd⟩ := yieldAt_round (l0 := l2) YF.out
          clear YF
          gi_wp2
          refine hRd.mono ?_
          clear hRd hy
          rintro e Z (⟨rfl, hz⟩ | ⟨rfl, hz⟩)
          · gi_wp2
            exact hz.out
          · gi_wp2
            exact ⟨hz.out.1, hz.out.2.1, Lib.hid ⟨rfl, hz.out.2.2.out⟩⟩
  case done =>
    intro D V hD hI hK
    obtain ⟨a, n, c, hbr, hrow, hrl, hnc⟩ := hI.out.rest
    obtain ⟨R, hR⟩ : ∃ R, R = rst La Lb := ⟨_, rfl⟩
    rw [← hR] at hrow hrl
    have hM : mrg La Lb = emt La Lb ++ R := by
      have := mrg_append La [] Lb
      rw [List.append_nil] at this
      rw [this, hR]; rfl
    have hRl : R.length ≤ 1048576 := by have := rst_len La Lb; rw [hR]; omega
    have RUN := Lib.hid (run_any a n c R l W.heap.size J Jx (emt La Lb) V hrow hrl hnc (by omega) HJ.out (fun pr' y r' Wz he hj => HY.out (emt La Lb ++ pr') y r' Wz (by rw [hM, he]; simp) hj) hI.out.j)
    have cr : V.cell? ⟨Br, 0, none⟩ = some (.slice a n c) := cell_of_row _ _ _ _ _ _ hbr
    have cy : V.cell? ⟨W.heap.size, 0, none⟩ = some (.func (.yield l) #[] #[]) := cell_of_row _ _ _ _ _ _ hI.out.y
    have HKD := Lib.hid hK
    have HM := Lib.hid hM
    clear hK hM hR hrow hrl hbr hI hRl
    go_wp2_with fail
    refine RUN.out.mono ?_
    clear RUN
    rintro e V2 (⟨rfl, hJ1, _, k2⟩ | ⟨rfl, ⟨part, hp, hJ1⟩, _, k2⟩)
    · have HJV := Lib.hid hJ1
      have hk2 := k2.same D _ (Nat.le_trans hW3 hD) HKD.out rfl
      have HK2 := Lib.hid hk2
      clear hJ1 k2 hk2
      go_wp2
      refine ⟨by simp, .inl ⟨_, _, rfl, run_takeDeferred HK2.out, ?_⟩⟩
      exact ⟨_, results_none rfl _ _ _, ⟨_, rfl⟩, .inl (by rw [HM.out]; exact HJ.out _ _ _ HJV.out (Abide.putObj _ (Nat.le_trans hW3 hD) HK2.out rfl))⟩
    · have HJV := Lib.hid hJ1
      have hk2 := k2.same D _ (Nat.le_trans hW3 hD) HKD.out rfl
      have HK2 := Lib.hid hk2
      clear hJ1 k2 hk2
      go_wp2
      refine ⟨by simp, .inl ⟨_, _, rfl, run_takeDeferred HK2.out, ?_⟩⟩
      refine ⟨_, results_none rfl _ _ _, ⟨_, rfl⟩, .inr ⟨_, ?_, HJx.out _ _ _ HJV.out (Abide.putObj _ (Nat.le_trans hW3 hD) HK2.out rfl)⟩⟩
      obtain ⟨z, hz⟩ := hp
      exact ⟨z, by rw [HM.out, ← hz]; simp⟩
  case stop =>
    rintro D cd pre V hD hpre h hK
    obtain ⟨rfl, q, hq, hj⟩ := h.out
    have HJV := Lib.hid hj
    have HKD := Lib.hid hK
    clear hj hK h
    gi_wp2
    refine ⟨by simp, .inl ⟨_, _, rfl, run_takeDeferred HKD.out, ?_⟩⟩
    exact ⟨_, results_none rfl _ _ _, ⟨_, rfl⟩, .inr ⟨q, hq, HJx.out _ _ _ HJV.out (Abide.putObj _ (Nat.le_trans hW3 hD) HKD.out rfl)⟩⟩

/-- A map's All as such a value. -/
theorem all1_seq (Bb : Nat) (F : Nat → Prop) (m : Nat) (L : List (Int × Int)) (w : World) (hb : w.heap[Bb]? = some (.cells #[.pointer (some ⟨m, 0, none⟩)] 24 (0, 0))) (h : Mp w F m L) :
    Seq (.func (.func 34) #[] #[.pointer (some ⟨Bb, 0, none⟩)]) (fun k t => F k ∧ t = 73) L w :=
  ⟨⟨_, _, rfl, enters_of Try.func34 (by kernel_rfl) rfl, all1_goes NT _ Bb F m L w hb h (fun _ hb => ⟨hb, rfl⟩)⟩, fun k t hk => ⟨h.lt k hk.1, hk.2⟩⟩
theorem Seq.later {v : Value} {U : Nat → TypeId → Prop} {L : List (Int × Int)} {w w' : World} (h : Seq v U L w) (k : Kept noBlock w w') : Seq v U L w' := by
  obtain ⟨g, lb, e, eg, hr⟩ := h.is
  exact ⟨⟨g, lb, e, eg, hr.later k⟩, fun a t hu => ⟨Nat.lt_of_lt_of_le (h.own a t hu).1 k.size, (h.own a t hu).2⟩⟩
end Go.Proofs.Ytohanlhfbfodlaa.II
