/-
  SortedSelf: what it does with whatever deeds. No statement is proved here.
-/
import Derived.Test.YtohanlhfbfodlaaL5Of
import Derived.Test.YtohanlhfbfodlaaSortedMerge2
import Derived.IntWalk
namespace Go.Proofs.Ytohanlhfbfodlaa
open Go.RowKit Go.Shelf
attribute [local go_sem] Oper.semAt_some

theorem mrg_self {L : List (Int × Int)} (h : Srt.Up L) : Srt.mrg L L = L :=
  Srt.up_look_ext (Srt.up_mrg h h) h fun k => by rw [Srt.look_mrg h h]; cases Srt.look L k <;> rfl
theorem mrg_nil {L : List (Int × Int)} (h : Srt.Up L) : Srt.mrg L [] = L :=
  Srt.up_look_ext (Srt.up_mrg h List.Pairwise.nil) h fun k => by rw [Srt.look_mrg h List.Pairwise.nil]; rfl

/-- Where it is: q is what was counted. -/
structure SelfI (w : World) (B2 B3 B5 m z : Nat) (Lm : List (Int × Int)) (Ds : List Nat) (F G : Nat → Prop) (q : Nat) (W : World) : Prop where
  res : W.heap[B2]? = some (.cells #[.bool false] 4 (0, 0))
  mbox : W.heap[B3]? = some (.cells #[.pointer (some ⟨m, 0, none⟩)] 24 (0, 0))
  num : W.heap[B5]? = some (.cells #[.int .i64 (q : Int)] 3 (0, 0))
  two : TwoR w W m z Lm [] [B5, B3, B2] F G
  defs : ∀ D ∈ Ds, W.heap[D]? = some (.deferred (some []))
section
variable {w A B W : World} {B2 B3 B5 m z m0 q : Nat} {Lm : List (Int × Int)} {Ds : List Nat} {F G : Nat → Prop}
theorem SelfI.abide (h : SelfI w B2 B3 B5 m z Lm Ds F G q A) (k : Abide II.TT m0 A B) (hF : ∀ i, F i → i < m0) (hG : ∀ i, G i → i < m0) (hw : w.heap.size ≤ m0) (hD : ∀ D ∈ Ds, D < m0) : SelfI w B2 B3 B5 m z Lm Ds F G q B :=
  ⟨k.blk h.res (.inr (by unfold II.TT; decide)), k.blk h.mbox (.inr (by unfold II.TT; decide)), k.blk h.num (.inr (by unfold II.TT; decide)), h.two.abide k hF hG hw, fun D hd => (k.low D (hD D hd) (lt_of_blk (h.defs D hd))).trans (h.defs D hd)⟩
theorem SelfI.kept (h : SelfI w B2 B3 B5 m z Lm Ds F G q A) (k : Kept noBlock A B) : SelfI w B2 B3 B5 m z Lm Ds F G q B :=
  ⟨k.blk h.res (fun h => h), k.blk h.mbox (fun h => h), k.blk h.num (fun h => h), h.two.kept k, fun D hd => k.blk (h.defs D hd) (fun h => h)⟩
theorem SelfI.more {D : Nat} (h : SelfI w B2 B3 B5 m z Lm Ds F G q W) (hD : W.heap[D]? = some (.deferred (some []))) : SelfI w B2 B3 B5 m z Lm (D :: Ds) F G q W :=
  ⟨h.res, h.mbox, h.num, h.two, fun e he => by rcases List.mem_cons.1 he with rfl | he; exact hD; exact h.defs e he⟩
theorem SelfI.up (h : SelfI w B2 B3 B5 m z Lm Ds F G q W) (hw : w.heap.size ≤ B5) (d2 : B2 ≠ B5) (d3 : B3 ≠ B5) :
    let W' := W.setCell ⟨B5, 0, none⟩ (.int .i64 ((q : Int) + 1))
    KeepsFrom m0 W W' ∧ Spares II.UU W W' ∧ SelfI w B2 B3 B5 m z Lm Ds F G (q + 1) W' := by
  intro W'
  have k : Kept (fun i => i = B5) W W' := Kept.setCell W (by rfl) _
  refine ⟨keepsFrom_kept k (fun i _ e => by subst e; exact ⟨_, _, _, h.num⟩), Spares.of k (fun i e => by subst e; exact ⟨_, _, _, h.num, by unfold II.UU; decide⟩), ⟨k.blk h.res d2, k.blk h.mbox d3, ?_, h.two.keep k (fun i e => by subst e; exact ⟨by simp, hw⟩), fun D hd => k.blk (h.defs D hd) (fun e => by have h1 := h.defs D hd; rw [e, h.num] at h1; cases h1)⟩⟩
  have := setB (u := .int .i64 ((q : Int) + 1)) h.num
  exact this
/-- What Merge of two All's goes over. -/
theorem merge_of {V : World} {x y b1 b2 c1 c2 : Nat} {Lx Ly : List (Int × Int)} (mx : II.Mp V F x Lx) (my : II.Mp V G y Ly) (h1 : V.heap[b1]? = some (.cells #[.pointer (some ⟨x, 0, none⟩)] 24 (0, 0))) (h2 : V.heap[b2]? = some (.cells #[.pointer (some ⟨y, 0, none⟩)] 24 (0, 0)))
    (h3 : V.heap[c1]? = some (.cells #[.func (.func 34) #[] #[.pointer (some ⟨b1, 0, none⟩)]] 50 (0, 0))) (h4 : V.heap[c2]? = some (.cells #[.func (.func 34) #[] #[.pointer (some ⟨b2, 0, none⟩)]] 50 (0, 0))) (hl : Ly.length ≤ 1048576) :
    Runs Try.prog 39 #[.pointer (some ⟨c2, 0, none⟩), .pointer (some ⟨c1, 0, none⟩)] II.enc II.TT II.UU (Srt.mrg Lx Ly) V :=
  II.merge1_runs c2 c1 _ _ _ _ Lx Ly V h4 h3 (II.all1_seq b1 F x Lx V h1 mx) (II.all1_seq b2 G y Ly V h2 my) my.up hl
theorem TwoR.swap {x y : Nat} {Lx Ly : List (Int × Int)} {E : List Nat} (h : TwoR w W x y Lx Ly E F G) : TwoR w W y x Ly Lx E G F := by
  obtain ⟨h1, h2, a1, a2, a3, h4, h5⟩ := h
  exact ⟨h2, h1, fun i hg hf => a1 i hf hg, a3, a2, h4, fun e he => ⟨(h5 e he).1, (h5 e he).2.2, (h5 e he).2.1⟩⟩
end

set_option maxRecDepth 100000 in
set_option maxHeartbeats 4000000 in
theorem self_walk (F : Nat → Prop) (a : Option Addr) (n c : Nat) (xs : List ActV) (w : World) (h : Lies w F a (actCells xs)) (hx : ∀ x ∈ xs, x.fit) (hl : xs.length = n) (hc : n ≤ c) :
    Calls Try.prog 7 #[.slice a n c] w fun e w' => e = .returned (.bool true) ∧ Kept noBlock w w' := by
  have OF := Lib.hid (fun W (kW : Kept noBlock w W) => of_any F a n c xs W (h.keep kW (fun _ _ h => h)) hx hl hc)
  have ON := Lib.hid (fun W => of_any F none 0 0 [] W (fun h => absurd rfl h) (fun _ h => by cases h) rfl (Nat.le_refl _))
  have hsm := ofL_len (xs.take 60)
  have hsm2 : (ofL (xs.take 60)).length ≤ 60 := by have := List.length_take_le 60 xs; omega
  obtain ⟨Lm, hLm⟩ : ∃ Lm, Lm = ofL (xs.take 60) := ⟨_, rfl⟩
  have hup : Srt.Up Lm := by rw [hLm]; exact ofL_up _
  rw [← hLm] at OF hsm2
  have HUP := Lib.hid hup
  clear h hx hl hsm hLm hup hc
  refine (callsIn_wide (n := 3)).1 ?_
  refine callsIn_of_wp_marks Try.func7 rfl trivial ?_ rfl
  simp only [Try.ntmps7, List.size_toArray, List.length_cons, List.length_nil, Nat.reduceAdd, Nat.reduceSub, Array.replicate_succ, Array.replicate_zero, List.push_toArray, List.append_toArray, List.nil_append, List.cons_append]
  refine wpIn_wide.2 ?_
  go_wp2_with fail
  have a2 := heap_alloc_new w (.cells #[.bool false] 4)
  have k2 := Kept.alloc noBlock w (.cells #[.bool false] 4)
  have s2 : (w.alloc (.cells #[.bool false] 4)).heap.size = w.heap.size + 1 := by simp
  obtain ⟨B2, hB2⟩ : ∃ B2, B2 = w.heap.size := ⟨_, rfl⟩
  rw [← hB2] at a2 ⊢
  generalize w.alloc (.cells #[.bool false] 4) = w0 at a2 k2 s2 ⊢
  refine (awake_any w0).mono ?_
  rintro e w1 ⟨rfl, k1⟩
  have A1 := Lib.hid (k1.blk a2 (fun h => h))
  have K1 := Lib.hid (k2.step k1)
  have hs1 : B2 < w1.heap.size := by have := k1.size; omega
  have h2w : w.heap.size ≤ B2 := by omega
  clear a2 k2 k1 s2 hB2
  go_wp2_with fail
  refine (OF.out w1 K1.out).mono ?_
  rintro e w2 ⟨m, rfl, o2, k2⟩
  have O2 := Lib.hid o2; clear o2
  have K2 := Lib.hid k2; clear k2
  go_wp2_with fail
  refine (ON.out w2).mono ?_
  rintro e w3 ⟨z, rfl, o3, k3⟩
  have t3 : Two w w3 m z Lm [] [B2] := Two.of K1.out O2.out K2.out o3 k3 (by intro e he; simp at he; omega)
  have b23 := k3.blk (K2.out.blk A1.out (fun h => h)) (fun h => h)
  have hs3 : B2 < w3.heap.size := by have := k3.size; have := K2.out.size; omega
  have T3 := Lib.hid t3
  have B23 := Lib.hid b23
  have hws : w.heap.size ≤ w3.heap.size := by omega
  clear t3 b23 o3 k3 O2 K2 A1 K1 OF ON
  have e5 : (w3.alloc (.cells #[.pointer (some ⟨m, 0, none⟩)] 24)).heap.size = w3.heap.size + 1 := by simp
  have t4 := T3.out.more (Kept.alloc noBlock w3 (.cells #[.pointer (some ⟨m, 0, none⟩)] 24)) w3.heap.size (Nat.le_refl _) (by simp)
  have t5 := t4.more (Kept.alloc noBlock _ (.cells #[.int .i64 0] 3)) (w3.heap.size + 1) (by simp) (by simp)
  have r2 := ((Kept.alloc noBlock w3 (.cells #[.pointer (some ⟨m, 0, none⟩)] 24)).step (Kept.alloc noBlock _ (.cells #[.int .i64 0] 3))).blk B23.out (fun h => h)
  have r3 : ((w3.alloc (.cells #[.pointer (some ⟨m, 0, none⟩)] 24)).alloc (.cells #[.int .i64 0] 3)).heap[w3.heap.size]? = some (.cells #[.pointer (some ⟨m, 0, none⟩)] 24 (0, 0)) := heap_alloc2_old _ _ _
  have r5 : ((w3.alloc (.cells #[.pointer (some ⟨m, 0, none⟩)] 24)).alloc (.cells #[.int .i64 0] 3)).heap[w3.heap.size + 1]? = some (.cells #[.int .i64 ((0 : Nat) : Int)] 3 (0, 0)) := heap_alloc2_new _ _ _
  obtain ⟨FF, GG, t6⟩ := t5
  have I0 : Hid (SelfI w B2 w3.heap.size (w3.heap.size + 1) m z Lm [] FF GG 0 ((w3.alloc (.cells #[.pointer (some ⟨m, 0, none⟩)] 24)).alloc (.cells #[.int .i64 0] 3))) := Lib.hid ⟨r2, r3, r5, t6, fun _ h => by cases h⟩
  clear t4 t6 r2 r3 r5 T3 B23
  go_wp2_with fail
  obtain ⟨B5, hB5⟩ : ∃ B5, B5 = w3.heap.size + 1 := ⟨_, rfl⟩
  obtain ⟨B3, hB3⟩ : ∃ B3, B3 = w3.heap.size := ⟨_, rfl⟩
  have d2 : B2 ≠ B5 := by omega
  have d3 : B3 ≠ B5 := by omega
  have d23 : B3 ≠ B2 := by omega
  have hw5 : w.heap.size ≤ B5 := by omega
  rw [← hB5, ← hB3] at I0
  rw [← hB5, ← hB3]
  generalize ((w3.alloc (.cells #[.pointer (some ⟨m, 0, none⟩)] 24)).alloc (.cells #[.int .i64 0] 3)) = w4 at I0 ⊢
  clear e5 hB5 hB3 hs1 hs3 hws
  have c3 : w4.drew.cell? ⟨B3, 0, none⟩ = some (.pointer (some ⟨m, 0, none⟩)) := cell_of_row _ _ _ _ _ _ I0.out.mbox
  have I1 : Hid (SelfI w B2 B3 B5 m z Lm [] FF GG 0 w4.drew) := Lib.hid (I0.out.kept (Kept.drew _ _))
  clear I0
  refine wp_region_noPanic ?_
  refine wp_region_held_drew (S := fun w' => w'.cell? ⟨B3, 0, none⟩ = some (.pointer (some ⟨m, 0, none⟩))) (by kernel_rfl) c3 (fun hHeld => ?_)
  refine wpAnyH_take (i := 0) (oi := ⟨some 15, Op.load 24 (Operand.tmp 3), 24, _, _, none⟩) (v := ?v0n1k1) rfl (by kernel_rfl) (by kernel_rfl) (by kernel_rfl) (fun _ _ _ h => h) (Or.inl ⟨by rfl, ?y0n1k1⟩) hHeld ?z0n1k1
  case y0n1k1 => intro w hSw; (try dsimp only at hSw); go_simp <;> rfl
  try simp only [Act.put, List.setIfInBounds_toArray, List.set_cons_zero, List.set_cons_succ]
  refine wpAnyH_take (i := 2) (oi := ⟨some 17, Op.load 24 (Operand.tmp 3), 24, _, _, none⟩) (v := ?v2n1k2) rfl (by kernel_rfl) (by kernel_rfl) (by kernel_rfl) (fun _ _ _ h => h) (Or.inl ⟨by rfl, ?y2n1k2⟩) hHeld ?z2n1k2
  case y2n1k2 => intro w hSw; (try dsimp only at hSw); go_simp <;> rfl
  try simp only [Act.put, List.setIfInBounds_toArray, List.set_cons_zero, List.set_cons_succ]
  refine wpAnyH_ready (rs := [1]) (by kernel_rfl) (by simp) ?_
  refine AllReadyH.cons (o := ⟨some 16, Op.call { callee := Callee.value (Operand.func 20), args := #[Operand.tmp 15], argTypes := #[24] }, 50, _, _, none⟩) rfl (fun K hK => ?_) AllReadyH.nil
  go_simp
  refine (II.all_any m _).mono ?_
  rintro e wa ⟨rfl, ba, ka⟩
  have BA := Lib.hid ba
  have IA := Lib.hid (I1.out.kept ka)
  have ca : wa.cell? ⟨B3, 0, none⟩ = some (.pointer (some ⟨m, 0, none⟩)) := cell_of_row _ _ _ _ _ _ IA.out.mbox
  clear I1 ba ka c3
  dsimp only
  generalize w4.drew.heap.size = b1 at BA ⊢
  refine hK.out _ _ ca (fun hHeld => ?_)
  clear hK K
  try simp only [Act.put, List.setIfInBounds_toArray, List.set_cons_zero, List.set_cons_succ]
  refine wpAnyH_ready (rs := [3]) (by kernel_rfl) (by simp) ?_
  refine AllReadyH.cons (o := ⟨some 18, Op.call { callee := Callee.value (Operand.func 20), args := #[Operand.tmp 17], argTypes := #[24] }, 50, _, _, none⟩) rfl (fun K hK => ?_) AllReadyH.nil
  go_simp
  refine (II.all_any m _).mono ?_
  rintro e wb ⟨rfl, bb, kb⟩
  have BB := Lib.hid bb
  have BA2 := Lib.hid (kb.blk BA.out (fun h => h))
  have IB := Lib.hid (IA.out.kept kb)
  have cb : wb.cell? ⟨B3, 0, none⟩ = some (.pointer (some ⟨m, 0, none⟩)) := cell_of_row _ _ _ _ _ _ IB.out.mbox
  clear IA BA bb kb ca
  dsimp only
  generalize wa.heap.size = b2 at BB ⊢
  refine hK.out _ _ cb (fun hHeld => ?_)
  clear hK K
  try simp only [Act.put, List.setIfInBounds_toArray, List.set_cons_zero, List.set_cons_succ]
  refine wpAnyH_ready (rs := [4]) (by kernel_rfl) (by simp) ?_
  refine AllReadyH.cons (o := ⟨some 19, Op.call { callee := Callee.value (Operand.func 23), args := #[Operand.tmp 16, Operand.tmp 18], argTypes := #[50, 50] }, 50, _, _, none⟩) rfl (fun K hK => ?_) AllReadyH.nil
  go_simp
  refine (II.merge_any _ _ _ _ _).mono ?_
  rintro e wc ⟨rfl, h1, h2, kc⟩
  have BAc := Lib.hid (kc.blk BA2.out (fun h => h))
  have BBc := Lib.hid (kc.blk BB.out (fun h => h))
  have H1 := Lib.hid h1
  have H2 := Lib.hid h2
  have IC := Lib.hid (IB.out.kept kc)
  have cc : wc.cell? ⟨B3, 0, none⟩ = some (.pointer (some ⟨m, 0, none⟩)) := cell_of_row _ _ _ _ _ _ IC.out.mbox
  clear IB BA2 BB h1 h2 kc cb
  dsimp only
  generalize wb.heap.size = b3 at H1 H2 ⊢
  refine hK.out _ _ cc (fun hHeld => ?_)
  clear hK K
  try simp only [Act.put, List.setIfInBounds_toArray, List.set_cons_zero, List.set_cons_succ]
  refine wpAnyH_done (by kernel_rfl) ?_ _
  refine NoPanic.normal ?_
  have HR := Lib.hid (merge_of IC.out.two.1 IC.out.two.1 BAc.out BBc.out H1.out H2.out (by omega))
  rw [mrg_self HUP.out] at HR
  have hwT := IC.out.two.two.world.size
  have HFF := Lib.hid (show ∀ i, FF i → i < wc.heap.size from IC.out.two.1.lt)
  have HGG := Lib.hid (show ∀ i, GG i → i < wc.heap.size from IC.out.two.2.1.lt)
  have HNO : Hid (∀ D ∈ ([] : List Nat), D < wc.heap.size) := Lib.hid (fun _ h => by cases h)
  clear hHeld cc BAc BBc H1 H2
  go_wp2_with fail
  refine (wpIn_wide (n := 3)).1 ?_
  refine wpIn_runs_to rfl (enters_of Try.func39 (by kernel_rfl) rfl) HR.out (Kept.refl _ _) (fun _ => rfl) (fun p => [(6, II.ek p.1), (7, II.ev p.2)]) (fun pre W => Hid (SelfI w B2 B3 B5 m z Lm [] FF GG pre.length W)) (fun _ _ _ => False)
    (fun s A B h k => Lib.hid (h.out.abide k HFF.out HGG.out hwT HNO.out)) (fun _ _ _ _ h _ => h) IC ?assign ?body ?done ?stop
  case assign =>
    intro l p W K hK
    dsimp only [II.enc]
    simp only [landed, List.foldl_cons, List.foldl_nil, List.zip_toArray, List.zip_cons_cons, List.zip_nil_right, II.enc, List.foldl_toArray, List.setIfInBounds_toArray, List.set_cons_zero, List.set_cons_succ] at hK
    gi_wp2
    exact hK
  case body =>
    rintro l pre p rest W hL hI
    simp only [landed, List.foldl_cons, List.foldl_nil, List.zip_toArray, List.zip_cons_cons, List.zip_nil_right, II.enc, List.foldl_toArray, List.setIfInBounds_toArray, List.set_cons_zero, List.set_cons_succ]
    have hpm : p ∈ Lm := by rw [hL]; simp
    have hpre : pre.length < Lm.length := by rw [hL]; simp
    obtain ⟨pk, pv⟩ := p
    have hlk := Srt.look_of_mem HUP.out hpm
    have g1 := hI.out.two.two.get pk
    rw [hlk, (Srt.has_iff _ _).2 ⟨_, hlk⟩, Option.getD_some] at g1
    obtain ⟨q, hq⟩ : ∃ q, q = pre.length := ⟨_, rfl⟩
    have hq2 : q < 9223372036854775807 := by omega
    have HI : Hid (SelfI w B2 B3 B5 m z Lm [] FF GG q W) := by rw [hq]; exact hI
    have HQ : Hid ((pre ++ [(pk, pv)]).length = q + 1) := Lib.hid (by simp [hq])
    have G1 := Lib.hid g1
    have c3 : W.cell? ⟨B3, 0, none⟩ = some (.pointer (some ⟨m, 0, none⟩)) := cell_of_row _ _ _ _ _ _ HI.out.mbox
    unfold II.ek II.ev
    dsimp only
    clear hI g1 hlk hpm hL hq hpre
    gi_wp2_with fail
    refine ⟨trivial, ?_⟩
    refine (CallsIn.inRound l (callsIn_wide.2 G1.out)).mono ?_
    rintro e w7 ⟨rfl, k7⟩
    have I7 := HI.out.kept k7
    have c5 : w7.cell? ⟨B5, 0, none⟩ = some (.int .i64 (q : Int)) := cell_of_row _ _ _ _ _ _ I7.num
    have f5 : w7.frozen? ⟨B5, 0, none⟩ = false := frozen_of_row _ _ _ _ _ I7.num
    have U7 := Lib.hid (I7.up (m0 := wc.heap.size) hw5 d2 d3)
    have KF := Lib.hid (keepsFrom_kept (B := wc.heap.size) k7 (fun _ _ h => h.elim))
    have SP := Lib.hid (Spares.of_kept (U := II.UU) k7)
    clear k7 I7 HI c3 G1
    gi_wp2
    exact ⟨KF.out.trans U7.out.1, SP.out.trans U7.out.2.1, Lib.hid (by rw [HQ.out]; exact U7.out.2.2)⟩
  case done =>
    intro D1 W1 hD1 hI hK
    have J1 : Hid (SelfI w B2 B3 B5 m z Lm [D1] FF GG Lm.length W1) := Lib.hid (hI.out.more hK)
    clear hI hK
    have hDw : w.heap.size ≤ D1 := Nat.le_trans hwT hD1
    have c3 : W1.cell? ⟨B3, 0, none⟩ = some (.pointer (some ⟨m, 0, none⟩)) := cell_of_row _ _ _ _ _ _ J1.out.mbox
    clear IC HR hwT HFF HGG HNO hD1 hHeld
    go_wp2_with fail
    refine (II.all_any m _).mono ?_
    rintro e wa ⟨rfl, ba, ka⟩
    have BA := Lib.hid ba
    have IA := Lib.hid (J1.out.kept ka)
    clear J1 ba ka c3
    generalize W1.heap.size = b1 at BA ⊢
    go_wp2_with fail
    refine (II.all_any z _).mono ?_
    rintro e wb ⟨rfl, bb, kb⟩
    have BB := Lib.hid bb
    have BA2 := Lib.hid (kb.blk BA.out (fun h => h))
    have IB := Lib.hid (IA.out.kept kb)
    clear IA BA bb kb
    generalize wa.heap.size = b2 at BB ⊢
    go_wp2_with fail
    refine (II.merge_any _ _ _ _ _).mono ?_
    rintro e wc ⟨rfl, h1, h2, kc⟩
    have IC := Lib.hid (IB.out.kept kc)
    have HR := Lib.hid (merge_of IC.out.two.1 IC.out.two.2.1 (kc.blk BA2.out (fun h => h)) (kc.blk BB.out (fun h => h)) h1 h2 (by simp))
    rw [mrg_nil HUP.out] at HR
    have hwT := IC.out.two.two.world.size
    have HFF := Lib.hid (show ∀ i, FF i → i < wc.heap.size from IC.out.two.1.lt)
    have HGG := Lib.hid (show ∀ i, GG i → i < wc.heap.size from IC.out.two.2.1.lt)
    have HNO : Hid (∀ D ∈ [D1], D < wc.heap.size) := Lib.hid (fun D h => lt_of_blk (IC.out.defs D h))
    clear IB BA2 BB h1 h2 kc
    generalize wb.heap.size = b3 at HR ⊢
    go_wp2_with fail
    refine (wpIn_wide (n := 3)).1 ?_
    refine wpIn_runs_to rfl (enters_of Try.func39 (by kernel_rfl) rfl) HR.out (Kept.refl _ _) (fun _ => rfl) (fun p => []) (fun pre W => Hid (SelfI w B2 B3 B5 m z Lm [D1] FF GG (Lm.length + pre.length) W)) (fun _ _ _ => False)
      (fun s A B h k => Lib.hid (h.out.abide k HFF.out HGG.out hwT HNO.out)) (fun _ _ _ _ h _ => h) IC ?assign2 ?body2 ?done2 ?stop2
    case assign2 =>
      intro l p W K hK
      dsimp only [II.enc]
      simp only [landed, List.foldl_cons, List.foldl_nil, List.zip_toArray, List.zip_cons_cons, List.zip_nil_right, II.enc, List.foldl_toArray, List.setIfInBounds_toArray, List.set_cons_zero, List.set_cons_succ] at hK
      gi_wp2
      simp only [List.foldl_cons, List.foldl_nil, List.zip_toArray, List.zip_cons_cons, List.zip_nil_right, List.foldl_toArray, List.setIfInBounds_toArray, List.set_cons_zero, List.set_cons_succ]
      exact hK
    case body2 =>
      rintro l pre p rest W hL hI
      simp only [landed, List.foldl_cons, List.foldl_nil, List.zip_toArray, List.zip_cons_cons, List.zip_nil_right, II.enc, List.foldl_toArray, List.setIfInBounds_toArray, List.set_cons_zero, List.set_cons_succ]
      have hpre : pre.length < Lm.length := by rw [hL]; simp
      obtain ⟨pk, pv⟩ := p
      obtain ⟨q, hq⟩ : ∃ q, q = Lm.length + pre.length := ⟨_, rfl⟩
      have hq2 : q < 9223372036854775807 := by omega
      have HI : Hid (SelfI w B2 B3 B5 m z Lm [D1] FF GG q W) := by rw [hq]; exact hI
      have HQ : Hid (Lm.length + (pre ++ [(pk, pv)]).length = q + 1) := Lib.hid (by simp [hq]; omega)
      have c5 : W.cell? ⟨B5, 0, none⟩ = some (.int .i64 (q : Int)) := cell_of_row _ _ _ _ _ _ HI.out.num
      have f5 : W.frozen? ⟨B5, 0, none⟩ = false := frozen_of_row _ _ _ _ _ HI.out.num
      have U7 := Lib.hid (HI.out.up (m0 := wc.heap.size) hw5 d2 d3)
      unfold II.ek II.ev
      dsimp only
      clear hI hL hq hpre HI
      gi_wp2
      exact ⟨U7.out.1, U7.out.2.1, Lib.hid (by rw [HQ.out]; exact U7.out.2.2)⟩
    case done2 =>
      intro D2 W2 hD2 hI hK
      have J2 : Hid (SelfI w B2 B3 B5 m z Lm [D2, D1] FF GG (Lm.length + Lm.length) W2.drew) := Lib.hid ((hI.out.more hK).kept (Kept.drew _ _))
      have hDw2 : w.heap.size ≤ D2 := Nat.le_trans hwT hD2
      have hDD : D1 < D2 := Nat.lt_of_lt_of_le (HNO.out D1 (by simp)) hD2
      clear hI hK IC HR hwT HFF HGG HNO hD2
      have c3 : W2.drew.cell? ⟨B3, 0, none⟩ = some (.pointer (some ⟨m, 0, none⟩)) := cell_of_row _ _ _ _ _ _ J2.out.mbox
      go_upto_region 14 with (fail)
      refine wp_region_noPanic ?_
      refine wp_region_held_drew (S := fun w' => w'.cell? ⟨B3, 0, none⟩ = some (.pointer (some ⟨m, 0, none⟩))) (by kernel_rfl) c3 (fun hHeld => ?_)
      refine wpAnyH_take (i := 0) (oi := ⟨some 46, Op.move (Operand.tmp 4), 24, _, _, none⟩) (v := ?v0n2k1) rfl (by kernel_rfl) (by kernel_rfl) (by kernel_rfl) (fun _ _ _ h => h) (Or.inl ⟨by rfl, ?y0n2k1⟩) hHeld ?z0n2k1
      case y0n2k1 => intro w hSw; (try dsimp only at hSw); go_simp <;> rfl
      try simp only [Act.put, List.setIfInBounds_toArray, List.set_cons_zero, List.set_cons_succ]
      refine wpAnyH_take (i := 2) (oi := ⟨some 48, Op.load 24 (Operand.tmp 3), 24, _, _, none⟩) (v := ?v2n2k2) rfl (by kernel_rfl) (by kernel_rfl) (by kernel_rfl) (fun _ _ _ h => h) (Or.inl ⟨by rfl, ?y2n2k2⟩) hHeld ?z2n2k2
      case y2n2k2 => intro w hSw; (try dsimp only at hSw); go_simp <;> rfl
      try simp only [Act.put, List.setIfInBounds_toArray, List.set_cons_zero, List.set_cons_succ]
      refine wpAnyH_ready (rs := [1]) (by kernel_rfl) (by simp) ?_
      refine AllReadyH.cons (o := ⟨some 47, Op.call { callee := Callee.value (Operand.func 20), args := #[Operand.tmp 46], argTypes := #[24] }, 50, _, _, none⟩) rfl (fun K hK => ?_) AllReadyH.nil
      go_simp
      refine (II.all_any z _).mono ?_
      rintro e wa2 ⟨rfl, ba, ka⟩
      have BA := Lib.hid ba
      have IA := Lib.hid (J2.out.kept ka)
      have ca : wa2.cell? ⟨B3, 0, none⟩ = some (.pointer (some ⟨m, 0, none⟩)) := cell_of_row _ _ _ _ _ _ IA.out.mbox
      clear J2 ba ka c3
      dsimp only
      generalize W2.drew.heap.size = b4 at BA ⊢
      refine hK.out _ _ ca (fun hHeld => ?_)
      clear hK K
      try simp only [Act.put, List.setIfInBounds_toArray, List.set_cons_zero, List.set_cons_succ]
      refine wpAnyH_ready (rs := [3]) (by kernel_rfl) (by simp) ?_
      refine AllReadyH.cons (o := ⟨some 49, Op.call { callee := Callee.value (Operand.func 20), args := #[Operand.tmp 48], argTypes := #[24] }, 50, _, _, none⟩) rfl (fun K hK => ?_) AllReadyH.nil
      go_simp
      refine (II.all_any m _).mono ?_
      rintro e wb2 ⟨rfl, bb, kb⟩
      have BB := Lib.hid bb
      have BA2 := Lib.hid (kb.blk BA.out (fun h => h))
      have IB := Lib.hid (IA.out.kept kb)
      have cb : wb2.cell? ⟨B3, 0, none⟩ = some (.pointer (some ⟨m, 0, none⟩)) := cell_of_row _ _ _ _ _ _ IB.out.mbox
      clear IA BA bb kb ca
      dsimp only
      generalize wa2.heap.size = b5 at BB ⊢
      refine hK.out _ _ cb (fun hHeld => ?_)
      clear hK K
      try simp only [Act.put, List.setIfInBounds_toArray, List.set_cons_zero, List.set_cons_succ]
      refine wpAnyH_ready (rs := [4]) (by kernel_rfl) (by simp) ?_
      refine AllReadyH.cons (o := ⟨some 50, Op.call { callee := Callee.value (Operand.func 23), args := #[Operand.tmp 47, Operand.tmp 49], argTypes := #[50, 50] }, 50, _, _, none⟩) rfl (fun K hK => ?_) AllReadyH.nil
      go_simp
      refine (II.merge_any _ _ _ _ _).mono ?_
      rintro e wd ⟨rfl, h1, h2, kc⟩
      have ID := Lib.hid (IB.out.kept kc)
      have HR := Lib.hid (merge_of ID.out.two.2.1 ID.out.two.1 (kc.blk BA2.out (fun h => h)) (kc.blk BB.out (fun h => h)) h1 h2 (by omega))
      have cc : wd.cell? ⟨B3, 0, none⟩ = some (.pointer (some ⟨m, 0, none⟩)) := cell_of_row _ _ _ _ _ _ ID.out.mbox
      clear IB BA2 BB h1 h2 kc cb
      dsimp only
      generalize wb2.heap.size = b6 at HR ⊢
      refine hK.out _ _ cc (fun hHeld => ?_)
      clear hK K
      try simp only [Act.put, List.setIfInBounds_toArray, List.set_cons_zero, List.set_cons_succ]
      refine wpAnyH_done (by kernel_rfl) ?_ _
      refine NoPanic.normal ?_
      rw [show Srt.mrg ([] : List (Int × Int)) Lm = Lm from rfl] at HR
      have hwT := ID.out.two.two.world.size
      have HFF := Lib.hid (show ∀ i, FF i → i < wd.heap.size from ID.out.two.1.lt)
      have HGG := Lib.hid (show ∀ i, GG i → i < wd.heap.size from ID.out.two.2.1.lt)
      have HNO : Hid (∀ D ∈ [D2, D1], D < wd.heap.size) := Lib.hid (fun D h => lt_of_blk (ID.out.defs D h))
      clear hHeld cc
      go_wp2_with fail
      refine (wpIn_wide (n := 3)).1 ?_
      refine wpIn_runs_to rfl (enters_of Try.func39 (by kernel_rfl) rfl) HR.out (Kept.refl _ _) (fun _ => rfl) (fun p => []) (fun pre W => Hid (SelfI w B2 B3 B5 m z Lm [D2, D1] FF GG (Lm.length + Lm.length + pre.length) W)) (fun _ _ _ => False)
        (fun s A B h k => Lib.hid (h.out.abide k HFF.out HGG.out hwT HNO.out)) (fun _ _ _ _ h _ => h) ID ?assign3 ?body3 ?done3 ?stop3
      case assign3 =>
        intro l p W K hK
        dsimp only [II.enc]
        simp only [landed, List.foldl_cons, List.foldl_nil, List.zip_toArray, List.zip_cons_cons, List.zip_nil_right, II.enc, List.foldl_toArray, List.setIfInBounds_toArray, List.set_cons_zero, List.set_cons_succ] at hK
        gi_wp2
        simp only [List.foldl_cons, List.foldl_nil, List.zip_toArray, List.zip_cons_cons, List.zip_nil_right, List.foldl_toArray, List.setIfInBounds_toArray, List.set_cons_zero, List.set_cons_succ]
        exact hK
      case body3 =>
        rintro l pre p rest W hL hI
        simp only [landed, List.foldl_cons, List.foldl_nil, List.zip_toArray, List.zip_cons_cons, List.zip_nil_right, II.enc, List.foldl_toArray, List.setIfInBounds_toArray, List.set_cons_zero, List.set_cons_succ]
        have hpre : pre.length < Lm.length := by rw [hL]; simp
        obtain ⟨pk, pv⟩ := p
        obtain ⟨q, hq⟩ : ∃ q, q = Lm.length + Lm.length + pre.length := ⟨_, rfl⟩
        have hq2 : q < 9223372036854775807 := by omega
        have HI : Hid (SelfI w B2 B3 B5 m z Lm [D2, D1] FF GG q W) := by rw [hq]; exact hI
        have HQ : Hid (Lm.length + Lm.length + (pre ++ [(pk, pv)]).length = q + 1) := Lib.hid (by simp [hq]; omega)
        have c5 : W.cell? ⟨B5, 0, none⟩ = some (.int .i64 (q : Int)) := cell_of_row _ _ _ _ _ _ HI.out.num
        have f5 : W.frozen? ⟨B5, 0, none⟩ = false := frozen_of_row _ _ _ _ _ HI.out.num
        have U7 := Lib.hid (HI.out.up (m0 := wd.heap.size) hw5 d2 d3)
        unfold II.ek II.ev
        dsimp only
        clear hI hL hq hpre HI
        gi_wp2
        exact ⟨U7.out.1, U7.out.2.1, Lib.hid (by rw [HQ.out]; exact U7.out.2.2)⟩
      case done3 =>
        intro D3 W3 hD3 hI hK
        have J3 : Hid (SelfI w B2 B3 B5 m z Lm [D3, D2, D1] FF GG (Lm.length + Lm.length + Lm.length) W3.drew) := Lib.hid ((hI.out.more hK).kept (Kept.drew _ _))
        have hDw3 : w.heap.size ≤ D3 := Nat.le_trans hwT hD3
        have hDD3 : D2 < D3 := Nat.lt_of_lt_of_le (HNO.out D2 (by simp)) hD3
        clear hI hK ID HR hwT HFF HGG HNO hD3
        have hn := J3.out.num
        obtain ⟨lm, hlm⟩ : ∃ lm, lm = Lm.length := ⟨_, rfl⟩
        rw [← hlm] at hsm2
        rw [← hlm, show ((lm + lm + lm : Nat) : Int) = 3 * (lm : Int) by omega] at hn
        have hwr : IntKind.i64.wrap (3 * (lm : Int)) = 3 * (lm : Int) := by rw [IntKind.wrap_i64]; omega
        have Q := Lib.hid J3.out.two.two.size
        rw [← hlm] at Q
        have c5 : W3.drew.cell? ⟨B5, 0, none⟩ = some (.int .i64 (3 * (lm : Int))) := cell_of_row _ _ _ _ _ _ hn
        have c3 : W3.drew.cell? ⟨B3, 0, none⟩ = some (.pointer (some ⟨m, 0, none⟩)) := cell_of_row _ _ _ _ _ _ J3.out.mbox
        have c2 : W3.drew.cell? ⟨B2, 0, none⟩ = some (.bool false) := cell_of_row _ _ _ _ _ _ J3.out.res
        have f2 : W3.drew.frozen? ⟨B2, 0, none⟩ = false := frozen_of_row _ _ _ _ _ J3.out.res
        have k7 : Kept (fun i => i = B2) W3.drew (W3.setCell ⟨B2, 0, none⟩ (.bool true)).drew := Kept.setCell (S := fun i => i = B2) W3.drew (by rfl) _
        have c5s : (W3.setCell ⟨B2, 0, none⟩ (.bool true)).drew.cell? ⟨B5, 0, none⟩ = some (.int .i64 (3 * (lm : Int))) := k7.cell (p := ⟨B5, 0, none⟩) c5 (Ne.symm d2)
        have c3s : (W3.setCell ⟨B2, 0, none⟩ (.bool true)).drew.cell? ⟨B3, 0, none⟩ = some (.pointer (some ⟨m, 0, none⟩)) := k7.cell (p := ⟨B3, 0, none⟩) c3 d23
        have r7 : (W3.setCell ⟨B2, 0, none⟩ (.bool true)).drew.heap[B2]? = some (.cells #[.bool true] 4 (0, 0)) := setB (u := .bool true) J3.out.res
        have defs7 : ∀ D ∈ [D3, D2, D1], (W3.setCell ⟨B2, 0, none⟩ (.bool true)).drew.heap[D]? = some (.deferred (some [])) := fun D hd => k7.blk (J3.out.defs D hd) (fun e => by have h1 := J3.out.defs D hd; rw [e, J3.out.res] at h1; cases h1)
        have kw7 : Kept noBlock w (W3.setCell ⟨B2, 0, none⟩ (.bool true)).drew := J3.out.two.two.world.trans k7 (fun i hi e => by omega)
        have x3 := defs7 D3 (by simp)
        have x2 : ((W3.setCell ⟨B2, 0, none⟩ (.bool true)).drew.putObj D3 (.deferred none)).heap[D2]? = some (.deferred (some [])) := (World.putObj_heap_other (by omega)).trans (defs7 D2 (by simp))
        have x1 : (((W3.setCell ⟨B2, 0, none⟩ (.bool true)).drew.putObj D3 (.deferred none)).putObj D2 (.deferred none)).heap[D1]? = some (.deferred (some [])) := (World.putObj_heap_other (by omega)).trans ((World.putObj_heap_other (by omega)).trans (defs7 D1 (by simp)))
        have st : Abide II.TT w.heap.size (W3.setCell ⟨B2, 0, none⟩ (.bool true)).drew ((((W3.setCell ⟨B2, 0, none⟩ (.bool true)).drew.putObj D3 (.deferred none)).putObj D2 (.deferred none)).putObj D1 (.deferred none)) :=
          ((Abide.putObj _ hDw3 x3 rfl).trans (Abide.putObj _ hDw2 x2 rfl)).trans (Abide.putObj _ hDw x1 rfl)
        have FIN := Lib.hid (Abide.kept kw7 st (Nat.le_refl _))
        have R8 := Lib.hid (st.blk r7 (.inr (by unfold II.TT; decide)))
        have X3 := Lib.hid x3
        have X2 := Lib.hid x2
        have X1 := Lib.hid x1
        clear hlm hn k7 J3 st r7 x3 x2 x1 defs7 kw7
        go_upto_region 16 with (fail)
        refine wp_region_noPanic ?_
        refine wp_region_held_drew (S := fun w' => w'.cell? ⟨B5, 0, none⟩ = some (.int .i64 (3 * (lm : Int))) ∧ w'.cell? ⟨B3, 0, none⟩ = some (.pointer (some ⟨m, 0, none⟩))) (by kernel_rfl) ⟨c5, c3⟩ (fun hHeld => ?_)
        refine wpAnyH_take (i := 0) (oi := ⟨some 55, Op.load 3 (Operand.tmp 5), 3, _, _, none⟩) (v := ?v0n3k1) rfl (by kernel_rfl) (by kernel_rfl) (by kernel_rfl) (fun _ _ _ h => h) (Or.inl ⟨by rfl, ?y0n3k1⟩) hHeld ?z0n3k1
        case y0n3k1 => intro w hSw; (try dsimp only at hSw); go_simp <;> rfl
        try simp only [Act.put, List.setIfInBounds_toArray, List.set_cons_zero, List.set_cons_succ]
        refine wpAnyH_take (i := 1) (oi := ⟨some 56, Op.load 24 (Operand.tmp 3), 24, _, _, none⟩) (v := ?v1n3k2) rfl (by kernel_rfl) (by kernel_rfl) (by kernel_rfl) (fun _ _ _ h => h) (Or.inl ⟨by rfl, ?y1n3k2⟩) hHeld ?z1n3k2
        case y1n3k2 => intro w hSw; (try dsimp only at hSw); go_simp <;> rfl
        try simp only [Act.put, List.setIfInBounds_toArray, List.set_cons_zero, List.set_cons_succ]
        refine wpAnyH_ready (rs := [2]) (by kernel_rfl) (by simp) ?_
        refine AllReadyH.cons (o := ⟨some 57, Op.call { callee := Callee.value (Operand.func 17), args := #[Operand.tmp 56], argTypes := #[24] }, 3, _, _, none⟩) rfl (fun K hK => ?_) AllReadyH.nil
        go_simp
        refine Q.out.mono ?_
        rintro e w8 ⟨rfl, rfl⟩
        dsimp only
        refine hK.out _ _ ⟨c5, c3⟩ (fun hHeld => ?_)
        clear hK K
        try simp only [Act.put, List.setIfInBounds_toArray, List.set_cons_zero, List.set_cons_succ]
        refine wpAnyH_take (i := 3) (oi := ⟨some 58, Op.binOp BinOp.mul 3 (Operand.const (Value.int IntKind.i64 3)) (Operand.tmp 57) 3, 3, _, _, none⟩) (v := ?v3n3k3) rfl (by kernel_rfl) (by kernel_rfl) (by kernel_rfl) (fun _ _ _ h => h) (Or.inl ⟨by rfl, ?y3n3k3⟩) hHeld ?z3n3k3
        case y3n3k3 => intro w hSw; (try dsimp only at hSw); go_simp <;> rfl
        try simp only [Act.put, List.setIfInBounds_toArray, List.set_cons_zero, List.set_cons_succ]
        refine wpAnyH_take (i := 4) (oi := ⟨some 59, Op.binOp BinOp.eql 3 (Operand.tmp 55) (Operand.tmp 58) 3, 4, _, _, none⟩) (v := ?v4n3k4) rfl (by kernel_rfl) (by kernel_rfl) (by kernel_rfl) (fun _ _ _ h => h) (Or.inl ⟨by rfl, ?y4n3k4⟩) hHeld ?z4n3k4
        case y4n3k4 => intro w hSw; (try dsimp only at hSw); go_simp <;> rfl
        try simp only [Act.put, List.setIfInBounds_toArray, List.set_cons_zero, List.set_cons_succ]
        refine wpAnyH_ready (rs := [5]) (by kernel_rfl) (by simp) ?_
        refine AllReadyH.cons (o := ⟨none, Op.store 4 (Operand.tmp 2) (Operand.tmp 59), 0, _, _, none⟩) rfl (fun K hK => ?_) AllReadyH.nil
        go_simp
        refine hK.out _ _ ⟨c5s, c3s⟩ (fun hHeld => ?_)
        clear hK K
        try simp only [Act.put, List.setIfInBounds_toArray, List.set_cons_zero, List.set_cons_succ]
        refine wpAnyH_done (by kernel_rfl) ?_ _
        refine NoPanic.normal ?_
        clear hHeld c5 c3 c2 f2 c5s c3s Q
        go_wp2
        refine ⟨by simp, .inl ⟨_, _, rfl, run_takeDeferred X3.out, ?_⟩⟩
        refine ⟨by simp, .inl ⟨_, _, rfl, run_takeDeferred X2.out, ?_⟩⟩
        refine ⟨by simp, .inl ⟨_, _, rfl, run_takeDeferred X1.out, ?_⟩⟩
        exact ⟨_, results_box rfl _ _ B2 (.bool true) rfl (cell_of_row _ _ _ _ _ _ R8.out), rfl, FIN.out⟩
      case stop3 =>
        rintro D c pre W _ _ h _
        exact h.elim
    case stop2 =>
      rintro D c pre W _ _ h _
      exact h.elim
  case stop =>
    rintro D c pre W _ _ h _
    exact h.elim
end Go.Proofs.Ytohanlhfbfodlaa
