/-
  Several texts, one behind the other. No statement is proved here.
-/
import Derived.Test.YthmjjhjblokjeaaGreatStfKP
import Derived.Test.YthmjjhjblokjeaaGreatStpK
import Derived.Test.YthmjjhjblokjeaaGreatRunK
import Derived.Shelf.Abstract
import Derived.Shelf.RegionOpen
import Derived.OwnWalkIn
import Derived.TacticsInMore
import Derived.LoopNIn
import Derived.LoopIn
import Derived.Deep.DeepCutAuto
import Derived.Test.YthmjjhjblokjeaaGreatDltK
import Derived.Sort.CutIn
import Derived.RangeFuncBound
/-
  Keys with pairs are gone over: run. No statement is proved here.
-/
namespace Go.Proofs.YthmjjhjblokjeaaGreat.KP
open Go.RowKit Srt Tot
attribute [local go_sem] Oper.semAt_some

/-- Cells that a function that goes over things changes; cells that a round leaves (what lies below B, and boxes). -/
def NT (_ : Nat) (_ : TypeId) : Prop := False
def UO (B k : Nat) (t : TypeId) : Prop := k < B ∨ t = 24 ∨ t = 103
/-- The same of Merge, where rounds own pairs. -/
def TM (O : Nat → Prop) (k : Nat) (t : TypeId) : Prop := t = 104 ∨ (t = 68 ∧ ¬ O k)
def UM (B : Nat) (O : Nat → Prop) (k : Nat) (t : TypeId) : Prop := UO B k t ∨ t = 110 ∨ t = 104 ∨ (t = 68 ∧ ¬ O k)
theorem anti_um (B : Nat) : Anti (UM B) := fun _ _ _ _ h u => u.imp id (fun u => u.imp id (fun u => u.imp id (fun u => ⟨u.1, fun h2 => u.2 (h h2)⟩)))
/-- What is handed over. -/
def yenc (x : ByteArray × (ByteArray × Bool)) : Array Value := #[.string x.1, .agg #[.string x.1, .string x.2.1, .bool x.2.2]]
theorem rowed_lies {w : World} {t : TypeId} {a : Option Addr} {xs : List Value} (h : Rowed w t a xs) : Lies w (fun _ => True) a xs := fun hx => by
  obtain ⟨g, o, e, hc⟩ := h.cells hx
  exact ⟨_, e, trivial, fun j u hu => by rw [add_plain]; exact hc j u hu⟩
theorem cells_at {w : World} {p : Addr} {u : Value} (h : w.cell? p = some u) : ∃ cs t fr, w.heap[p.block]? = some (.cells cs t fr) := by
  unfold World.cell? at h
  split at h
  · rename_i c e fr hb
    exact ⟨c, e, fr, hb⟩
  · cases h
/-- Cells below B that rounds left. -/
theorem lies_spared {B : Nat} {W W' : World} {a : Option Addr} {xs : List Value} (h : Lies W (fun i => i < B) a xs) (s : Spares (UO B) W W') : Lies W' (fun i => i < B) a xs := fun hx => by
  obtain ⟨ad, e, hf, hc⟩ := h hx
  refine ⟨ad, e, hf, fun j u hu => ?_⟩
  have h1 := hc j u hu
  obtain ⟨cs, t, fr, hb⟩ := cells_at h1
  rw [World.cell?_of_block ((s _ _ _ _ hb (.inl (by rw [block_add]; exact hf))).trans hb.symm)]
  exact h1

set_option maxRecDepth 100000 in
set_option maxHeartbeats 1000000 in
theorem run_goes (T U : (Nat → Prop) → Nat → TypeId → Prop) (hA : Anti U) (a : Option Addr) (n c : Nat) (L : Prs) (l m : Nat) (J Jx : Prs → (Nat → Prop) → World → Prop) (pre0 : Prs) (O0 : Nat → Prop) (W : World) (h : Rowed W 110 a (cells L)) (hl : L.length = n) (hc : n ≤ c) (hn : n ≤ 1099511627776) (hU : ∀ O g, U O g 110)
    (hJ : ∀ s O A B, J s O A → Abide (T O) m A B → J s O B) (hY : ∀ pre x rest O W1, L = pre ++ x :: rest → J (pre0 ++ pre) O W1 → YieldAt Fence.wide 0 Tryz.prog l (yenc x) W1 (Told2 U m J Jx (pre0 ++ pre ++ [x]) O W1)) (h0 : J pre0 O0 W) :
    Calls Tryz.prog 48 #[.slice a n c, .func (.yield l) #[] #[]] W fun e W' => ∃ O', Went U m O0 W O' W' ∧ ((e = .returned (.bool true) ∧ J (pre0 ++ L) O' W') ∨ (e = .returned (.bool false) ∧ ∃ part, part <+: L ∧ Jx (pre0 ++ part) O' W')) := by
  have H := Lib.hid h; clear h
  have HL := Lib.hid hl; clear hl
  have HJ := Lib.hid hJ; clear hJ
  have HY := Lib.hid hY; clear hY
  have H0 := Lib.hid h0; clear h0
  have HU := Lib.hid hU; clear hU
  go_enter Tryz.func48, Tryz.ntmps48
  go_wp2
  go_loopw [9] (fun e wr => ∃ k : Nat, k ≤ n ∧ e = .int .i64 (k : Int) ∧ Hid (∃ O, J (pre0 ++ L.take k) O wr ∧ Went U m O0 W O wr)) (fun e _ => n - (intOf e).toNat)
  case atStart => exact ⟨0, Nat.zero_le _, rfl, Lib.hid ⟨O0, by simpa using H0.out, Went.refl⟩⟩
  case round =>
    obtain ⟨k, hk, rfl, HJk⟩ := hrel
    by_cases hlt : k < n
    · obtain ⟨x, hx⟩ : ∃ x, L[k]? = some x := ⟨L[k]'(by rw [HL.out]; omega), List.getElem?_eq_getElem _⟩
      obtain ⟨O1, hj1, hw1⟩ := HJk.out
      have hR := H.out.keep (w' := wr) (fun g cs hg => hw1.sp g cs _ _ hg (HU.out O0 g))
      have HJ1 := Lib.hid hj1; clear hj1
      have HW1 := Lib.hid hw1; clear hw1 HJk
      obtain ⟨g, o, rfl, cc⟩ := hR.elem enc_len (by omega) hx
      have c0 := cc 0 _ rfl; rw [Nat.add_zero] at c0; have c1 := cc 1 _ rfl; have c2 := cc 2 _ rfl; have c3 := cc 3 _ rfl
      clear cc
      have hsp : L = L.take k ++ x :: L.drop (k + 1) := by
        have hk' : k < L.length := by rw [HL.out]; exact hlt
        rw [List.getElem?_eq_getElem hk'] at hx
        injection hx with hx
        rw [← hx, List.getElem_cons_drop, List.take_append_drop]
      have htk : L.take (k + 1) = L.take k ++ [x] := take_snoc L k x hx
      have HSP := Lib.hid hsp; clear hsp
      have HTK := Lib.hid htk; clear htk hR
      obtain ⟨x1, x2, x3⟩ := x
      have YY : Hid (∀ W1, Kept noBlock wr W1 → YieldAt Fence.wide 0 Tryz.prog l (yenc (x1, x2, x3)) W1 (Told2 U m J Jx (pre0 ++ L.take (k + 1)) O1 W1)) := Lib.hid (by
        intro W1 k1
        have hy := HY.out (L.take k) (x1, x2, x3) (L.drop (k + 1)) O1 W1 HSP.out (HJ.out _ _ _ _ HJ1.out (Abide.of_kept k1))
        rw [List.append_assoc, ← HTK.out] at hy
        exact hy)
      clear hx
      unfold yenc at *
      dsimp only at c0 c1 c2 c3
      go_upto_region 4 with (fail)
      refine (wpIn_wide (n := 1)).1 ?_
      have k1 : Kept noBlock wr (wr.alloc (.cells #[.string x1, .string x1, .string x2, .bool x3] 110)) := Kept.alloc _ _ _
      obtain ⟨fn, tm, asg, bod, hy, hR⟩ := YY.out _ k1
      dsimp only at hy
      have KA := Lib.hid k1
      clear k1 YY c0 c1 c2 c3
      gi_wp2
      refine hR.mono ?_
      clear hR hy
      rintro e w5 ⟨O5, s5, (⟨rfl, hJ5⟩ | ⟨rfl, hJ5⟩)⟩
      · have HJ5 := Lib.hid (show ∃ O, J (pre0 ++ L.take (k + 1)) O w5 ∧ Went U m O0 W O w5 from ⟨O5, hJ5, HW1.out.trans hA (Went.trans hA (Went.of_kept KA.out) s5)⟩)
        clear hJ5 s5 KA
        gi_wp2
        go_wp2
        go_roundw
        case rel => exact ⟨k + 1, by omega, by go_num, HJ5⟩
        case measure => simp [intOf]; omega
      · have HJ5 := Lib.hid (show ∃ O, Jx (pre0 ++ L.take (k + 1)) O w5 ∧ Went U m O0 W O w5 from ⟨O5, hJ5, HW1.out.trans hA (Went.trans hA (Went.of_kept KA.out) s5)⟩)
        clear hJ5 s5 KA
        gi_wp2
        go_wp2
        go_ret
        obtain ⟨O6, h6, h7⟩ := HJ5.out
        exact ⟨O6, h7, .inr ⟨rfl, _, List.take_prefix _ _, h6⟩⟩
    · obtain rfl : k = n := by omega
      have hJL : ∃ O, J (pre0 ++ L) O wr ∧ Went U m O0 W O wr := by
        have := HJk.out
        rwa [List.take_of_length_le (by rw [HL.out]; exact Nat.le_refl _)] at this
      have HJL := Lib.hid hJL; clear hJL HJk
      go_wp2
      go_ret
      obtain ⟨O6, h6, h7⟩ := HJL.out
      exact ⟨O6, h7, .inl ⟨rfl, h6⟩⟩
end Go.Proofs.YthmjjhjblokjeaaGreat.KP

/-
  Pairs are gone over: each, eachGone. No statement is proved here.
-/
namespace Go.Proofs.YthmjjhjblokjeaaGreat.KP
open Go.RowKit Srt Tot Go.Shelf
attribute [local go_sem] Oper.semAt_some

set_option maxRecDepth 100000 in
set_option maxHeartbeats 1000000 in
theorem each_any (A : Option Addr) (n c : Nat) (w : World) :
    Calls Tryz.prog 23 #[.slice A n c] w fun e w' => e = .returned (.func (.func 50) #[] #[.pointer (some ⟨w.heap.size, 0, none⟩)]) ∧ w'.heap[w.heap.size]? = some (.cells #[.slice A n c] 24 (0, 0)) ∧ Kept noBlock w w' := by
  go_enter Tryz.func23, Tryz.ntmps23
  go_wp2
  go_ret
  exact ⟨rfl, heap_alloc_new _ _, Kept.alloc _ _ _⟩
set_option maxRecDepth 100000 in
set_option maxHeartbeats 1000000 in
theorem kgone_any (A : Option Addr) (n c : Nat) (w : World) :
    Calls Tryz.prog 22 #[.slice A n c] w fun e w' => e = .returned (.func (.func 49) #[] #[.pointer (some ⟨w.heap.size, 0, none⟩)]) ∧ w'.heap[w.heap.size]? = some (.cells #[.slice A n c] 24 (0, 0)) ∧ Kept noBlock w w' := by
  go_enter Tryz.func22, Tryz.ntmps22
  go_wp2
  go_ret
  exact ⟨rfl, heap_alloc_new _ _, Kept.alloc _ _ _⟩
set_option maxRecDepth 100000 in
set_option maxHeartbeats 1000000 in
theorem each1_goes (T : Nat → TypeId → Prop) (Bb B : Nat) (A : Option Addr) (n c : Nat) (L : Prs) (w : World) (hb : w.heap[Bb]? = some (.cells #[.slice A n c] 24 (0, 0))) (h : Lies w (fun i => i < B) A (PR.cells L)) (hl : L.length = n) (hc : n ≤ c) (hn : n ≤ 1099511627776) :
    Runs Tryz.prog 50 #[.pointer (some ⟨Bb, 0, none⟩)] yenc T (UO B) L w := by
  intro l J Jx W kW hJ hJx hY h0
  show Calls Tryz.prog 50 #[.func (.yield l) #[] #[], .pointer (some ⟨Bb, 0, none⟩)] W _
  have c0 : W.cell? ⟨Bb, 0, none⟩ = some (.slice A n c) := cell_of_row _ _ _ _ _ _ (kW.blk hb (fun h => h))
  have H := Lib.hid (h.keep kW (fun _ _ h => h)); clear h hb kW
  have HL := Lib.hid hl; clear hl
  have HJ := Lib.hid hJ; clear hJ
  have HY := Lib.hid hY; clear hY
  have H0 := Lib.hid h0; clear h0 hJx
  go_enter Tryz.func50, Tryz.ntmps50
  go_wp2
  go_loopw [7] (fun e wr => ∃ k : Nat, k ≤ n ∧ e = .int .i64 (k : Int) ∧ Hid (J (L.take k) wr) ∧ Hid (Spares (UO B) W wr)) (fun e _ => n - (intOf e).toNat)
  case atStart => exact ⟨0, Nat.zero_le _, rfl, Lib.hid (by simpa using H0.out), Lib.hid (Spares.refl _ _)⟩
  case round =>
    obtain ⟨k, hk, rfl, HJk, HS⟩ := hrel
    by_cases hlt : k < n
    · obtain ⟨x, hx⟩ : ∃ x, L[k]? = some x := ⟨L[k]'(by rw [HL.out]; omega), List.getElem?_eq_getElem _⟩
      obtain ⟨g, o, rfl, _, cc⟩ := (lies_spared H.out HS.out).elem PR.enc_len (by omega) hx
      have d0 := cc 0 _ rfl; rw [Nat.add_zero] at d0; have d1 := cc 1 _ rfl; have d2 := cc 2 _ rfl
      clear cc
      have hsp : L = L.take k ++ x :: L.drop (k + 1) := by
        have hk' : k < L.length := by rw [HL.out]; exact hlt
        rw [List.getElem?_eq_getElem hk'] at hx
        injection hx with hx
        rw [← hx, List.getElem_cons_drop, List.take_append_drop]
      have htk : L.take (k + 1) = L.take k ++ [x] := take_snoc L k x hx
      have HSP := Lib.hid hsp; clear hsp
      have HTK := Lib.hid htk; clear htk
      obtain ⟨x1, x2, x3⟩ := x
      have YY : Hid (∀ W1, Kept noBlock wr W1 → YieldAt Fence.wide 0 Tryz.prog l (yenc (x1, x2, x3)) W1 (Told (UO B) W.heap.size J Jx (L.take (k + 1)) W1)) := Lib.hid (by
        intro W1 k1
        have hy := HY.out (L.take k) (x1, x2, x3) (L.drop (k + 1)) W1 HSP.out (HJ.out _ _ _ HJk.out (Abide.of_kept k1))
        rw [← HTK.out] at hy
        exact hy)
      clear hx
      unfold yenc at *
      dsimp only at d0 d1 d2
      go_upto_region 3 with (fail)
      refine (wpIn_wide (n := 1)).1 ?_
      have k1 : Kept noBlock wr (wr.alloc (.cells #[.string x1, .string x2, .bool x3] 68)) := Kept.alloc _ _ _
      obtain ⟨fn, tm, asg, bod, hy, hR⟩ := YY.out _ k1
      dsimp only at hy
      have KA := Lib.hid k1
      clear k1 YY d0 d1 d2
      gi_wp2
      refine hR.mono ?_
      clear hR hy
      rintro e w5 (⟨rfl, hJ5, s5, k5⟩ | ⟨rfl, hJ5, s5, k5⟩)
      · have HJ5 := Lib.hid hJ5
        have HS5 := Lib.hid (HS.out.trans ((Spares.of_kept KA.out).trans s5))
        clear hJ5 s5 k5 KA
        gi_wp2
        go_wp2
        go_roundw
        case rel => exact ⟨k + 1, by omega, by go_num, HJ5, HS5⟩
        case measure => simp [intOf]; omega
      · have HJ5 := Lib.hid hJ5
        clear hJ5 s5 k5 KA
        gi_wp2
        go_wp2
        refine bodyPost_ret (results_none rfl _ _ _) rfl ?_
        exact ⟨⟨_, rfl⟩, .inr ⟨_, List.take_prefix _ _, HJ5.out⟩⟩
    · obtain rfl : k = n := by omega
      have hJL : J L wr := by
        have := HJk.out
        rwa [List.take_of_length_le (by rw [HL.out]; exact Nat.le_refl _)] at this
      have HJL := Lib.hid hJL; clear hJL
      go_wp2
      go_end0
      exact ⟨⟨_, rfl⟩, .inl HJL.out⟩

/-- A function value that goes over L. -/
structure Seq (v : Value) (B : Nat) (L : Prs) (w : World) : Prop where
  is : ∃ g lb, v = .func (.func g) #[] lb ∧ (∀ args w, (callFunc g args).run Tryz.prog w = .ok (.enter g args) w) ∧ Runs Tryz.prog g lb yenc NT (UO B) L w
theorem Seq.later {v : Value} {B : Nat} {L : Prs} {w w' : World} (h : Seq v B L w) (k : Kept noBlock w w') : Seq v B L w' := by
  obtain ⟨g, lb, e, eg, hr⟩ := h.is
  exact ⟨⟨g, lb, e, eg, hr.later k⟩⟩
theorem each1_seq (Bb B : Nat) (A : Option Addr) (n c : Nat) (L : Prs) (w : World) (hb : w.heap[Bb]? = some (.cells #[.slice A n c] 24 (0, 0))) (h : Lies w (fun i => i < B) A (PR.cells L)) (hl : L.length = n) (hc : n ≤ c) (hn : n ≤ 1099511627776) :
    Seq (.func (.func 50) #[] #[.pointer (some ⟨Bb, 0, none⟩)]) B L w :=
  ⟨⟨_, _, rfl, enters_of Tryz.func50 (by kernel_rfl) rfl, each1_goes NT Bb B A n c L w hb h hl hc hn⟩⟩

/-- All of a row, as keys that are gone. -/
def gones (L : Prs) : Prs := L.map fun p => (p.1, goneV)
theorem gones_snoc (L : Prs) (x : ByteArray × (ByteArray × Bool)) : gones (L ++ [x]) = gones L ++ [(x.1, goneV)] := by simp [gones]
theorem up_gones {L : Prs} (h : Up L) : Up (gones L) := up_keyed h (fun _ => goneV)
/-- Where eachGone is. -/
structure GgI (J : Prs → World → Prop) (By l : Nat) (pre : Prs) (V : World) : Prop where
  j : J (gones pre) V
  y : V.heap[By]? = some (.cells #[.func (.yield l) #[] #[]] 103 (0, 0))
set_option maxRecDepth 100000 in
set_option maxHeartbeats 1000000 in
theorem gone1_goes (Bb B : Nat) (A : Option Addr) (n c : Nat) (L : Prs) (w : World) (hb : w.heap[Bb]? = some (.cells #[.slice A n c] 24 (0, 0))) (h : Lies w (fun i => i < B) A (PR.cells L)) (hl : L.length = n) (hc : n ≤ c) (hn : n ≤ 1099511627776) :
    Runs Tryz.prog 49 #[.pointer (some ⟨Bb, 0, none⟩)] yenc NT (UO B) (gones L) w := by
  intro l J Jx W kW hJ hJx hY h0
  show Calls Tryz.prog 49 #[.func (.yield l) #[] #[], .pointer (some ⟨Bb, 0, none⟩)] W _
  have ka := Kept.alloc noBlock W (.cells #[.func (.yield l) #[] #[]] 103)
  have c0 : (W.alloc (.cells #[.func (.yield l) #[] #[]] 103)).cell? ⟨Bb, 0, none⟩ = some (.slice A n c) := cell_of_row _ _ _ _ _ _ ((kW.step ka).blk hb (fun h => h))
  have hyb : (W.alloc (.cells #[.func (.yield l) #[] #[]] 103)).heap[W.heap.size]? = some (.cells #[.func (.yield l) #[] #[]] 103 (0, 0)) := heap_alloc_new _ _
  have hj1 := hJ _ _ _ h0 (Abide.of_kept ka)
  have hsz : (W.alloc (.cells #[.func (.yield l) #[] #[]] 103)).heap.size = W.heap.size + 1 := by simp
  have hli := h.keep (kW.step ka) (fun _ _ h => h)
  have HJ := Lib.hid hJ
  have HJx := Lib.hid hJx
  have HY := Lib.hid hY
  clear hJ hJx hY hb h h0 ka kW
  refine (callsIn_wide (n := 3)).1 ?_
  refine callsIn_of_wp_marks Tryz.func49 rfl trivial ?_ rfl
  simp only [Tryz.ntmps49, List.size_toArray, List.length_cons, List.length_nil, Nat.reduceAdd, Nat.reduceSub, Array.replicate_succ, Array.replicate_zero, List.push_toArray, List.append_toArray, List.nil_append, List.cons_append]
  refine wpIn_wide.2 ?_
  obtain ⟨By, hBy⟩ : ∃ By, By = W.heap.size := ⟨_, rfl⟩
  rw [← hBy] at hyb
  have EA := Lib.hid (each_any A n c)
  go_wp2_with fail
  rw [← hBy]
  generalize W.alloc (.cells #[.func (.yield l) #[] #[]] 103) = W1 at c0 hyb hj1 hsz hli ⊢
  refine (EA.out W1).mono ?_
  clear EA c0
  rintro e w2 ⟨rfl, hb2, k2⟩
  have hs2 := k2.size
  have hR := each1_goes NT _ B A n c L w2 hb2 (hli.keep k2 (fun _ _ h => h)) hl hc hn
  have I3 : Hid (GgI J By l [] w2) := Lib.hid ⟨HJ.out _ _ _ hj1 (Abide.of_kept k2), k2.blk hyb (fun h => h)⟩
  have HR := Lib.hid hR
  have EG := Lib.hid (fun args w => enters_of (P := Tryz.prog) Tryz.func50 (by kernel_rfl) rfl args w)
  have hW3 : W.heap.size ≤ w2.heap.size := by omega
  clear hb2 k2 hR hyb hj1 hli hs2 hsz hc hn
  subst hBy
  go_wp2_with fail
  refine (wpIn_wide (n := 3)).1 ?_
  refine wpIn_runs_to rfl EG.out HR.out (Kept.refl _ _) (fun _ => rfl) (fun p => [(3, .string p.1)]) (fun pre V => Hid (GgI J W.heap.size l pre V)) (fun cd _ V => Hid (cd = Code.ret ∧ ∃ q, q <+: gones L ∧ Jx q V))
    (fun s A B h k => Lib.hid ⟨HJ.out _ _ _ h.out.j (k.mono hW3), k.blk h.out.y (.inr (fun h => h))⟩) (fun cd s A B h k => Lib.hid ⟨h.out.1, by obtain ⟨q, h1, h2⟩ := h.out.2; exact ⟨q, h1, HJx.out _ _ _ h2 (k.mono hW3)⟩⟩) I3 ?assign ?body ?done ?stop
  case assign =>
    intro l2 x V K hK
    dsimp only [yenc]
    simp only [landed, List.foldl_cons, List.foldl_nil, List.zip_toArray, List.zip_cons_cons, List.zip_nil_right, yenc, List.foldl_toArray, List.setIfInBounds_toArray, List.set_cons_zero, List.set_cons_succ] at hK
    gi_wp2
    exact hK
  case body =>
    rintro l2 pre x rest V hL hI
    simp only [landed, List.foldl_cons, List.foldl_nil, List.zip_toArray, List.zip_cons_cons, List.zip_nil_right, yenc, List.foldl_toArray, List.setIfInBounds_toArray, List.set_cons_zero, List.set_cons_succ]
    obtain ⟨x1, x2, x3⟩ := x
    have cy : V.cell? ⟨W.heap.size, 0, none⟩ = some (.func (.yield l) #[] #[]) := cell_of_row _ _ _ _ _ _ hI.out.y
    have hE : gones (pre ++ [(x1, x2, x3)]) = gones pre ++ [(x1, goneV)] := gones_snoc _ _
    have hM : gones L = gones pre ++ (x1, goneV) :: gones rest := by rw [hL]; simp [gones]
    have YF : YieldAt Fence.wide 0 Tryz.prog l #[.string x1, .agg #[.string x1, .string ⟨#[]⟩, .bool true]] V (Told (UO B) W.heap.size J Jx (gones (pre ++ [(x1, x2, x3)])) V) := by
      rw [hE]
      exact HY.out (gones pre) (x1, goneV) (gones rest) V hM hI.out.j
    have HM := Lib.hid hM
    have HI := Lib.hid hI.out.y
    have HE := Lib.hid hE
    clear hE hM hL hI
    obtain ⟨fn, tm, asg, bod, hy, hRd⟩ := yieldAt_round (l0 := l2) YF
    clear YF
    gi_wp2
    refine hRd.mono ?_
    clear hRd hy
    rintro e Z (⟨rfl, hJ5, s5, k5⟩ | ⟨rfl, hJ5, s5, k5⟩)
    · have FIN := Lib.hid (show KeepsFrom w2.heap.size V Z ∧ Spares (UO B) V Z ∧ Hid (GgI J W.heap.size l (pre ++ [(x1, x2, x3)]) Z) from ⟨keepsFrom_mono k5 hW3, s5, Lib.hid ⟨hJ5, s5 _ _ _ _ HI.out (.inr (.inr rfl))⟩⟩)
      clear hJ5 s5 k5
      gi_wp2
      exact FIN.out
    · have FIN := Lib.hid (show KeepsFrom w2.heap.size V Z ∧ Spares (UO B) V Z ∧ Hid (∃ q, q <+: gones L ∧ Jx q Z) from ⟨keepsFrom_mono k5 hW3, s5, Lib.hid ⟨_, ⟨gones rest, by rw [HM.out, HE.out]; simp⟩, hJ5⟩⟩)
      clear hJ5 s5 k5
      gi_wp2
      exact ⟨FIN.out.1, FIN.out.2.1, Lib.hid ⟨rfl, FIN.out.2.2.out⟩⟩
  case done =>
    intro D V hD hI hK
    have HK2 := Lib.hid hK
    clear hK
    refine ⟨by simp, .inl ⟨_, _, rfl, run_takeDeferred HK2.out, ?_⟩⟩
    exact ⟨_, results_none rfl _ _ _, ⟨_, rfl⟩, .inl (HJ.out _ _ _ hI.out.j (Abide.putObj _ (Nat.le_trans hW3 hD) HK2.out rfl))⟩
  case stop =>
    rintro D cd pre V hD hpre h hK
    obtain ⟨rfl, q, hq, hj⟩ := h.out
    have HJV := Lib.hid hj
    have HKD := Lib.hid hK
    clear hj hK h
    gi_wp2
    refine ⟨by simp, .inl ⟨_, _, rfl, run_takeDeferred HKD.out, ?_⟩⟩
    exact ⟨_, results_none rfl _ _ _, ⟨_, rfl⟩, .inr ⟨q, hq, HJx.out _ _ _ HJV.out (Abide.putObj _ (Nat.le_trans hW3 hD) HKD.out rfl)⟩⟩
theorem gone1_seq (Bb B : Nat) (A : Option Addr) (n c : Nat) (L : Prs) (w : World) (hb : w.heap[Bb]? = some (.cells #[.slice A n c] 24 (0, 0))) (h : Lies w (fun i => i < B) A (PR.cells L)) (hl : L.length = n) (hc : n ≤ c) (hn : n ≤ 1099511627776) :
    Seq (.func (.func 49) #[] #[.pointer (some ⟨Bb, 0, none⟩)]) B (gones L) w :=
  ⟨⟨_, _, rfl, enters_of Tryz.func49 (by kernel_rfl) rfl, gone1_goes Bb B A n c L w hb h hl hc hn⟩⟩
end Go.Proofs.YthmjjhjblokjeaaGreat.KP

/-
  A row of keys with pairs is laid out: layOut. No statement is proved here.
-/
namespace Go.Proofs.YthmjjhjblokjeaaGreat
open Go.RowKit
/-- The loop, where the assignment lays what came into slots, and into a block of its own, which comes from m on. -/
theorem wpIn_runs_box2 {n : Nat} {P : Program} {α : Type} {g : Operand} {ps : Array Tmp} {assign body : Code} {Q : Exit → Act → World → Prop} {a : Act} {w : World}
    {gf : Nat} {lb : Array Value} (hg : a.eval g = .func (.func gf) #[] lb) (eg : ∀ args w, (callFunc gf args).run P w = .ok (.enter gf args) w)
    {enc : α → Array Value} {T U : Nat → TypeId → Prop} {L : List α} {w0 : World} (hgo : Runs P gf lb enc T U L w0) (hb0 : Kept noBlock w0 w) (hps : ∀ x, (enc x).size = ps.size) (q : Tmp) (t : TypeId) (ht : ∀ k, ¬ T k t) (cs : α → Array Value) (qs : α → List (Tmp × Value)) (m : Nat)
    (I : List α → World → Prop) (Ix : Code → List α → World → Prop) (hI : ∀ s A B, I s A → Abide T w.heap.size A B → I s B) (hIx : ∀ c s A B, Ix c s A → Abide T w.heap.size A B → Ix c s B) (h0 : I [] w) (hm : ∀ pre W, I pre W → m ≤ W.heap.size)
    (hassign : ∀ (l : Nat) (x : α) (W : World) (K : Act → World → Prop), K (landed a.tmps ps (enc x) (qs x ++ [(q, .pointer (some ⟨W.heap.size, 0, none⟩))])) (W.alloc (.cells (cs x) t)) →
      assign.wpIn (Fence.wide.inRound l) (n - 1 - 1) P (Exit.then K (fun _ _ _ => False)) { tmps := (ps.zip (enc x)).foldl (fun t (p, v) => t.setIfInBounds p v) a.tmps, defers := [] } W)
    (hbody : ∀ (l : Nat) (pre : List α) (x : α) (rest : List α) (Bx : Nat) (W : World), L = pre ++ x :: rest → I pre W → m ≤ Bx → W.heap[Bx]? = some (.cells (cs x) t (0, 0)) →
      body.wpIn (Fence.wide.inRound l) (n - 1 - 1) P (ownPostS w.heap.size U I Ix (pre ++ [x]) W) (landed a.tmps ps (enc x) (qs x ++ [(q, .pointer (some ⟨Bx, 0, none⟩))])) W)
    (hdone : ∀ (D : Nat) (W : World), w.heap.size ≤ D → I L W → W.heap[D]? = some (.deferred (some [])) → Q .normal { a with defers := { target := .collected D, args := #[] } :: a.defers } W)
    (hstop : ∀ (D : Nat) (c : Code) (pre : List α) (W : World), w.heap.size ≤ D → pre <+: L → Ix c pre W → W.heap[D]? = some (.deferred (some [])) → c.wpIn Fence.wide n P Q { a with defers := { target := .collected D, args := #[] } :: a.defers } W) :
    (Code.rangeFunc g ps assign body).wpIn Fence.wide n P Q a w :=
  wpIn_runs hg eg hgo hb0 hps I Ix hI hIx h0 (fun x a' W => ∃ Bx, m ≤ Bx ∧ W.heap[Bx]? = some (.cells (cs x) t (0, 0)) ∧ a' = landed a.tmps ps (enc x) (qs x ++ [(q, .pointer (some ⟨Bx, 0, none⟩))]))
    (fun x a' A B h k => by obtain ⟨Bx, h0, h1, h2⟩ := h; exact ⟨Bx, h0, k.blk h1 (.inr (ht Bx)), h2⟩)
    (fun l pre x W K hi hK => hassign l x W K (hK _ _ (Kept.alloc _ _ _) ⟨W.heap.size, hm pre W hi, heap_alloc_new _ _, rfl⟩)) (fun l pre x rest a' W hL hi ha => by obtain ⟨Bx, h0, h1, rfl⟩ := ha; exact hbody l pre x rest Bx W hL hi h0 h1) hdone hstop
end Go.Proofs.YthmjjhjblokjeaaGreat
namespace Go.Proofs.YthmjjhjblokjeaaGreat.KP
open Go.RowKit Srt Tot Go.Shelf
attribute [local go_sem] Oper.semAt_some

theorem infoPr : (Tryz.prog.info? 110).map (fun i => (i.zero, i.size, i.bytes)) = some (some (.agg #[.string ⟨#[]⟩, .string ⟨#[]⟩, .string ⟨#[]⟩, .bool false]), 4, 56) := by kernel_rfl
/-- Where layOut is. -/
structure LayI (w : World) (base B3 : Nat) (pre : Prs) (V : World) : Prop where
  row : ∃ A c, V.heap[B3]? = some (.cells #[.slice A pre.length c] 104 (0, 0)) ∧ V.ownsRow base 110 4 (.slice A pre.length c) pre.length (cells pre)
  kept : Kept noBlock w V
  size : base ≤ V.heap.size

theorem cells_snoc (L : Prs) (x : ByteArray × (ByteArray × Bool)) : cells (L ++ [x]) = cells L ++ enc x := by unfold cells; rw [flat_append, flat_one]
theorem LayI.abide {w A B : World} {base B3 m0 : Nat} {pre : Prs} (h : LayI w base B3 pre A) (k : Abide NT m0 A B) (hw : w.heap.size ≤ m0) : LayI w base B3 pre B := by
  obtain ⟨R, c, h1, h2⟩ := h.row
  exact ⟨⟨R, c, k.blk h1 (.inr (fun h => h)), k.own h2 (.inr (fun _ h => h))⟩, Abide.kept h.kept k hw, Nat.le_trans h.size k.size⟩
theorem LayI.next {w W W0 w1 : World} {B base B3 m0 rc c' : Nat} {R A' : Option Addr} {pre : Prs} {x : ByteArray × (ByteArray × Bool)} (h : LayI w base B3 pre W) (hU : B ≤ base) (hb : w.heap.size ≤ base) (h3 : W.heap[B3]? = some (.cells #[.slice R pre.length rc] 104 (0, 0)))
    (hB : B ≤ B3) (hB3 : w.heap.size ≤ B3) (ho : W.ownsRow base 110 4 (.slice R pre.length rc) pre.length (cells pre)) (k0 : Kept noBlock W W0) (o1 : w1.ownsRow 0 110 4 (.slice A' (pre.length + 1) c') (pre.length + 1) (cells (pre ++ [x]))) (g1 : Grew W0 w1 (.slice R pre.length rc) (.slice A' (pre.length + 1) c')) :
    w1.heap[B3]? = some (.cells #[.slice R pre.length rc] 104 (0, 0)) ∧
    (let W' := w1.setCell ⟨B3, 0, none⟩ (.slice A' (pre.length + 1) c')
     KeepsFrom m0 W W' ∧ Spares (UO B) W W' ∧ LayI w base B3 (pre ++ [x]) W') := by
  have g2 := Grew.after k0 g1
  have n3 : (Value.slice R pre.length rc).ownBlock ≠ some B3 := own_ne ho h3 (by decide)
  have b3 := g2.kept.blk h3 n3
  refine ⟨b3, ?_⟩
  intro W'
  have kk : Kept (fun k => (Value.slice R pre.length rc).ownBlock = some k ∨ k = B3) W W' := (g2.kept.mono (fun _ _ h => .inl h)).step (Kept.setCell w1 (.inr rfl) _)
  have hS : ∀ k, ((Value.slice R pre.length rc).ownBlock = some k ∨ k = B3) → ∃ cs t fr, W.heap[k]? = some (.cells cs t fr) ∧ ¬ UO B k t := by
    rintro k (hk | rfl)
    · have hge := (ho.lt k hk).1
      rcases ho.2 with ⟨e, _⟩ | ⟨g, cap, cur, e, _, hgg, _⟩
      · rw [e] at hk; cases hk
      · rw [e] at hk
        have : g = k := by simpa [Value.ownBlock] using hk
        subst this
        exact ⟨_, _, _, hgg, fun hu => by
          rcases hu with hu | hu | hu
          · omega
          · exact absurd hu (by decide)
          · exact absurd hu (by decide)⟩
    · exact ⟨_, _, _, h3, fun hu => by
        rcases hu with hu | hu | hu
        · omega
        · exact absurd hu (by decide)
        · exact absurd hu (by decide)⟩
  have o3 : (Value.slice A' (pre.length + 1) c').ownBlock ≠ some B3 := own_ne o1 b3 (by decide)
  refine ⟨keepsFrom_kept kk (fun k _ hk => by obtain ⟨cs, t, fr, h1, _⟩ := hS k hk; exact ⟨cs, t, fr, h1⟩), Spares.of kk hS, ⟨⟨A', c', ?_, ?_⟩, h.kept.trans kk (fun i hi hs => ?_), Nat.le_trans h.size kk.size⟩⟩
  · rw [List.length_append, List.length_singleton]
    exact setB (u := .slice A' (pre.length + 1) c') b3
  · rw [List.length_append, List.length_singleton]
    refine own_base (own_keep o1 (Kept.setCell (S := fun i => i = B3) w1 (by rfl) _) (fun i hi e => o3 (e ▸ hi))) (fun i hi => ?_)
    rcases g2.at_ i hi with h1 | h1
    · exact (ho.lt i h1).1
    · exact Nat.le_trans h.size h1.1
  · rcases hs with hs | rfl
    · have := (ho.lt i hs).1; omega
    · omega

set_option maxRecDepth 100000 in
set_option maxHeartbeats 1000000 in
theorem lay_any (v : Value) (B : Nat) (L : Prs) (w : World) (h : Seq v B L w) (hB : B ≤ w.heap.size) (hlen : L.length ≤ 1048576) :
    Calls Tryz.prog 46 #[v] w fun e w' => ∃ A c, e = .returned (.slice A L.length c) ∧ w'.ownsRow w.heap.size 110 4 (.slice A L.length c) L.length (cells L) ∧ Kept noBlock w w' := by
  obtain ⟨g, lb, rfl, eg, hr⟩ := h.is
  clear h
  refine (callsIn_wide (n := 3)).1 ?_
  refine callsIn_of_wp_marks Tryz.func46 rfl trivial ?_ rfl
  simp only [Tryz.ntmps46, List.size_toArray, List.length_cons, List.length_nil, Nat.reduceAdd, Nat.reduceSub, Array.replicate_succ, Array.replicate_zero, List.push_toArray, List.append_toArray, List.nil_append, List.cons_append]
  refine wpIn_wide.2 ?_
  go_wp2_with fail
  have ka := Kept.alloc noBlock w (.cells #[.slice none 0 0] 104)
  have hb3 : (w.alloc (.cells #[.slice none 0 0] 104)).heap[w.heap.size]? = some (.cells #[.slice none 0 0] 104 (0, 0)) := heap_alloc_new _ _
  have hsz : (w.alloc (.cells #[.slice none 0 0] 104)).heap.size = w.heap.size + 1 := by simp
  have hr1 := hr.later ka
  obtain ⟨B3, hB3⟩ : ∃ B3, B3 = w.heap.size := ⟨_, rfl⟩
  rw [← hB3] at hb3 ⊢
  generalize w.alloc (.cells #[.slice none 0 0] 104) = w1 at ka hb3 hsz hr1 ⊢
  have HR := Lib.hid hr1
  have EG := Lib.hid eg
  have I1 : Hid (LayI w w.heap.size B3 [] w1) := Lib.hid ⟨⟨none, 0, hb3, World.ownsRow_nil _ _ _ _⟩, ka, by omega⟩
  have hw1 : w.heap.size ≤ w1.heap.size := by omega
  have HB3 := Lib.hid hB3
  have HB := Lib.hid hB
  clear ka hb3 hsz hr1 hr eg hB3 hB
  refine (wpIn_wide (n := 3)).1 ?_
  refine wpIn_runs_box2 rfl EG.out HR.out (Kept.refl _ _) (fun _ => rfl) 5 68 (fun _ h => h) (fun x => #[.string x.1, .string x.2.1, .bool x.2.2]) (fun p => [(4, .string p.1)]) w.heap.size (fun pre V => Hid (LayI w w.heap.size B3 pre V)) (fun _ _ _ => False)
    (fun s A B h k => Lib.hid (h.out.abide k hw1)) (fun _ _ _ _ h _ => h) I1 (fun pre V h => h.out.size) ?assign ?body ?done ?stop
  case assign =>
    intro l2 x V K hK
    dsimp only [yenc]
    simp only [landed, List.foldl_cons, List.foldl_nil, List.zip_toArray, List.zip_cons_cons, List.zip_nil_right, yenc, List.foldl_toArray, List.setIfInBounds_toArray, List.set_cons_zero, List.set_cons_succ, List.cons_append, List.nil_append] at hK
    gi_wp2
    exact hK
  case body =>
    rintro l2 pre x rest Bx V hL hI hBx hbx
    simp only [landed, List.foldl_cons, List.foldl_nil, List.zip_toArray, List.zip_cons_cons, List.zip_nil_right, yenc, List.foldl_toArray, List.setIfInBounds_toArray, List.set_cons_zero, List.set_cons_succ, List.cons_append, List.nil_append]
    obtain ⟨R, rc, g3, gown⟩ := hI.out.row
    have hpl : pre.length + 1 ≤ 1048576 := by rw [hL] at hlen; simp at hlen; omega
    have c3 : V.cell? ⟨B3, 0, none⟩ = some (.slice R pre.length rc) := cell_of_row _ _ _ _ _ _ g3
    obtain ⟨x1, x2, xg⟩ := x
    have d0 : V.cell? ⟨Bx, 0, none⟩ = some (.string x1) := cell_of_row _ _ _ _ _ _ hbx
    have d1 : V.cell? ⟨Bx, 1, none⟩ = some (.string x2) := cell_of_row _ _ _ _ _ _ hbx
    have d2 : V.cell? ⟨Bx, 2, none⟩ = some (.bool xg) := cell_of_row _ _ _ _ _ _ hbx
    have G3 := Lib.hid g3; clear g3
    have GO := Lib.hid gown; clear gown
    have NX : Hid (∀ A' c' wz, wz.ownsRow 0 110 4 (.slice A' (pre.length + 1) c') (pre.length + 1) (cells pre ++ [.string x1, .string x1, .string x2, .bool xg]) → Grew (V.alloc (.cells #[.string x1, .string x1, .string x2, .bool xg] 110)) wz (.slice R pre.length rc) (.slice A' (pre.length + 1) c') → _) := Lib.hid (fun A' c' wz o1 g1 =>
      LayI.next (B := B) (m0 := w1.heap.size) (x := (x1, x2, xg)) hI.out HB.out (Nat.le_refl _) G3.out (by rw [HB3.out]; exact HB.out) (by rw [HB3.out]; exact Nat.le_refl _) GO.out (Kept.alloc noBlock V _) (by rw [cells_snoc]; exact o1) g1)
    obtain ⟨k, hke⟩ : ∃ k, k = pre.length := ⟨_, rfl⟩
    rw [← hke] at c3 hpl G3 GO NX
    have HKE := Lib.hid hke; clear hke hL hbx hBx
    dsimp only
    gi_wp2_with (gi_at_builtin; refine wpListIn_append_src rfl _ _ 104 104 rfl 110 (.agg #[.string ⟨#[]⟩, .string ⟨#[]⟩, .string ⟨#[]⟩, .bool false]) 4 56 Tryz.underlying104 infoPr rfl (.slice R k rc) k (cells pre) rfl (own_base (base' := 0) (GO.out.alloc _) (fun _ _ => Nat.zero_le _)) _ 1 [.string x1, .string x1, .string x2, .bool xg] rfl (Src.ofSlice _ Tryz.underlying104 _ _ _ _ rfl (World.news_of_block (heap_alloc_new _ _)) (by intro u hu; simp at hu; rcases hu with rfl | rfl | rfl | rfl <;> rfl)) ?c3 ?c4 ?_)
    case c3 => unfold maxLen; omega
    case c4 => left; omega
    intro A' c' w2 o2 g2
    obtain ⟨b3, n2⟩ := NX.out A' c' w2 o2 g2
    have c3' : w2.cell? ⟨B3, 0, none⟩ = some (.slice R k rc) := cell_of_row _ _ _ _ _ _ b3
    have f3' : w2.frozen? ⟨B3, 0, none⟩ = false := frozen_of_row _ _ _ _ _ b3
    have N2 := Lib.hid n2
    clear b3 n2 NX o2 g2 hI GO G3 c3 d0 d1 d2
    gi_wp2
    exact ⟨N2.out.1, N2.out.2.1, Lib.hid N2.out.2.2⟩
  case done =>
    intro D V hD hI hK
    obtain ⟨R, rc, g3, gown⟩ := hI.out.row
    have c3 : V.cell? ⟨B3, 0, none⟩ = some (.slice R L.length rc) := cell_of_row _ _ _ _ _ _ g3
    have GO := Lib.hid gown; clear gown g3
    have HKD := Lib.hid hK; clear hK
    go_wp2
    refine ⟨by simp, .inl ⟨_, _, rfl, run_takeDeferred HKD.out, ?_⟩⟩
    have st : Abide NT w1.heap.size V (V.putObj D (.deferred none)) := Abide.putObj _ hD HKD.out rfl
    exact ⟨_, results_tmp rfl _ _ _, R, rc, rfl, st.own GO.out (.inr (fun _ h => h)), Abide.kept hI.out.kept st hw1⟩
  case stop =>
    rintro D cd pre V _ _ h _
    exact h.elim
end Go.Proofs.YthmjjhjblokjeaaGreat.KP

/-
  Merge, and the function that it tells, of keys with pairs. No statement is proved here.
-/
namespace Go.Proofs.YthmjjhjblokjeaaGreat.KP
open Go.RowKit Srt Tot Go.Shelf
attribute [local go_sem] Oper.semAt_some

set_option maxRecDepth 100000 in
set_option maxHeartbeats 1000000 in
theorem merge_any (ga gb : Nat) (la lb : Array Value) (w : World) :
    Calls Tryz.prog 21 #[.func (.func ga) #[] la, .func (.func gb) #[] lb] w fun e w' => e = .returned (.func (.func 45) #[] #[.pointer (some ⟨w.heap.size + 1, 0, none⟩), .pointer (some ⟨w.heap.size, 0, none⟩)]) ∧
      w'.heap[w.heap.size]? = some (.cells #[.func (.func ga) #[] la] 65 (0, 0)) ∧ w'.heap[w.heap.size + 1]? = some (.cells #[.func (.func gb) #[] lb] 65 (0, 0)) ∧ Kept noBlock w w' := by
  go_enter Tryz.func21, Tryz.ntmps21
  go_wp2
  go_ret
  exact ⟨rfl, heap_alloc2_old _ _ _, heap_alloc2_new _ _ _, (Kept.alloc _ _ _).step (Kept.alloc _ _ _)⟩

/-- Where the loop of Merge is. -/
structure MgI (J : Prs → (Nat → Prop) → World → Prop) (W : World) (l By Br : Nat) (Lb : Prs) (pre : Prs) (O : Nat → Prop) (V : World) : Prop where
  j : J (emt pre Lb) O V
  y : V.heap[By]? = some (.cells #[.func (.yield l) #[] #[]] 103 (0, 0))
  size : W.heap.size ≤ V.heap.size
  rest : ∃ a n c, V.heap[Br]? = some (.cells #[.slice a n c] 104 (0, 0)) ∧ Rowed V 110 a (cells (rst pre Lb)) ∧ (rst pre Lb).length = n ∧ n ≤ c
theorem MgI.abide {J : Prs → (Nat → Prop) → World → Prop} {W A B : World} {l By Br m0 : Nat} {Lb pre : Prs} {O : Nat → Prop} (h : MgI J W l By Br Lb pre O A) (hJ : ∀ s O A B, J s O A → Abide (TM O) W.heap.size A B → J s O B) (k : Abide NT m0 A B) (hw : W.heap.size ≤ m0) : MgI J W l By Br Lb pre O B := by
  obtain ⟨a, n, c, h1, h2, h3, h4⟩ := h.rest
  exact ⟨hJ _ _ _ _ h.j ((k.mono hw).more (fun _ _ h => h.elim)), k.blk h.y (.inr (fun h => h)), Nat.le_trans h.size k.size, a, n, c, k.blk h1 (.inr (fun h => h)), h2.keep (fun g cs hg => k.blk hg (.inr (fun h => h))), h3, h4⟩

theorem pcells_one (L : Prs) (n : Nat) : cells (L.take n) = (cells L).take (n * 4) := flat_take enc_len L n
theorem pcells_two (L : Prs) (n : Nat) : cells (L.drop n) = (cells L).drop (n * 4) := flat_drop enc_len L n
/-- A pair that is stored at a block. -/
def setPm (w : World) (R : Nat) (x1 x2 : ByteArray) (x3 : Bool) : World := ((w.setCell ⟨R, 0, none⟩ (.string x1)).setCell ⟨R, 1, none⟩ (.string x2)).setCell ⟨R, 2, none⟩ (.bool x3)
theorem setP_block {w : World} {R : Nat} {x1 x2 : ByteArray} {x3 : Bool} {y0 y1 y2 : Value} {t : TypeId} (h : w.heap[R]? = some (.cells #[y0, y1, y2] t (0, 0))) : (setPm w R x1 x2 x3).heap[R]? = some (.cells #[.string x1, .string x2, .bool x3] t (0, 0)) := by
  unfold setPm
  have h0 := heap_setCell_same w R 0 _ t (.string x1) h
  have h1 := heap_setCell_same _ R 1 _ t (.string x2) h0
  have h2 := heap_setCell_same _ R 2 _ t (.bool x3) h1
  rw [h2]
  simp
theorem setP_kept (w : World) (R : Nat) (x1 x2 : ByteArray) (x3 : Bool) : Kept (fun k => k = R) w (setPm w R x1 x2 x3) := by
  unfold setPm
  exact ((Kept.setCell w (by rfl) _).step (Kept.setCell _ (by rfl) _)).step (Kept.setCell _ (by rfl) _)
theorem Abide.of_blocks {T : Nat → TypeId → Prop} {m : Nat} {S : Nat → Prop} {A B : World} (k : Kept S A B) (hm : ∀ i, S i → m ≤ i) (hS : ∀ i cs t fr, S i → A.heap[i]? = some (.cells cs t fr) → T i t) : Abide T m A B :=
  ⟨k.os, k.tape, k.output, k.size, fun i h1 h2 => k.block i h2 (fun hs => by have := hm i hs; omega), fun i cs t fr h1 h2 => k.blk h1 (fun hs => h2 (hS i cs t fr hs h1))⟩
theorem pr_cells {w : World} {R : Nat} {x0 x1 x2 : Value} {t : TypeId} {fr : Nat × Nat} (h : w.heap[R]? = some (.cells #[x0, x1, x2] t fr)) : w.cell? ⟨R, 0, none⟩ = some x0 ∧ w.cell? ⟨R, 1, none⟩ = some x1 ∧ w.cell? ⟨R, 2, none⟩ = some x2 :=
  ⟨cell_of_row _ _ _ _ _ _ h, cell_of_row _ _ _ _ _ _ h, cell_of_row _ _ _ _ _ _ h⟩
theorem anti_uo (B : Nat) : Anti (fun _ => UO B) := fun _ _ _ _ _ u => u
theorem not_uo_sl {B k : Nat} (h : B ≤ k) : ¬ UO B k 104 := by
  rintro (hu | hu | hu)
  · omega
  · exact absurd hu (by decide)
  · exact absurd hu (by decide)
theorem not_uo_ap {B k : Nat} (h : B ≤ k) : ¬ UO B k 68 := by
  rintro (hu | hu | hu)
  · omega
  · exact absurd hu (by decide)
  · exact absurd hu (by decide)
theorem went_blocks {B m : Nat} {O : Nat → Prop} {S : Nat → Prop} {A C : World} (k : Kept S A C) (hS : ∀ i, S i → ∃ cs t fr, A.heap[i]? = some (.cells cs t fr) ∧ ¬ UO B i t) : Went (fun _ => UO B) m O A O C :=
  ⟨Spares.of k hS, keepsFrom_kept k (fun i _ h => by obtain ⟨cs, t, fr, h1, _⟩ := hS i h; exact ⟨cs, t, fr, h1⟩), fun _ h => .inl h⟩

set_option maxRecDepth 100000 in
set_option maxHeartbeats 2000000 in
theorem merge1_runs (Bb Ba B : Nat) (va vb : Value) (La Lb : Prs) (w : World) (hbb : w.heap[Bb]? = some (.cells #[vb] 65 (0, 0))) (hba : w.heap[Ba]? = some (.cells #[va] 65 (0, 0)))
    (ha : Seq va B La w) (hb : Seq vb B Lb w) (hB : B ≤ w.heap.size) (hub : Up Lb) (hlb : Lb.length ≤ 1048576) :
    Runs2 Tryz.prog 45 #[.pointer (some ⟨Bb, 0, none⟩), .pointer (some ⟨Ba, 0, none⟩)] yenc TM (UM B) (mrg La Lb) w := by
  intro l J Jx W O0 kW hJ hJx hbd hY h0
  show Calls Tryz.prog 45 #[.func (.yield l) #[] #[], .pointer (some ⟨Bb, 0, none⟩), .pointer (some ⟨Ba, 0, none⟩)] W _
  obtain ⟨gb, lb, hvb, egb, hrb⟩ := hb.is
  obtain ⟨ga, la, hva, ega, hra⟩ := ha.is
  subst hva hvb
  have hwW := kW.size
  have hBW : B ≤ W.heap.size := by omega
  have ka := Kept.alloc noBlock W (.cells #[.func (.yield l) #[] #[]] 103)
  have hbL : Seq (.func (.func gb) #[] lb) B Lb (W.alloc (.cells #[.func (.yield l) #[] #[]] 103)) := ⟨⟨gb, lb, rfl, egb, hrb.later (kW.step ka)⟩⟩
  have LAY := Lib.hid (lay_any _ B Lb _ hbL (by simp; omega) hlb)
  have cb : (W.alloc (.cells #[.func (.yield l) #[] #[]] 103)).cell? ⟨Bb, 0, none⟩ = some (.func (.func gb) #[] lb) := cell_of_row _ _ _ _ _ _ ((kW.step ka).blk hbb (fun h => h))
  have HBA := Lib.hid ((kW.step ka).blk hba (fun h => h))
  have hyb : (W.alloc (.cells #[.func (.yield l) #[] #[]] 103)).heap[W.heap.size]? = some (.cells #[.func (.yield l) #[] #[]] 103 (0, 0)) := heap_alloc_new _ _
  have hj1 := hJ _ _ _ _ h0 (Abide.of_kept ka)
  have hsz : (W.alloc (.cells #[.func (.yield l) #[] #[]] 103)).heap.size = W.heap.size + 1 := by simp
  have HRA := Lib.hid (hra.later (kW.step ka))
  have HUB := Lib.hid hub
  have HJ := Lib.hid hJ
  have HJx := Lib.hid hJx
  have HBD := Lib.hid hbd
  have HY := Lib.hid hY
  have EGA := Lib.hid ega
  have HBW := Lib.hid hBW
  clear hJ hJx hY hra hrb hbb hba ha hb hub ega egb hbL h0 hwW ka kW hbd hBW hB
  refine (callsIn_wide (n := 3)).1 ?_
  refine callsIn_of_wp_marks Tryz.func45 rfl trivial ?_ rfl
  simp only [Tryz.ntmps45, List.size_toArray, List.length_cons, List.length_nil, Nat.reduceAdd, Nat.reduceSub, Array.replicate_succ, Array.replicate_zero, List.push_toArray, List.append_toArray, List.nil_append, List.cons_append]
  refine wpIn_wide.2 ?_
  go_wp2_with fail
  obtain ⟨By, hBy⟩ : ∃ By, By = W.heap.size := ⟨_, rfl⟩
  rw [← hBy] at hyb ⊢
  generalize W.alloc (.cells #[.func (.yield l) #[] #[]] 103) = W1 at LAY cb HBA hyb hj1 hsz HRA ⊢
  refine LAY.out.mono ?_
  clear LAY cb
  rintro e w2 ⟨A, c, rfl, o2, k2⟩
  have hnc : Lb.length ≤ c := by obtain ⟨_, _, e, hle⟩ := own_form o2; injection e with _ _ e; omega
  have hs2 := k2.size
  have hyb2 := k2.blk hyb (fun h => h)
  have HBA2 := k2.blk HBA.out (fun h => h)
  have hj2 := HJ.out _ _ _ _ hj1 (Abide.of_kept k2)
  have hra2 := HRA.out.later k2
  clear hyb HBA hj1 HRA k2
  have ka := Kept.alloc noBlock w2 (.cells #[.slice A Lb.length c] 104)
  have I3 : Hid (MgI J W l By w2.heap.size Lb [] O0 (w2.alloc (.cells #[.slice A Lb.length c] 104))) := Lib.hid ⟨HJ.out _ _ _ _ hj2 (Abide.of_kept ka), ka.blk hyb2 (fun h => h), by simp; omega, A, Lb.length, c, heap_alloc_new _ _, (Rowed.of_own o2).kept ka, rfl, hnc⟩
  have ca : (w2.alloc (.cells #[.slice A Lb.length c] 104)).cell? ⟨Ba, 0, none⟩ = some (.func (.func ga) #[] la) := cell_of_row _ _ _ _ _ _ (ka.blk HBA2 (fun h => h))
  have HRA3 := Lib.hid (hra2.later ka).two
  have hsz3 : (w2.alloc (.cells #[.slice A Lb.length c] 104)).heap.size = w2.heap.size + 1 := by simp
  go_wp2_with fail
  obtain ⟨Br, hBr⟩ : ∃ Br, Br = w2.heap.size := ⟨_, rfl⟩
  rw [← hBr] at I3 ⊢
  generalize w2.alloc (.cells #[.slice A Lb.length c] 104) = w3 at I3 ca HRA3 hsz3 ⊢
  have hWB : W.heap.size ≤ Br := by omega
  have hW3 : W.heap.size ≤ w3.heap.size := by omega
  clear hj2 hra2 hyb2 HBA2 ka o2 hnc hBr hsz hs2 hsz3 ca
  subst hBy
  refine (wpIn_wide (n := 3)).1 ?_
  refine wpIn_runs2_box rfl EGA.out HRA3.out (Kept.refl _ _) (fun _ => rfl) 6 68 (fun x => #[.string x.1, .string x.2.1, .bool x.2.2]) (fun p => [(5, .string p.1)]) W.heap.size (fun pre O V => Hid (MgI J W l W.heap.size Br Lb pre O V)) (fun cd _ O V => Hid (cd = Code.ret ∧ ∃ q, q <+: mrg La Lb ∧ Jx q O V))
    (fun s O A B h k => Lib.hid (h.out.abide HJ.out k hW3)) (fun cd s O A B h k => Lib.hid ⟨h.out.1, by obtain ⟨q, h1, h2⟩ := h.out.2; exact ⟨q, h1, HJx.out _ _ _ _ h2 ((k.mono hW3).more (fun _ _ h => h.elim))⟩⟩)
    (fun s O A k h => HBD.out _ _ _ _ h.out.j) (fun s O A h => h.out.size) I3 ?assign ?body ?done ?stop
  case assign =>
    intro l2 x V K hK
    dsimp only [yenc]
    simp only [landed, List.foldl_cons, List.foldl_nil, List.zip_toArray, List.zip_cons_cons, List.zip_nil_right, yenc, List.foldl_toArray, List.setIfInBounds_toArray, List.set_cons_zero, List.set_cons_succ, List.cons_append, List.nil_append] at hK
    gi_wp2
    exact hK
  case body =>
    rintro l2 pre x rest O Bx V hL hI hBx hnO hbx
    simp only [landed, List.foldl_cons, List.foldl_nil, List.zip_toArray, List.zip_cons_cons, List.zip_nil_right, yenc, List.foldl_toArray, List.setIfInBounds_toArray, List.set_cons_zero, List.set_cons_succ, List.cons_append, List.nil_append]
    obtain ⟨a, n, c, hbr, hrow, hrl, hnc⟩ := hI.out.rest
    obtain ⟨k, v⟩ := x
    obtain ⟨R, hR⟩ : ∃ R, R = rst pre Lb := ⟨_, rfl⟩
    rw [← hR] at hrow hrl
    have hupR : Up R := by rw [hR]; exact up_rst HUB.out pre
    have hRl : R.length ≤ 1048576 := by have := rst_len pre Lb; rw [hR]; omega
    have hpl := pos_le R k
    have hM : mrg La Lb = emt pre Lb ++ (R.take (pos R k) ++ (k, (Srt.look R k).getD v) :: mrg rest (past R k)) := by rw [hL, mrg_append, ← hR]; rfl
    have hE : emt (pre ++ [(k, v)]) Lb = emt pre Lb ++ (R.take (pos R k) ++ [(k, (Srt.look R k).getD v)]) := by rw [emt_snoc, ← hR]
    have hR2 : rst (pre ++ [(k, v)]) Lb = past R k := by rw [rst_snoc, ← hR]
    have cr : V.cell? ⟨Br, 0, none⟩ = some (.slice a n c) := cell_of_row _ _ _ _ _ _ hbr
    have FD := Lib.hid (find_any (fun _ => True) a n c R k V (rowed_lies hrow) hrl hnc (by omega) hupR)
    obtain ⟨p, hp⟩ : ∃ p, p = pos R k := ⟨_, rfl⟩
    obtain ⟨hh, hhh⟩ : ∃ hh, hh = has R k := ⟨_, rfl⟩
    rw [← hp, ← hhh] at FD
    have HHH := Lib.hid hhh; clear hhh
    unfold ek at FD
    dsimp only at hbx ⊢
    rw [← hp] at hM hE hpl
    have HM := Lib.hid hM; clear hM
    obtain ⟨v2, hv2⟩ : ∃ v2, v2 = (Srt.look R k).getD v := ⟨_, rfl⟩
    rw [← hv2] at HM hE
    have HV2 := Lib.hid hv2; clear hv2
    have FIN : Hid (∀ (Y : World) (aR : Option Addr) (nR cR : Nat) (Oy : Nat → Prop), J (emt pre Lb ++ R.take p) Oy Y → Y.heap[W.heap.size]? = some (.cells #[.func (.yield l) #[] #[]] 103 (0, 0)) → Y.heap[Br]? = some (.cells #[.slice aR nR cR] 104 (0, 0)) → Rowed Y 110 aR (cells (past R k)) → (past R k).length = nR → nR ≤ cR →
        Went (fun _ => UO B) w3.heap.size O V Oy Y → YieldAt Fence.wide 0 Tryz.prog l #[.string k, .agg #[.string k, .string v2.1, .bool v2.2]] Y fun e Z => (e = .returned (.bool true) ∧ Hid (∃ O', Went (fun _ => UO B) w3.heap.size O V O' Z ∧ Hid (MgI J W l W.heap.size Br Lb (pre ++ [(k, v)]) O' Z))) ∨
          (e = .returned (.bool false) ∧ Hid (∃ O', Went (fun _ => UO B) w3.heap.size O V O' Z ∧ Hid (∃ q, q <+: mrg La Lb ∧ Jx q O' Z)))) := Lib.hid (by
      intro Y aR nR cR Oy mj my mr mrow ml mc ww
      have YY := HY.out (emt pre Lb ++ R.take p) (k, v2) (mrg rest (past R k)) Oy Y (by rw [HM.out]; simp) mj
      refine YieldAt.mono YY ?_
      have hsz := Nat.le_trans hI.out.size ww.kf.size
      rintro e Z ⟨O', w5, (⟨rfl, hJ5⟩ | ⟨rfl, hJ5⟩)⟩
      · refine .inl ⟨rfl, Lib.hid ⟨O', ww.trans (anti_uo B) ((w5.mono hW3).less (fun _ _ h => .inl h)), Lib.hid ⟨?_, w5.sp _ _ _ _ my (.inl (.inr (.inr rfl))), Nat.le_trans hsz w5.kf.size, aR, nR, cR, w5.sp _ _ _ _ mr (.inr (.inr (.inl rfl))), ?_, ?_, mc⟩⟩⟩
        · rw [hE, ← List.append_assoc]; exact hJ5
        · rw [hR2]; exact mrow.keep (fun g cs hg => w5.sp g cs _ _ hg (.inr (.inl rfl)))
        · rw [hR2]; exact ml
      · refine .inr ⟨rfl, Lib.hid ⟨O', ww.trans (anti_uo B) ((w5.mono hW3).less (fun _ _ h => .inl h)), Lib.hid ⟨_, ?_, hJ5⟩⟩⟩
        exact ⟨mrg rest (past R k), by rw [HM.out]; simp⟩)
    clear hE hR2
    have HP := Lib.hid hp; clear hp
    have HRW := Lib.hid hrow; clear hrow
    have HRL := Lib.hid hrl; clear hrl
    have HUR := Lib.hid hupR; clear hupR
    have HBR := Lib.hid hbr; clear hbr
    have HBX := Lib.hid hbx; clear hbx
    have HNO := Lib.hid hnO; clear hnO
    have HBXW := Lib.hid hBx; clear hBx
    have hpn : p ≤ n := by have := HRL.out; omega
    have hn1 : n ≤ 1048576 := by have := HRL.out; omega
    clear hpl hR hL
    gi_wp2_with fail
    refine ⟨trivial, ?_⟩
    refine (CallsIn.inRound l2 (callsIn_wide.2 FD.out)).mono ?_
    rintro e V1 ⟨rfl, k1⟩
    have y1 : V1.drew.heap[W.heap.size]? = some (.cells #[.func (.yield l) #[] #[]] 103 (0, 0)) := k1.blk hI.out.y (fun h => h)
    have r1 : V1.drew.heap[Br]? = some (.cells #[.slice a n c] 104 (0, 0)) := k1.blk HBR.out (fun h => h)
    have b1 := (k1.step (Kept.drew noBlock V1)).blk HBX.out (fun h => h)
    have row1 : Rowed V1.drew 110 a (cells R) := HRW.out.kept (k1.step (Kept.drew noBlock V1))
    have j1 : J (emt pre Lb) O V1.drew := HJ.out _ _ _ _ hI.out.j (Abide.of_kept (k1.step (Kept.drew noBlock V1)))
    have RUN : Hid (Calls Tryz.prog 48 #[.slice a p c, .func (.yield l) #[] #[]] V1.drew fun e V2 => ∃ t, e = .returned (.bool t) ∧ ∃ O2, Went (UM B) W.heap.size O V1.drew O2 V2 ∧ Hid ((t = true → J (emt pre Lb ++ R.take p) O2 V2) ∧ (t = false → ∃ q, q <+: mrg La Lb ∧ Jx q O2 V2))) := Lib.hid (by
      refine (run_goes TM (UM B) (anti_um B) a p c (R.take p) l W.heap.size J Jx (emt pre Lb) O V1.drew (by rw [pcells_one]; exact row1.take _) (by rw [List.length_take, HRL.out]; omega) (by omega) (by omega) (fun _ _ => .inr (.inl rfl)) HJ.out ?_ j1).mono ?_
      · intro pr' y r' Oz Wz he hj
        exact HY.out (emt pre Lb ++ pr') y (r' ++ (k, v2) :: mrg rest (past R k)) Oz Wz (by rw [HM.out, he]; simp) hj
      · rintro e V2 ⟨O2, w5, (⟨rfl, h1⟩ | ⟨rfl, ⟨q, hq, h1⟩⟩)⟩
        · exact ⟨true, rfl, O2, w5, Lib.hid ⟨(fun _ => h1), (fun h => by cases h)⟩⟩
        · refine ⟨false, rfl, O2, w5, Lib.hid ⟨(fun h => by cases h), (fun _ => ⟨_, ?_, h1⟩)⟩⟩
          obtain ⟨z, hz⟩ := hq
          exact ⟨z ++ (k, v2) :: mrg rest (past R k), by rw [HM.out, ← hz]; simp⟩)
    have KF1 := Lib.hid (show Went (fun _ => UO B) w3.heap.size O V O V1.drew from Went.of_kept (k1.step (Kept.drew noBlock V1)))
    have cy : V1.drew.cell? ⟨W.heap.size, 0, none⟩ = some (.func (.yield l) #[] #[]) := cell_of_row _ _ _ _ _ _ y1
    have cr1 : V1.drew.cell? ⟨Br, 0, none⟩ = some (.slice a n c) := cell_of_row _ _ _ _ _ _ r1
    have Y1 := Lib.hid y1
    have R1 := Lib.hid r1
    have B1 := Lib.hid b1
    have ROW1 := Lib.hid row1
    have hpi : (p : Int) ≤ c := by omega
    clear FD y1 r1 row1 j1 k1 cr HRW HBR b1 HBX
    gi_upto_region 6 with (fail)
    refine wpIn_region_round (S := fun w' => w'.cell? ⟨Br, 0, none⟩ = some (.slice a n c) ∧ w'.cell? ⟨W.heap.size, 0, none⟩ = some (.func (.yield l) #[] #[])) (by kernel_rfl) (by kernel_rfl) ⟨cr1, cy⟩ (fun hHeld => ?_)
    refine wpAnyH_take (i := 0) (oi := ⟨some 20, Op.load 104 (Operand.tmp 4), 104, _, _, none⟩) (v := ?v0n1k1) rfl (by kernel_rfl) (by kernel_rfl) (by kernel_rfl) (fun _ _ _ h => h) (Or.inl ⟨by rfl, ?y0n1k1⟩) hHeld ?z0n1k1
    case y0n1k1 => intro w hSw; (try dsimp only at hSw); go_simp <;> rfl
    try simp only [Act.put, List.setIfInBounds_toArray, List.set_cons_zero, List.set_cons_succ]
    refine wpAnyH_take (i := 1) (oi := ⟨some 21, Op.move (Operand.tmp 7), 3, _, _, none⟩) (v := ?v1n1k2) rfl (by kernel_rfl) (by kernel_rfl) (by kernel_rfl) (fun _ _ _ h => h) (Or.inl ⟨by rfl, ?y1n1k2⟩) hHeld ?z1n1k2
    case y1n1k2 => intro w hSw; (try dsimp only at hSw); go_simp <;> rfl
    try simp only [Act.put, List.setIfInBounds_toArray, List.set_cons_zero, List.set_cons_succ]
    refine wpAnyH_take (i := 2) (oi := ⟨some 22, Op.slice 104 (Operand.tmp 20) none (some (Operand.tmp 21)) none, 104, _, _, none⟩) (v := ?v2n1k3) rfl (by kernel_rfl) (by kernel_rfl) (by kernel_rfl) (fun _ _ _ h => h) (Or.inl ⟨by rfl, ?y2n1k3⟩) hHeld ?z2n1k3
    case y2n1k3 => intro w hSw; (try dsimp only at hSw); go_simp <;> rfl
    try simp only [Act.put, List.setIfInBounds_toArray, List.set_cons_zero, List.set_cons_succ]
    refine wpAnyH_take (i := 3) (oi := ⟨some 23, Op.load 103 (Operand.tmp 3), 103, _, _, none⟩) (v := ?v3n1k4) rfl (by kernel_rfl) (by kernel_rfl) (by kernel_rfl) (fun _ _ _ h => h) (Or.inl ⟨by rfl, ?y3n1k4⟩) hHeld ?z3n1k4
    case y3n1k4 => intro w hSw; (try dsimp only at hSw); go_simp <;> rfl
    try simp only [Act.put, List.setIfInBounds_toArray, List.set_cons_zero, List.set_cons_succ]
    refine wpAnyH_ready (rs := [4]) (by kernel_rfl) (by simp) ?_
    refine AllReadyH.cons (o := ⟨some 24, Op.call { callee := Callee.value (Operand.func 48), args := #[Operand.tmp 22, Operand.tmp 23], argTypes := #[104, 103] }, 4, _, _, none⟩) rfl (fun K hK => ?_) AllReadyH.nil
    go_simp
    refine RUN.out.mono ?_
    rintro e V2 ⟨t, rfl, O2, w5, ht⟩
    have y2 := w5.sp _ _ _ _ Y1.out (.inl (.inr (.inr rfl)))
    have r2 := w5.sp _ _ _ _ R1.out (.inr (.inr (.inl rfl)))
    have b2 := w5.sp _ _ _ _ B1.out (.inr (.inr (.inr ⟨rfl, HNO.out⟩)))
    have nO2 : ¬ O2 Bx := fun ho => by
      rcases w5.own Bx ho with h | h
      · exact HNO.out h
      · exact absurd h.1 (by have := lt_of_blk B1.out; omega)
    have row2 := ROW1.out.keep (fun g cs hg => w5.sp g cs _ _ hg (.inr (.inl rfl)))
    have cy2 : V2.cell? ⟨W.heap.size, 0, none⟩ = some (.func (.yield l) #[] #[]) := cell_of_row _ _ _ _ _ _ y2
    have cr2 : V2.cell? ⟨Br, 0, none⟩ = some (.slice a n c) := cell_of_row _ _ _ _ _ _ r2
    have KF2 := Lib.hid (KF1.out.trans (anti_uo B) ((w5.mono hW3).less (fun _ _ h => .inl h)))
    have Y2 := Lib.hid y2
    have R2 := Lib.hid r2
    have B2 := Lib.hid b2
    have NO2 := Lib.hid nO2
    have ROW2 := Lib.hid row2
    clear y2 r2 row2 w5 b2 nO2
    dsimp only
    refine hK.out _ _ ⟨cr2, cy2⟩ (fun hHeld => ?_)
    clear hK K
    try simp only [Act.put, List.setIfInBounds_toArray, List.set_cons_zero, List.set_cons_succ]
    refine wpAnyH_take (i := 5) (oi := ⟨some 25, Op.unOp UnOp.not 4 (Operand.tmp 24), 4, _, _, none⟩) (v := ?v5n1k5) rfl (by kernel_rfl) (by kernel_rfl) (by kernel_rfl) (fun _ _ _ h => h) (Or.inl ⟨by rfl, ?y5n1k5⟩) hHeld ?z5n1k5
    case y5n1k5 => intro w hSw; (try dsimp only at hSw); go_simp <;> rfl
    try simp only [Act.put, List.setIfInBounds_toArray, List.set_cons_zero, List.set_cons_succ]
    refine wpAnyH_done (by kernel_rfl) ?_ _
    refine Ends.of ?_
    clear hHeld cy cr1 RUN KF1 Y1 R1 ROW1 B1 HNO
    cases t with
    | false =>
      have JF := Lib.hid (ht.out.2 rfl)
      clear ht FIN
      gi_wp2
      exact ⟨O2, KF2.out, Lib.hid ⟨rfl, JF.out⟩⟩
    | true =>
      have jt := ht.out.1 rfl
      have f2 : V2.frozen? ⟨Br, 0, none⟩ = false := frozen_of_row _ _ _ _ _ R2.out
      obtain ⟨A1, hA1⟩ : ∃ A1, (if c = p then a else a.map (fun x => x.add (p * 4))) = A1 := ⟨_, rfl⟩
      have row3 : Rowed V2 110 A1 (cells (R.drop p)) := by
        rw [pcells_two, ← hA1]
        refine ROW2.out.drop p (p * 4) (fun hlt => ?_)
        have := cells_len R
        have := HRL.out
        omega
      have ks : Kept (fun b => b = Br) V2 (V2.setCell ⟨Br, 0, none⟩ (.slice A1 (n - p) (c - p))) := Kept.setCell V2 (by rfl) _
      have r3 : (V2.setCell ⟨Br, 0, none⟩ (.slice A1 (n - p) (c - p))).heap[Br]? = some (.cells #[.slice A1 (n - p) (c - p)] 104 (0, 0)) := setB R2.out
      have y3 := ks.blk Y2.out (fun e => by have h1 := Y2.out; rw [e, R2.out] at h1; cases h1)
      have b3 := ks.blk B2.out (fun e => by have h1 := B2.out; rw [e, R2.out] at h1; cases h1)
      have row3' : Rowed (V2.setCell ⟨Br, 0, none⟩ (.slice A1 (n - p) (c - p))) 110 A1 (cells (R.drop p)) := row3.keep (fun g cs hg => ks.blk hg (fun e => by subst e; rw [R2.out] at hg; cases hg))
      have j3 : J (emt pre Lb ++ R.take p) O2 (V2.setCell ⟨Br, 0, none⟩ (.slice A1 (n - p) (c - p))) := HJ.out _ _ _ _ jt (Abide.setCell (p := ⟨Br, 0, none⟩) _ hWB R2.out (.inl rfl))
      have kf3 := KF2.out.trans (anti_uo B) (went_blocks (B := B) (m := w3.heap.size) (O := O2) ks (fun b e => by subst e; exact ⟨_, _, _, R2.out, not_uo_sl (Nat.le_trans HBW.out hWB)⟩))
      have hpi2 : (p : Int) ≤ n := by omega
      clear ht jt row3 ks
      cases hh with
      | false =>
        have hnone : Srt.look R k = none := (has_false R k).1 HHH.out.symm
        have hvv : v2 = v := by rw [HV2.out, hnone]; rfl
        have hpast : past R k = R.drop p := by unfold past; rw [← HHH.out, ← HP.out]; rfl
        subst hvv
        have cy3 : (V2.setCell ⟨Br, 0, none⟩ (.slice A1 (n - p) (c - p))).cell? ⟨W.heap.size, 0, none⟩ = some (.func (.yield l) #[] #[]) := cell_of_row _ _ _ _ _ _ y3
        obtain ⟨d0, d1, d2⟩ := pr_cells b3
        have YF := FIN.out _ A1 (n - p) (c - p) O2 j3 y3 r3 (by rw [hpast]; exact row3') (by rw [hpast, List.length_drop, HRL.out]) (by omega) kf3
        clear FIN j3 y3 r3 row3' kf3 hnone hpast HM b3
        obtain ⟨fn, tm, asg, bod, hy, hRd⟩ := yieldAt_round (l0 := l2) YF
        clear YF
        gi_wp2
        refine hRd.mono ?_
        clear hRd hy
        rintro e Z (⟨rfl, hz⟩ | ⟨rfl, hz⟩)
        · gi_wp2
          exact hz.out
        · have HZ := Lib.hid hz
          clear hz
          gi_wp2
          obtain ⟨O6, w6, h6⟩ := HZ.out.out
          exact ⟨O6, w6, Lib.hid ⟨rfl, h6.out⟩⟩
      | true =>
        obtain ⟨u, hu, hlu⟩ := has_at HUR.out HHH.out.symm
        have hlt := has_lt HUR.out HHH.out.symm
        rw [← HP.out] at hu hlt
        rw [HRL.out] at hlt
        have hvv : v2 = u := by rw [HV2.out, hlu]; rfl
        have hpast : past R k = R.drop (p + 1) := by unfold past; rw [← HHH.out, ← HP.out]; rfl
        subst hvv
        have hd0 : (R.drop p)[0]? = some (k, v2) := by rw [List.getElem?_drop]; exact hu
        obtain ⟨u1, u2⟩ := v2
        obtain ⟨g, o, rfl, ck⟩ := row3'.elem enc_len (by omega) hd0
        have ck1 := ck 1 _ rfl
        have ck2 := ck 2 _ rfl
        have ck3 := ck 3 _ rfl
        rw [Nat.zero_mul, Nat.add_zero] at ck1 ck2 ck3
        simp only at ck1 ck2 ck3
        clear ck
        obtain ⟨X, hX⟩ : ∃ X, V2.setCell ⟨Br, 0, none⟩ (.slice (some ⟨g, o, none⟩) (n - p) (c - p)) = X := ⟨_, rfl⟩
        rw [hX] at r3 y3 row3' j3 kf3 ck1 ck2 ck3 b3
        have hnp : 0 < n - p := by omega
        have hnp2 : (1 : Int) ≤ ((n - p : Nat) : Int) := by omega
        obtain ⟨A2, hA2⟩ : ∃ A2, (if c - p = 1 then some (⟨g, o, none⟩ : Addr) else some ⟨g, o + 4, none⟩) = A2 := ⟨_, rfl⟩
        have hcp : ¬ (c = p) := by omega
        rw [if_neg hcp] at hA1
        have hxg : ∃ cs, X.heap[g]? = some (.cells cs 110 (0, 0)) := by
          obtain ⟨g', o', cs, e, hg, _⟩ := row3' (fun e => by have := congrArg List.length e; rw [cells_len, List.length_drop, HRL.out] at this; simp at this; omega)
          injection e with e
          injection e with e1 e2
          subst e1
          exact ⟨cs, hg⟩
        have hgB : g ≠ Br := by
          obtain ⟨cs, hg⟩ := hxg
          rintro rfl
          rw [r3] at hg
          cases hg
        have hgX : g ≠ Bx := by
          obtain ⟨cs, hg⟩ := hxg
          rintro rfl
          rw [b3] at hg
          cases hg
        have hBrX : Br ≠ Bx := by
          rintro rfl
          rw [b3] at r3
          cases r3
        have kp := setP_kept X Bx k u1 u2
        have bP : (setPm X Bx k u1 u2).heap[Bx]? = some (.cells #[.string k, .string u1, .bool u2] 68 (0, 0)) := setP_block b3
        have rP := kp.blk r3 hBrX
        have yP := kp.blk y3 (fun e => by rw [e, b3] at y3; cases y3)
        have ks2 : Kept (fun b => b = Br) (setPm X Bx k u1 u2) ((setPm X Bx k u1 u2).setCell ⟨Br, 0, none⟩ (.slice A2 (n - p - 1) (c - p - 1))).drew := (Kept.setCell (S := fun b => b = Br) _ (by rfl) _).step (Kept.drew _ _)
        have k4 : Kept (fun b => b = Br ∨ b = Bx) X ((setPm X Bx k u1 u2).setCell ⟨Br, 0, none⟩ (.slice A2 (n - p - 1) (c - p - 1))).drew := (kp.mono (fun _ _ h => .inr h)).trans ks2 (fun _ _ h => .inl h)
        have r4 : ((setPm X Bx k u1 u2).setCell ⟨Br, 0, none⟩ (.slice A2 (n - p - 1) (c - p - 1))).drew.heap[Br]? = some (.cells #[.slice A2 (n - p - 1) (c - p - 1)] 104 (0, 0)) := setB rP
        have y4 := ks2.blk yP (fun e => by rw [e, rP] at yP; cases yP)
        have b4 := ks2.blk bP (fun e => hBrX e.symm)
        have row4 : Rowed ((setPm X Bx k u1 u2).setCell ⟨Br, 0, none⟩ (.slice A2 (n - p - 1) (c - p - 1))).drew 110 A2 (cells (R.drop (p + 1))) := by
          have h9 : Rowed X 110 (if c - p = 1 then some ⟨g, o, none⟩ else (some (⟨g, o, none⟩ : Addr)).map (·.add 4)) (cells (R.drop (p + 1))) := by
            rw [show R.drop (p + 1) = (R.drop p).drop 1 by rw [List.drop_drop], pcells_two]
            refine row3'.drop 1 4 (fun hlt2 => ?_)
            have := cells_len (R.drop p)
            have h8 := HRL.out
            rw [List.length_drop] at this
            omega
          simp only [Option.map_some, add_plain] at h9
          rw [hA2] at h9
          exact h9.keep (fun g' cs hg => k4.blk hg (fun e => by
            rcases e with e | e
            · subst e; rw [r3] at hg; cases hg
            · subst e; rw [b3] at hg; cases hg))
        have j4 : J (emt pre Lb ++ R.take p) O2 ((setPm X Bx k u1 u2).setCell ⟨Br, 0, none⟩ (.slice A2 (n - p - 1) (c - p - 1))).drew := HJ.out _ _ _ _ j3 (Abide.of_blocks k4 (fun i e => by
            rcases e with e | e
            · subst e; exact hWB
            · subst e; exact HBXW.out) (fun i cs t fr e hg => by
            rcases e with e | e
            · subst e; rw [r3] at hg; injection hg with hg; injection hg with _ e2; exact .inl e2.symm
            · subst e; rw [b3] at hg; injection hg with hg; injection hg with _ e2; exact .inr ⟨e2.symm, NO2.out⟩))
        have kf4 := kf3.trans (anti_uo B) (went_blocks (B := B) (m := w3.heap.size) (O := O2) k4 (fun b e => by
            rcases e with e | e
            · subst e; exact ⟨_, _, _, r3, not_uo_sl (Nat.le_trans HBW.out hWB)⟩
            · subst e; exact ⟨_, _, _, b3, not_uo_ap (Nat.le_trans HBW.out HBXW.out)⟩))
        have cyY : ((setPm X Bx k u1 u2).setCell ⟨Br, 0, none⟩ (.slice A2 (n - p - 1) (c - p - 1))).drew.cell? ⟨W.heap.size, 0, none⟩ = some (.func (.yield l) #[] #[]) := cell_of_row _ _ _ _ _ _ y4
        have DY := pr_cells b4
        have YF := Lib.hid (FIN.out _ A2 (n - p - 1) (c - p - 1) O2 j4 y4 r4 (by rw [hpast]; exact row4) (by rw [hpast, List.length_drop, HRL.out]; omega) (by omega) kf4)
        have SK : Hid (∀ S u, Kept S X u → (∀ i, S i → i = Br ∨ i = Bx) → u.cell? ⟨g, o + 1, none⟩ = some (.string k) ∧ u.cell? ⟨g, o + 2, none⟩ = some (.string u1) ∧ u.cell? ⟨g, o + 3, none⟩ = some (.bool u2)) := Lib.hid (fun S u hk hS =>
          have hn : ¬ S g := fun h => by
            rcases hS g h with h | h
            · exact hgB h
            · exact hgX h
          ⟨hk.cell ck1 hn, hk.cell ck2 hn, hk.cell ck3 hn⟩)
        have K4 := Lib.hid k4
        have KP := Lib.hid kp
        have crX : X.cell? ⟨Br, 0, none⟩ = some (.slice (some ⟨g, o, none⟩) (n - p) (c - p)) := cell_of_row _ _ _ _ _ _ r3
        obtain ⟨e0, e1, e2⟩ := pr_cells (w := X) b3
        have f0 : X.frozen? ⟨Bx, 0, none⟩ = false := frozen_of_row _ _ _ _ _ b3
        have f1 : X.frozen? ⟨Bx, 1, none⟩ = false := frozen_of_row _ _ _ _ _ b3
        have f2' : X.frozen? ⟨Bx, 2, none⟩ = false := frozen_of_row _ _ _ _ _ b3
        have crP : (setPm X Bx k u1 u2).cell? ⟨Br, 0, none⟩ = some (.slice (some ⟨g, o, none⟩) (n - p) (c - p)) := cell_of_row _ _ _ _ _ _ rP
        have frP : (setPm X Bx k u1 u2).frozen? ⟨Br, 0, none⟩ = false := frozen_of_row _ _ _ _ _ rP
        clear ck1 ck2 ck3 hxg hgB hgX ks2 r4 y4 row4 j4 kf4 FIN j3 y3 r3 row3' kf3 hpast hu hlu hd0 HM k4 kp bP rP yP b4 b3 hBrX
        gi_upto_region 9 with (fail)
        clear hX
        refine wpIn_region_round (S := fun w' => w'.cell? ⟨g, o + 1, none⟩ = some (.string k) ∧ w'.cell? ⟨g, o + 2, none⟩ = some (.string u1) ∧ w'.cell? ⟨g, o + 3, none⟩ = some (.bool u2)) (by kernel_rfl) (by kernel_rfl) (SK.out noBlock _ (Kept.drew _ _) (fun _ h => h.elim)) (fun hHeld => ?_)
        refine wpAnyH_ready (rs := [0, 4]) (by kernel_rfl) (by simp) ?_
        refine (AllReadyH.cons (o := ⟨some 30, Op.load 104 (Operand.tmp 4), 104, _, _, none⟩) rfl (fun K hK => ?b0n2k2) (AllReadyH.cons (o := ⟨some 34, Op.load 104 (Operand.tmp 4), 104, _, _, none⟩) rfl (fun K hK => ?b4n2k1) AllReadyH.nil))
        case b0n2k2 =>
          go_simp
          refine hK.out _ _ (SK.out noBlock _ (Kept.drew _ _) (fun _ h => h.elim)) (fun hHeld => ?_)
          clear hK K
          try simp only [Act.put, List.setIfInBounds_toArray, List.set_cons_zero, List.set_cons_succ]
          refine wpAnyH_take (i := 1) (oi := ⟨some 31, Op.indexAddr 104 (Operand.tmp 30) (Operand.const (Value.int IntKind.i64 0)), 0, _, _, none⟩) (v := ?v1n2k3) rfl (by kernel_rfl) (by kernel_rfl) (by kernel_rfl) (fun _ _ _ h => h) (Or.inl ⟨by rfl, ?y1n2k3⟩) hHeld ?z1n2k3
          case y1n2k3 => intro w hSw; (try dsimp only at hSw); go_simp <;> rfl
          try simp only [Act.put, List.setIfInBounds_toArray, List.set_cons_zero, List.set_cons_succ]
          refine wpAnyH_take (i := 2) (oi := ⟨some 32, Op.fieldAddr 110 (Operand.tmp 31) 1, 0, _, _, none⟩) (v := ?v2n2k4) rfl (by kernel_rfl) (by kernel_rfl) (by kernel_rfl) (fun _ _ _ h => h) (Or.inl ⟨by rfl, ?y2n2k4⟩) hHeld ?z2n2k4
          case y2n2k4 => intro w hSw; (try dsimp only at hSw); go_simp <;> rfl
          try simp only [Act.put, List.setIfInBounds_toArray, List.set_cons_zero, List.set_cons_succ]
          refine wpAnyH_take (i := 3) (oi := ⟨some 33, Op.load 68 (Operand.tmp 32), 68, _, _, none⟩) (v := ?v3n2k5) rfl (by kernel_rfl) (by kernel_rfl) (by kernel_rfl) (fun _ _ _ h => h) (Or.inl ⟨by rfl, ?y3n2k5⟩) hHeld ?z3n2k5
          case y3n2k5 => intro w hSw; (try dsimp only at hSw); go_simp <;> rfl
          try simp only [Act.put, List.setIfInBounds_toArray, List.set_cons_zero, List.set_cons_succ]
          refine wpAnyH_ready (rs := [4, 6]) (by kernel_rfl) (by simp) ?_
          refine (AllReadyH.cons (o := ⟨some 34, Op.load 104 (Operand.tmp 4), 104, _, _, none⟩) rfl (fun K hK => ?b4n2k7) (AllReadyH.cons (o := ⟨none, Op.store 68 (Operand.tmp 6) (Operand.tmp 33), 0, _, _, none⟩) rfl (fun K hK => ?b6n2k6) AllReadyH.nil))
          case b4n2k7 =>
            go_simp
            refine hK.out _ _ (by first | exact SK.out noBlock _ (Kept.drew _ _) (fun _ h => h.elim) | exact SK.out _ _ (KP.out.step (Kept.drew _ _)) (fun _ h => .inr h)) (fun hHeld => ?_)
            clear hK K
            try simp only [Act.put, List.setIfInBounds_toArray, List.set_cons_zero, List.set_cons_succ]
            refine wpAnyH_take (i := 5) (oi := ⟨some 35, Op.slice 104 (Operand.tmp 34) (some (Operand.const (Value.int IntKind.i64 1))) none none, 104, _, _, none⟩) (v := ?v5n2k8) rfl (by kernel_rfl) (by kernel_rfl) (by kernel_rfl) (fun _ _ _ h => h) (Or.inl ⟨by rfl, ?y5n2k8⟩) hHeld ?z5n2k8
            case y5n2k8 => intro w hSw; (try dsimp only at hSw); go_simp <;> rfl
            try simp only [Act.put, List.setIfInBounds_toArray, List.set_cons_zero, List.set_cons_succ]
            refine wpAnyH_ready (rs := [6]) (by kernel_rfl) (by simp) ?_
            refine AllReadyH.cons (o := ⟨none, Op.store 68 (Operand.tmp 6) (Operand.tmp 33), 0, _, _, none⟩) rfl (fun K hK => ?_) AllReadyH.nil
            go_simp
            change K _ (setPm X Bx k u1 u2).drew
            refine hK.out _ _ (SK.out _ _ (KP.out.step (Kept.drew _ _)) (fun _ h => .inr h)) (fun hHeld => ?_)
            clear hK K
            try simp only [Act.put, List.setIfInBounds_toArray, List.set_cons_zero, List.set_cons_succ]
            refine wpAnyH_ready (rs := [7]) (by kernel_rfl) (by simp) ?_
            refine AllReadyH.cons (o := ⟨none, Op.store 104 (Operand.tmp 4) (Operand.tmp 35), 0, _, _, none⟩) rfl (fun K hK => ?_) AllReadyH.nil
            go_simp
            refine hK.out _ _ (SK.out _ _ K4.out (fun _ h => h)) (fun hHeld => ?_)
            clear hK K
            try simp only [Act.put, List.setIfInBounds_toArray, List.set_cons_zero, List.set_cons_succ]
            refine wpAnyH_done (by kernel_rfl) ?_ _
            refine Ends.of ?_
            clear hHeld crX e0 e1 e2 f0 f1 f2' crP frP
            obtain ⟨d0, d1, d2⟩ := DY
            generalize ((setPm X Bx k u1 u2).setCell ⟨Br, 0, none⟩ (.slice A2 (n - p - 1) (c - p - 1))).drew = Y at cyY YF d0 d1 d2 ⊢
            clear K4 KP SK
            obtain ⟨fn, tm, asg, bod, hy, hRd⟩ := yieldAt_round (l0 := l2) YF.out
            clear YF
            gi_wp2
            refine hRd.mono ?_
            clear hRd hy
            rintro e Z (⟨rfl, hz⟩ | ⟨rfl, hz⟩)
            · gi_wp2
              exact hz.out
            · have HZ := Lib.hid hz
              clear hz
              gi_wp2
              obtain ⟨O6, w6, h6⟩ := HZ.out.out
              exact ⟨O6, w6, Lib.hid ⟨rfl, h6.out⟩⟩
          case b6n2k6 =>
            go_simp
            change K _ (setPm X Bx k u1 u2).drew
            refine hK.out _ _ (SK.out _ _ (KP.out.step (Kept.drew _ _)) (fun _ h => .inr h)) (fun hHeld => ?_)
            clear hK K
            try simp only [Act.put, List.setIfInBounds_toArray, List.set_cons_zero, List.set_cons_succ]
            refine wpAnyH_ready (rs := [4]) (by kernel_rfl) (by simp) ?_
            refine AllReadyH.cons (o := ⟨some 34, Op.load 104 (Operand.tmp 4), 104, _, _, none⟩) rfl (fun K hK => ?_) AllReadyH.nil
            go_simp
            refine hK.out _ _ (by first | exact SK.out noBlock _ (Kept.drew _ _) (fun _ h => h.elim) | exact SK.out _ _ (KP.out.step (Kept.drew _ _)) (fun _ h => .inr h)) (fun hHeld => ?_)
            clear hK K
            try simp only [Act.put, List.setIfInBounds_toArray, List.set_cons_zero, List.set_cons_succ]
            refine wpAnyH_take (i := 5) (oi := ⟨some 35, Op.slice 104 (Operand.tmp 34) (some (Operand.const (Value.int IntKind.i64 1))) none none, 104, _, _, none⟩) (v := ?v5n2k9) rfl (by kernel_rfl) (by kernel_rfl) (by kernel_rfl) (fun _ _ _ h => h) (Or.inl ⟨by rfl, ?y5n2k9⟩) hHeld ?z5n2k9
            case y5n2k9 => intro w hSw; (try dsimp only at hSw); go_simp <;> rfl
            try simp only [Act.put, List.setIfInBounds_toArray, List.set_cons_zero, List.set_cons_succ]
            refine wpAnyH_ready (rs := [7]) (by kernel_rfl) (by simp) ?_
            refine AllReadyH.cons (o := ⟨none, Op.store 104 (Operand.tmp 4) (Operand.tmp 35), 0, _, _, none⟩) rfl (fun K hK => ?_) AllReadyH.nil
            go_simp
            refine hK.out _ _ (SK.out _ _ K4.out (fun _ h => h)) (fun hHeld => ?_)
            clear hK K
            try simp only [Act.put, List.setIfInBounds_toArray, List.set_cons_zero, List.set_cons_succ]
            refine wpAnyH_done (by kernel_rfl) ?_ _
            refine Ends.of ?_
            clear hHeld crX e0 e1 e2 f0 f1 f2' crP frP
            obtain ⟨d0, d1, d2⟩ := DY
            generalize ((setPm X Bx k u1 u2).setCell ⟨Br, 0, none⟩ (.slice A2 (n - p - 1) (c - p - 1))).drew = Y at cyY YF d0 d1 d2 ⊢
            clear K4 KP SK
            obtain ⟨fn, tm, asg, bod, hy, hRd⟩ := yieldAt_round (l0 := l2) YF.out
            clear YF
            gi_wp2
            refine hRd.mono ?_
            clear hRd hy
            rintro e Z (⟨rfl, hz⟩ | ⟨rfl, hz⟩)
            · gi_wp2
              exact hz.out
            · have HZ := Lib.hid hz
              clear hz
              gi_wp2
              obtain ⟨O6, w6, h6⟩ := HZ.out.out
              exact ⟨O6, w6, Lib.hid ⟨rfl, h6.out⟩⟩
        case b4n2k1 =>
          go_simp
          refine hK.out _ _ (by first | exact SK.out noBlock _ (Kept.drew _ _) (fun _ h => h.elim) | exact SK.out _ _ (KP.out.step (Kept.drew _ _)) (fun _ h => .inr h)) (fun hHeld => ?_)
          clear hK K
          try simp only [Act.put, List.setIfInBounds_toArray, List.set_cons_zero, List.set_cons_succ]
          refine wpAnyH_take (i := 5) (oi := ⟨some 35, Op.slice 104 (Operand.tmp 34) (some (Operand.const (Value.int IntKind.i64 1))) none none, 104, _, _, none⟩) (v := ?v5n2k10) rfl (by kernel_rfl) (by kernel_rfl) (by kernel_rfl) (fun _ _ _ h => h) (Or.inl ⟨by rfl, ?y5n2k10⟩) hHeld ?z5n2k10
          case y5n2k10 => intro w hSw; (try dsimp only at hSw); go_simp <;> rfl
          try simp only [Act.put, List.setIfInBounds_toArray, List.set_cons_zero, List.set_cons_succ]
          refine wpAnyH_ready (rs := [0]) (by kernel_rfl) (by simp) ?_
          refine AllReadyH.cons (o := ⟨some 30, Op.load 104 (Operand.tmp 4), 104, _, _, none⟩) rfl (fun K hK => ?_) AllReadyH.nil
          go_simp
          refine hK.out _ _ (SK.out noBlock _ (Kept.drew _ _) (fun _ h => h.elim)) (fun hHeld => ?_)
          clear hK K
          try simp only [Act.put, List.setIfInBounds_toArray, List.set_cons_zero, List.set_cons_succ]
          refine wpAnyH_take (i := 1) (oi := ⟨some 31, Op.indexAddr 104 (Operand.tmp 30) (Operand.const (Value.int IntKind.i64 0)), 0, _, _, none⟩) (v := ?v1n2k11) rfl (by kernel_rfl) (by kernel_rfl) (by kernel_rfl) (fun _ _ _ h => h) (Or.inl ⟨by rfl, ?y1n2k11⟩) hHeld ?z1n2k11
          case y1n2k11 => intro w hSw; (try dsimp only at hSw); go_simp <;> rfl
          try simp only [Act.put, List.setIfInBounds_toArray, List.set_cons_zero, List.set_cons_succ]
          refine wpAnyH_take (i := 2) (oi := ⟨some 32, Op.fieldAddr 110 (Operand.tmp 31) 1, 0, _, _, none⟩) (v := ?v2n2k12) rfl (by kernel_rfl) (by kernel_rfl) (by kernel_rfl) (fun _ _ _ h => h) (Or.inl ⟨by rfl, ?y2n2k12⟩) hHeld ?z2n2k12
          case y2n2k12 => intro w hSw; (try dsimp only at hSw); go_simp <;> rfl
          try simp only [Act.put, List.setIfInBounds_toArray, List.set_cons_zero, List.set_cons_succ]
          refine wpAnyH_take (i := 3) (oi := ⟨some 33, Op.load 68 (Operand.tmp 32), 68, _, _, none⟩) (v := ?v3n2k13) rfl (by kernel_rfl) (by kernel_rfl) (by kernel_rfl) (fun _ _ _ h => h) (Or.inl ⟨by rfl, ?y3n2k13⟩) hHeld ?z3n2k13
          case y3n2k13 => intro w hSw; (try dsimp only at hSw); go_simp <;> rfl
          try simp only [Act.put, List.setIfInBounds_toArray, List.set_cons_zero, List.set_cons_succ]
          refine wpAnyH_ready (rs := [6]) (by kernel_rfl) (by simp) ?_
          refine AllReadyH.cons (o := ⟨none, Op.store 68 (Operand.tmp 6) (Operand.tmp 33), 0, _, _, none⟩) rfl (fun K hK => ?_) AllReadyH.nil
          go_simp
          change K _ (setPm X Bx k u1 u2).drew
          refine hK.out _ _ (SK.out _ _ (KP.out.step (Kept.drew _ _)) (fun _ h => .inr h)) (fun hHeld => ?_)
          clear hK K
          try simp only [Act.put, List.setIfInBounds_toArray, List.set_cons_zero, List.set_cons_succ]
          refine wpAnyH_ready (rs := [7]) (by kernel_rfl) (by simp) ?_
          refine AllReadyH.cons (o := ⟨none, Op.store 104 (Operand.tmp 4) (Operand.tmp 35), 0, _, _, none⟩) rfl (fun K hK => ?_) AllReadyH.nil
          go_simp
          refine hK.out _ _ (SK.out _ _ K4.out (fun _ h => h)) (fun hHeld => ?_)
          clear hK K
          try simp only [Act.put, List.setIfInBounds_toArray, List.set_cons_zero, List.set_cons_succ]
          refine wpAnyH_done (by kernel_rfl) ?_ _
          refine Ends.of ?_
          clear hHeld crX e0 e1 e2 f0 f1 f2' crP frP
          obtain ⟨d0, d1, d2⟩ := DY
          generalize ((setPm X Bx k u1 u2).setCell ⟨Br, 0, none⟩ (.slice A2 (n - p - 1) (c - p - 1))).drew = Y at cyY YF d0 d1 d2 ⊢
          clear K4 KP SK
          obtain ⟨fn, tm, asg, bod, hy, hRd⟩ := yieldAt_round (l0 := l2) YF.out
          clear YF
          gi_wp2
          refine hRd.mono ?_
          clear hRd hy
          rintro e Z (⟨rfl, hz⟩ | ⟨rfl, hz⟩)
          · gi_wp2
            exact hz.out
          · have HZ := Lib.hid hz
            clear hz
            gi_wp2
            obtain ⟨O6, w6, h6⟩ := HZ.out.out
            exact ⟨O6, w6, Lib.hid ⟨rfl, h6.out⟩⟩
  case done =>
    intro D O V hD hI hK
    obtain ⟨a, n, c, hbr, hrow, hrl, hnc⟩ := hI.out.rest
    obtain ⟨R, hR⟩ : ∃ R, R = rst La Lb := ⟨_, rfl⟩
    rw [← hR] at hrow hrl
    have hM : mrg La Lb = emt La Lb ++ R := by
      have := mrg_append La [] Lb
      rw [List.append_nil] at this
      rw [this, hR]; rfl
    have hRl : R.length ≤ 1048576 := by have := rst_len La Lb; rw [hR]; omega
    have RUN := Lib.hid (run_goes TM (UM B) (anti_um B) a n c R l W.heap.size J Jx (emt La Lb) O V hrow hrl hnc (by omega) (fun _ _ => .inr (.inl rfl)) HJ.out (fun pr' y r' Oz Wz he hj => HY.out (emt La Lb ++ pr') y r' Oz Wz (by rw [hM, he]; simp) hj) hI.out.j)
    have cr : V.cell? ⟨Br, 0, none⟩ = some (.slice a n c) := cell_of_row _ _ _ _ _ _ hbr
    have cy : V.cell? ⟨W.heap.size, 0, none⟩ = some (.func (.yield l) #[] #[]) := cell_of_row _ _ _ _ _ _ hI.out.y
    have HKD := Lib.hid hK
    have HM := Lib.hid hM
    clear hK hM hR hrow hrl hbr hI hRl
    go_wp2_with fail
    refine RUN.out.mono ?_
    clear RUN
    rintro e V2 ⟨O2, w5, (⟨rfl, hJ1⟩ | ⟨rfl, ⟨part, hp, hJ1⟩⟩)⟩
    · have HJV := Lib.hid hJ1
      have hk2 := w5.kf.same D _ (Nat.le_trans hW3 hD) HKD.out rfl
      have HK2 := Lib.hid hk2
      clear hJ1 w5 hk2
      go_wp2
      refine ⟨by simp, .inl ⟨_, _, rfl, run_takeDeferred HK2.out, ?_⟩⟩
      exact ⟨_, results_none rfl _ _ _, ⟨_, rfl⟩, .inl ⟨O2, by rw [HM.out]; exact HJ.out _ _ _ _ HJV.out (Abide.putObj _ (Nat.le_trans hW3 hD) HK2.out rfl)⟩⟩
    · have HJV := Lib.hid hJ1
      have hk2 := w5.kf.same D _ (Nat.le_trans hW3 hD) HKD.out rfl
      have HK2 := Lib.hid hk2
      clear hJ1 w5 hk2
      go_wp2
      refine ⟨by simp, .inl ⟨_, _, rfl, run_takeDeferred HK2.out, ?_⟩⟩
      refine ⟨_, results_none rfl _ _ _, ⟨_, rfl⟩, .inr ⟨_, O2, ?_, HJx.out _ _ _ _ HJV.out (Abide.putObj _ (Nat.le_trans hW3 hD) HK2.out rfl)⟩⟩
      obtain ⟨z, hz⟩ := hp
      exact ⟨z, by rw [HM.out, ← hz]; simp⟩
  case stop =>
    rintro D cd pre O V hD hpre h hK
    obtain ⟨rfl, q, hq, hj⟩ := h.out
    have HJV := Lib.hid hj
    have HKD := Lib.hid hK
    clear hj hK h
    gi_wp2
    refine ⟨by simp, .inl ⟨_, _, rfl, run_takeDeferred HKD.out, ?_⟩⟩
    exact ⟨_, results_none rfl _ _ _, ⟨_, rfl⟩, .inr ⟨q, O, hq, HJx.out _ _ _ _ HJV.out (Abide.putObj _ (Nat.le_trans hW3 hD) HKD.out rfl)⟩⟩
theorem merge1_enters : ∀ args w, (callFunc 45 args).run Tryz.prog w = .ok (.enter 45 args) w := enters_of Tryz.func45 (by kernel_rfl) rfl
end Go.Proofs.YthmjjhjblokjeaaGreat.KP
