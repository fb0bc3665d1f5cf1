/-
  The contract of delta.Between. No statement is proved here.
-/
import Derived.Test.YthmjjhjblokjeaaGreatKpCol
import Derived.Test.YthmjjhjblokjeaaGreatD8Has
import Derived.Test.YthmjjhjblokjeaaGreatPutK
namespace Go.Proofs.YthmjjhjblokjeaaGreat
open Go.RowKit Tot
attribute [local go_sem] Oper.semAt_some

set_option maxRecDepth 100000 in
set_option maxHeartbeats 1000000 in
theorem dbetween_no (s t : StV) (A : Option Addr) (c : Nat) (B : Option Addr) (d : Nat) (A' : Option Addr) (c' : Nat) (B' : Option Addr) (d' : Nat) (w : World) (h : t.index < s.index ∨ t.term < s.term) :
    Calls Tryz.prog 6 #[stv s A c B d, stv t A' c' B' d'] w fun en w' => en = .returned (.tuple #[dtv noDelta none 0 none 0, .int .i64 8]) ∧ Kept noBlock w w' := by
  obtain ⟨k1, z1, hb, hE, hR⟩ := box3 w #[.int .i64 s.index, .int .i64 s.term, .slice A s.pairs.length c, .slice B s.sess.length d] #[.int .i64 t.index, .int .i64 t.term, .slice A' t.pairs.length c', .slice B' t.sess.length d'] #[.int .i64 0, .int .i64 0, .int .i64 0, .slice none 0 0, .slice none 0 0] 27 27 31
  obtain ⟨w1, hw1⟩ : ∃ w1, w1 = ((w.alloc (.cells #[.int .i64 s.index, .int .i64 s.term, .slice A s.pairs.length c, .slice B s.sess.length d] 27)).alloc (.cells #[.int .i64 t.index, .int .i64 t.term, .slice A' t.pairs.length c', .slice B' t.sess.length d'] 27)).alloc (.cells #[.int .i64 0, .int .i64 0, .int .i64 0, .slice none 0 0, .slice none 0 0] 31) := ⟨_, rfl⟩
  rw [← hw1] at k1 z1 hb hE hR
  obtain ⟨a0, a1, a2, a3⟩ := st_cells hb
  obtain ⟨b0, b1, b2, b3⟩ := st_cells hE
  obtain ⟨r0, r1, r2, r3, r4⟩ := dl_cells hR
  have hfz : ∀ j, w1.frozen? ⟨w.heap.size + 2, j, none⟩ = false := fun j => frozen_of_row _ _ _ _ _ hR
  have f0 := hfz 0
  have f1 := hfz 1
  have f2 := hfz 2
  have f3 := hfz 3
  have f4 := hfz 4
  have kz := setD_kept w1 (w.heap.size + 1 + 1) (.int .i64 0) (.int .i64 0) (.int .i64 0) (.slice none 0 0) (.slice none 0 0)
  have hz := setD_block (x0 := .int .i64 0) (x1 := .int .i64 0) (x2 := .int .i64 0) (x3 := .slice none 0 0) (x4 := .slice none 0 0) (show w1.heap[w.heap.size + 1 + 1]? = _ from hR)
  have KW : Hid (Kept noBlock w (setD w1 (w.heap.size + 1 + 1) (.int .i64 0) (.int .i64 0) (.int .i64 0) (.slice none 0 0) (.slice none 0 0))) := (k1.trans kz (T := fun k => k = w.heap.size + 1 + 1) (fun i hi e => by omega))
  have HZ := Lib.hid hz
  have H := Lib.hid h
  clear k1 z1 hb hE hR hfz kz hz h
  unfold stv dtv noDelta
  go_enter Tryz.func6, Tryz.ntmps6
  go_upto_region 1 with (fail)
  rw [← hw1]
  clear hw1
  by_cases h1 : t.index < s.index
  · have e1 : t.index < s.index := h1
    clear h1 H
    go_wp2
    change bodyPost _ _ _ _ _ (setD w1 (w.heap.size + 1 + 1) (.int .i64 0) (.int .i64 0) (.int .i64 0) (.slice none 0 0) (.slice none 0 0))
    generalize setD w1 (w.heap.size + 1 + 1) (.int .i64 0) (.int .i64 0) (.int .i64 0) (.slice none 0 0) (.slice none 0 0) = vz at KW HZ ⊢
    obtain ⟨y0, y1, y2, y3, y4⟩ := dl_cells HZ.out
    refine bodyPost_ret (v := .tuple #[.agg #[.int .i64 0, .int .i64 0, .int .i64 0, .slice none 0 0, .slice none 0 0], .int .i64 8]) (by simp [results, Tryz.results6, go_sem, Tryz.isAgg31, Tryz.sizeOf31, y0, y1, y2, y3, y4]) rfl ?_
    exact ⟨rfl, KW.out⟩
  · have h2 : t.term < s.term := H.out.resolve_left h1
    have e1 : ¬ t.index < s.index := h1
    clear h1 H
    go_wp2
    change bodyPost _ _ _ _ _ (setD w1 (w.heap.size + 1 + 1) (.int .i64 0) (.int .i64 0) (.int .i64 0) (.slice none 0 0) (.slice none 0 0))
    generalize setD w1 (w.heap.size + 1 + 1) (.int .i64 0) (.int .i64 0) (.int .i64 0) (.slice none 0 0) (.slice none 0 0) = vz at KW HZ ⊢
    obtain ⟨y0, y1, y2, y3, y4⟩ := dl_cells HZ.out
    refine bodyPost_ret (v := .tuple #[.agg #[.int .i64 0, .int .i64 0, .int .i64 0, .slice none 0 0, .slice none 0 0], .int .i64 8]) (by simp [results, Tryz.results6, go_sem, Tryz.isAgg31, Tryz.sizeOf31, y0, y1, y2, y3, y4]) rfl ?_
    exact ⟨rfl, KW.out⟩

/-- What Between collects. -/
def chg (A : Prs) (p : ByteArray × (ByteArray × Bool)) : Bool := !decide (p.2.2 = false ∧ Srt.look A p.1 = some (p.2.1, false))
theorem chg_filter {A B : Prs} (hA : Srt.Up A) (hB : Srt.Up B) (gB : Here B) : (Srt.mrg (KP.gones A) B).filter (chg A) = betweenP A B := by
  refine Srt.up_look_ext ((Srt.up_mrg (KP.up_gones hA) hB).sub (List.filter_sublist (l := Srt.mrg (KP.gones A) B))) (up_between hA hB) fun k => ?_
  have hg : Srt.look (KP.gones A) k = (Srt.look A k).map fun _ => goneV := look_keyed A (fun _ => goneV) k
  rw [look_filter (Srt.up_mrg (KP.up_gones hA) hB), Srt.look_mrg (KP.up_gones hA) hB, look_between hA hB, hg]
  unfold chg
  cases hb : Srt.look B k with
  | some v =>
    have hv := gB.look hb
    obtain ⟨v1, v2⟩ := v
    simp only at hv
    subst hv
    by_cases h : Srt.look A k = some (v1, false)
    · simp [h]
    · simp [h]
  | none =>
    cases ha : Srt.look A k with
    | none => simp
    | some u => simp [goneV]

set_option maxRecDepth 100000 in
set_option maxHeartbeats 2000000 in
theorem dbetween_yes (F G : Nat → Prop) (s t : StV) (A : Option Addr) (c : Nat) (B : Option Addr) (d : Nat) (A' : Option Addr) (c' : Nat) (B' : Option Addr) (d' : Nat) (w : World) (h : Sv w F s A c B d) (h' : Sv w G t A' c' B' d') (rs : s.Right) (rt : t.Right) (e1 : ¬ t.index < s.index) (e2 : ¬ t.term < s.term) :
    Calls Tryz.prog 6 #[stv s A c B d, stv t A' c' B' d'] w fun en w' => ∃ A2 c2 B2 d2, en = .returned (.tuple #[dtv (betweenV s t).1 A2 c2 B2 d2, .int .i64 (betweenV s t).2]) ∧ Dv w' (fun i => F i ∨ G i ∨ fresh w w' i) (betweenV s t).1 A2 c2 B2 d2 ∧ Kept noBlock w w' := by
  obtain ⟨k1, z1, hb, hE, hR⟩ := box3 w #[.int .i64 s.index, .int .i64 s.term, .slice A s.pairs.length c, .slice B s.sess.length d] #[.int .i64 t.index, .int .i64 t.term, .slice A' t.pairs.length c', .slice B' t.sess.length d'] #[.int .i64 0, .int .i64 0, .int .i64 0, .slice none 0 0, .slice none 0 0] 27 27 31
  obtain ⟨w1, hw1⟩ : ∃ w1, w1 = ((w.alloc (.cells #[.int .i64 s.index, .int .i64 s.term, .slice A s.pairs.length c, .slice B s.sess.length d] 27)).alloc (.cells #[.int .i64 t.index, .int .i64 t.term, .slice A' t.pairs.length c', .slice B' t.sess.length d'] 27)).alloc (.cells #[.int .i64 0, .int .i64 0, .int .i64 0, .slice none 0 0, .slice none 0 0] 31) := ⟨_, rfl⟩
  rw [← hw1] at k1 z1 hb hE hR
  have CE : Hid (∀ u, Kept noBlock w1 u → (u.cell? ⟨w.heap.size, 0, none⟩ = some (.int .i64 s.index) ∧ u.cell? ⟨w.heap.size, 1, none⟩ = some (.int .i64 s.term) ∧ u.cell? ⟨w.heap.size, 2, none⟩ = some (.slice A s.pairs.length c) ∧ u.cell? ⟨w.heap.size, 3, none⟩ = some (.slice B s.sess.length d)) ∧
      (u.cell? ⟨w.heap.size + 1, 0, none⟩ = some (.int .i64 t.index) ∧ u.cell? ⟨w.heap.size + 1, 1, none⟩ = some (.int .i64 t.term) ∧ u.cell? ⟨w.heap.size + 1, 2, none⟩ = some (.slice A' t.pairs.length c') ∧ u.cell? ⟨w.heap.size + 1, 3, none⟩ = some (.slice B' t.sess.length d'))) := fun u k => ⟨st_cells (k.blk hb (fun h => h)), st_cells (k.blk hE (fun h => h))⟩
  have CL := Lib.hid (fun u (k : Kept noBlock w1 u) => SN.clone_any G B' t.sess.length d' t.sess u (h'.ls.keep (k1.step k) (fun _ _ h => h)) rfl (by have := rt.lens; omega))
  have LA := Lib.hid (fun u (k : Kept noBlock w1 u) => h.lp.lt.keep (k1.step k) (fun _ _ h => h))
  have LB := Lib.hid (fun u (k : Kept noBlock w1 u) => h'.lp.lt.keep (k1.step k) (fun _ _ h => h))
  have hca := h.cp
  have hcb := h'.cp
  have hla : s.pairs.length ≤ 512 := by have := rs.len; omega
  have hlb : t.pairs.length ≤ 512 := by have := rt.len; omega
  have HUB := Lib.hid rt.up
  have HUA := Lib.hid rs.up
  have HGB := Lib.hid rt.here
  have HAS := Lib.hid (fun (u : World) (ku : Kept noBlock w u) (x1 x2 : ByteArray) (xg : Bool) => has_any F s A c B d x1 x2 xg u (h.kept ku) rs)
  have hJ : betweenV s t = (⟨s.index, t.index, t.term, betweenP s.pairs t.pairs, t.sess⟩, 0) := by
    unfold betweenV
    rw [if_neg (by rintro (h | h); exact e1 h; exact e2 h)]
  obtain ⟨j1, hj1⟩ : ∃ j1, j1 = (betweenV s t).1 := ⟨_, rfl⟩
  obtain ⟨j2, hj2⟩ : ∃ j2, j2 = (betweenV s t).2 := ⟨_, rfl⟩
  rw [← hj1, ← hj2]
  rw [hJ] at hj1 hj2
  have HJ1 := Lib.hid hj1
  have HJ2 := Lib.hid hj2
  clear hJ hj1 hj2
  have K1 := Lib.hid k1
  have Z1 := Lib.hid z1
  have HR := Lib.hid hR
  clear k1 z1 hb hE hR h h' rs rt
  unfold stv at HAS ⊢
  unfold dtv
  refine (callsIn_wide (n := 3)).1 ?_
  refine callsIn_of_wp_marks Tryz.func6 rfl trivial ?_ rfl
  simp only [Tryz.ntmps6, List.size_toArray, List.length_cons, List.length_nil, Nat.reduceAdd, Nat.reduceSub, Array.replicate_succ, Array.replicate_zero, List.push_toArray, List.append_toArray, List.nil_append, List.cons_append]
  refine wpIn_wide.2 ?_
  go_upto_region 1 with (fail)
  rw [← hw1]
  clear hw1
  obtain ⟨⟨a0, a1, a2, a3⟩, ⟨b0, b1, b2, b3⟩⟩ := CE.out w1 (Kept.refl _ _)
  go_upto_region 3 with (fail)
  go_cut [6] from 9 to 51 (fun p wc => ∃ X SB sc, p = .pointer (some ⟨X, 0, none⟩) ∧ Hid (w1.heap.size ≤ X) ∧ Hid (wc.heap[X]? = some (.cells #[.int .i64 s.index, .int .i64 t.index, .int .i64 t.term, .slice none 0 0, .slice SB t.sess.length sc] 31 (0, 0))) ∧ Hid (Lies wc (fun i => w1.heap.size ≤ i ∧ i ≠ X) SB (SN.cells t.sess)) ∧ Hid (t.sess.length ≤ sc) ∧ Hid (Kept noBlock w1 wc))
  case first =>
    clear a0 a1 a2 a3 b0 b1 b2 b3
    have KC : Hid (Kept noBlock w1 w1.drew) := Lib.hid (Kept.drew _ _)
    refine wp_region_noPanic ?_
    refine wp_region_held_drew (S := fun u => (u.cell? ⟨w.heap.size, 0, none⟩ = some (.int .i64 s.index) ∧ u.cell? ⟨w.heap.size, 1, none⟩ = some (.int .i64 s.term) ∧ u.cell? ⟨w.heap.size, 2, none⟩ = some (.slice A s.pairs.length c) ∧ u.cell? ⟨w.heap.size, 3, none⟩ = some (.slice B s.sess.length d)) ∧ (u.cell? ⟨w.heap.size + 1, 0, none⟩ = some (.int .i64 t.index) ∧ u.cell? ⟨w.heap.size + 1, 1, none⟩ = some (.int .i64 t.term) ∧ u.cell? ⟨w.heap.size + 1, 2, none⟩ = some (.slice A' t.pairs.length c') ∧ u.cell? ⟨w.heap.size + 1, 3, none⟩ = some (.slice B' t.sess.length d'))) (by kernel_rfl) (CE.out _ KC.out) (fun hHeld => ?_)
    refine wpAnyH_take (i := 0) (oi := ⟨some 22, Op.fieldAddr 27 (Operand.tmp 2) 0, 0, _, _, none⟩) (v := ?v0n20k1) rfl (by kernel_rfl) (by kernel_rfl) (by kernel_rfl) (fun _ _ _ h => h) (Or.inl ⟨by rfl, ?y0n20k1⟩) hHeld ?z0n20k1
    case y0n20k1 => intro w hSw; (try dsimp only at hSw); go_simp <;> rfl
    try simp only [Act.put, List.setIfInBounds_toArray, List.set_cons_zero, List.set_cons_succ]
    refine wpAnyH_take (i := 1) (oi := ⟨some 23, Op.load 3 (Operand.tmp 22), 3, _, _, none⟩) (v := ?v1n20k2) rfl (by kernel_rfl) (by kernel_rfl) (by kernel_rfl) (fun _ _ _ h => h) (Or.inl ⟨by rfl, ?y1n20k2⟩) hHeld ?z1n20k2
    case y1n20k2 => intro w hSw; (try dsimp only at hSw); go_simp <;> rfl
    try simp only [Act.put, List.setIfInBounds_toArray, List.set_cons_zero, List.set_cons_succ]
    refine wpAnyH_take (i := 2) (oi := ⟨some 24, Op.fieldAddr 27 (Operand.tmp 3) 0, 0, _, _, none⟩) (v := ?v2n20k3) rfl (by kernel_rfl) (by kernel_rfl) (by kernel_rfl) (fun _ _ _ h => h) (Or.inl ⟨by rfl, ?y2n20k3⟩) hHeld ?z2n20k3
    case y2n20k3 => intro w hSw; (try dsimp only at hSw); go_simp <;> rfl
    try simp only [Act.put, List.setIfInBounds_toArray, List.set_cons_zero, List.set_cons_succ]
    refine wpAnyH_take (i := 3) (oi := ⟨some 25, Op.load 3 (Operand.tmp 24), 3, _, _, none⟩) (v := ?v3n20k4) rfl (by kernel_rfl) (by kernel_rfl) (by kernel_rfl) (fun _ _ _ h => h) (Or.inl ⟨by rfl, ?y3n20k4⟩) hHeld ?z3n20k4
    case y3n20k4 => intro w hSw; (try dsimp only at hSw); go_simp <;> rfl
    try simp only [Act.put, List.setIfInBounds_toArray, List.set_cons_zero, List.set_cons_succ]
    refine wpAnyH_take (i := 4) (oi := ⟨some 26, Op.fieldAddr 27 (Operand.tmp 3) 1, 0, _, _, none⟩) (v := ?v4n20k5) rfl (by kernel_rfl) (by kernel_rfl) (by kernel_rfl) (fun _ _ _ h => h) (Or.inl ⟨by rfl, ?y4n20k5⟩) hHeld ?z4n20k5
    case y4n20k5 => intro w hSw; (try dsimp only at hSw); go_simp <;> rfl
    try simp only [Act.put, List.setIfInBounds_toArray, List.set_cons_zero, List.set_cons_succ]
    refine wpAnyH_take (i := 5) (oi := ⟨some 27, Op.load 3 (Operand.tmp 26), 3, _, _, none⟩) (v := ?v5n20k6) rfl (by kernel_rfl) (by kernel_rfl) (by kernel_rfl) (fun _ _ _ h => h) (Or.inl ⟨by rfl, ?y5n20k6⟩) hHeld ?z5n20k6
    case y5n20k6 => intro w hSw; (try dsimp only at hSw); go_simp <;> rfl
    try simp only [Act.put, List.setIfInBounds_toArray, List.set_cons_zero, List.set_cons_succ]
    refine wpAnyH_take (i := 6) (oi := ⟨some 28, Op.fieldAddr 27 (Operand.tmp 3) 3, 0, _, _, none⟩) (v := ?v6n20k7) rfl (by kernel_rfl) (by kernel_rfl) (by kernel_rfl) (fun _ _ _ h => h) (Or.inl ⟨by rfl, ?y6n20k7⟩) hHeld ?z6n20k7
    case y6n20k7 => intro w hSw; (try dsimp only at hSw); go_simp <;> rfl
    try simp only [Act.put, List.setIfInBounds_toArray, List.set_cons_zero, List.set_cons_succ]
    refine wpAnyH_take (i := 7) (oi := ⟨some 29, Op.load 25 (Operand.tmp 28), 25, _, _, none⟩) (v := ?v7n20k8) rfl (by kernel_rfl) (by kernel_rfl) (by kernel_rfl) (fun _ _ _ h => h) (Or.inl ⟨by rfl, ?y7n20k8⟩) hHeld ?z7n20k8
    case y7n20k8 => intro w hSw; (try dsimp only at hSw); go_simp <;> rfl
    try simp only [Act.put, List.setIfInBounds_toArray, List.set_cons_zero, List.set_cons_succ]
    refine wpAnyH_ready (rs := [8, 10]) (by kernel_rfl) (by simp) ?_
    refine (AllReadyH.cons (o := ⟨some 30, Op.call { callee := Callee.value (Operand.func 20), args := #[Operand.tmp 29], argTypes := #[25] }, 25, _, _, none⟩) rfl (fun K hK => ?b8n20k10) (AllReadyH.cons (o := ⟨some 6, Op.alloc 31, 0, _, _, none⟩) rfl (fun K hK => ?b10n20k9) AllReadyH.nil))
    case b8n20k10 =>
      go_simp
      refine (CL.out _ KC.out).mono ?_
      rintro e u8 ⟨SB, sc, rfl, o8, k8⟩
      have HSC : Hid (t.sess.length ≤ sc) := Lib.hid (by obtain ⟨_, _, e, hle⟩ := own_form o8; injection e with _ _ e; omega)
      first
        | have SL := Lib.hid (Lies.of_rows (F := fun i => w1.heap.size ≤ i ∧ i ≠ X) o8 (fun i hi => ⟨by have := (o8.lt i hi).1; have := KC.out.size; omega, by have := (o8.lt i hi).1; have := lt_of_blk HX.out; omega⟩))
        | have SL := Lib.hid (Lies.of_rows (F := fun i => w1.heap.size ≤ i ∧ i < u8.heap.size) o8 (fun i hi => ⟨by have := (o8.lt i hi).1; have := KC.out.size; omega, (o8.lt i hi).2⟩))
      try have HX2 := Lib.hid (k8.blk HX.out (fun h => h))
      try clear HX
      try have HX := HX2
      try clear HX2
      replace KC := Lib.hid (KC.out.step k8)
      clear o8 k8
      dsimp only
      refine hK.out _ _ (CE.out _ KC.out) (fun hHeld => ?_)
      clear hK K
      try simp only [Act.put, List.setIfInBounds_toArray, List.set_cons_zero, List.set_cons_succ]
      refine wpAnyH_take (i := 9) (oi := ⟨some 31, Op.build 31 #[(0, Operand.tmp 23), (1, Operand.tmp 25), (2, Operand.tmp 27), (4, Operand.tmp 30)], 31, _, _, none⟩) (v := ?v9n20k11) rfl (by kernel_rfl) (by kernel_rfl) (by kernel_rfl) (fun _ _ _ h => h) (Or.inl ⟨by rfl, ?y9n20k11⟩) hHeld ?z9n20k11
      case y9n20k11 => intro w hSw; (try dsimp only at hSw); go_simp <;> rfl
      try simp only [Act.put, List.setIfInBounds_toArray, List.set_cons_zero, List.set_cons_succ]
      refine wpAnyH_ready (rs := [10]) (by kernel_rfl) (by simp) ?_
      refine AllReadyH.cons (o := ⟨some 6, Op.alloc 31, 0, _, _, none⟩) rfl (fun K hK => ?_) AllReadyH.nil
      refine step_allocD ?_
      intro X u9 k9 hX9 hx9
      have HX := Lib.hid hx9
      have LX : Hid (w1.heap.size ≤ X) := Nat.le_trans KC.out.size hX9
      replace KC := Lib.hid (KC.out.step k9)
      try have SL2 := Lib.hid ((SL.out.keep k9 (fun _ _ h => h)).mono (G := fun i => w1.heap.size ≤ i ∧ i ≠ X) (fun i hi => ⟨hi.1, by have := hi.2; omega⟩))
      try clear SL
      try have SL := SL2
      try clear SL2
      clear k9 hX9 hx9
      refine hK.out _ _ (CE.out _ KC.out) (fun hHeld => ?_)
      clear hK K
      try simp only [Act.put, List.setIfInBounds_toArray, List.set_cons_zero, List.set_cons_succ]
      refine wpAnyH_ready (rs := [11]) (by kernel_rfl) (by simp) ?_
      refine AllReadyH.cons (o := ⟨none, Op.store 31 (Operand.tmp 6) (Operand.tmp 31), 0, _, _, none⟩) rfl (fun K hK => ?_) AllReadyH.nil
      refine step_storeD rfl rfl HX.out ?_
      intro u11 k11 hx11
      have KC11 := Lib.hid (KC.out.trans k11 (fun i hi e => by have := LX.out; omega))
      have SL11 := Lib.hid (SL.out.keep k11 (fun i hi e => hi.2 e))
      have HX11 := Lib.hid hx11
      clear k11 hx11
      refine hK.out _ _ (CE.out _ KC11.out) (fun hHeld => ?_)
      clear hK K
      try simp only [Act.put, List.setIfInBounds_toArray, List.set_cons_zero, List.set_cons_succ]
      refine wpAnyH_done (by kernel_rfl) ?_ _
      refine NoPanic.normal ?_
      go_wp2
      go_meet
      case rel => exact ⟨X, SB, sc, rfl, LX, HX11, SL11, HSC, KC11⟩
    case b10n20k9 =>
      refine step_allocD ?_
      intro X u9 k9 hX9 hx9
      have HX := Lib.hid hx9
      have LX : Hid (w1.heap.size ≤ X) := Nat.le_trans KC.out.size hX9
      replace KC := Lib.hid (KC.out.step k9)
      try have SL2 := Lib.hid ((SL.out.keep k9 (fun _ _ h => h)).mono (G := fun i => w1.heap.size ≤ i ∧ i ≠ X) (fun i hi => ⟨hi.1, by have := hi.2; omega⟩))
      try clear SL
      try have SL := SL2
      try clear SL2
      clear k9 hX9 hx9
      refine hK.out _ _ (CE.out _ KC.out) (fun hHeld => ?_)
      clear hK K
      try simp only [Act.put, List.setIfInBounds_toArray, List.set_cons_zero, List.set_cons_succ]
      refine wpAnyH_ready (rs := [8]) (by kernel_rfl) (by simp) ?_
      refine AllReadyH.cons (o := ⟨some 30, Op.call { callee := Callee.value (Operand.func 20), args := #[Operand.tmp 29], argTypes := #[25] }, 25, _, _, none⟩) rfl (fun K hK => ?_) AllReadyH.nil
      go_simp
      refine (CL.out _ KC.out).mono ?_
      rintro e u8 ⟨SB, sc, rfl, o8, k8⟩
      have HSC : Hid (t.sess.length ≤ sc) := Lib.hid (by obtain ⟨_, _, e, hle⟩ := own_form o8; injection e with _ _ e; omega)
      first
        | have SL := Lib.hid (Lies.of_rows (F := fun i => w1.heap.size ≤ i ∧ i ≠ X) o8 (fun i hi => ⟨by have := (o8.lt i hi).1; have := KC.out.size; omega, by have := (o8.lt i hi).1; have := lt_of_blk HX.out; omega⟩))
        | have SL := Lib.hid (Lies.of_rows (F := fun i => w1.heap.size ≤ i ∧ i < u8.heap.size) o8 (fun i hi => ⟨by have := (o8.lt i hi).1; have := KC.out.size; omega, (o8.lt i hi).2⟩))
      try have HX2 := Lib.hid (k8.blk HX.out (fun h => h))
      try clear HX
      try have HX := HX2
      try clear HX2
      replace KC := Lib.hid (KC.out.step k8)
      clear o8 k8
      dsimp only
      refine hK.out _ _ (CE.out _ KC.out) (fun hHeld => ?_)
      clear hK K
      try simp only [Act.put, List.setIfInBounds_toArray, List.set_cons_zero, List.set_cons_succ]
      refine wpAnyH_take (i := 9) (oi := ⟨some 31, Op.build 31 #[(0, Operand.tmp 23), (1, Operand.tmp 25), (2, Operand.tmp 27), (4, Operand.tmp 30)], 31, _, _, none⟩) (v := ?v9n20k12) rfl (by kernel_rfl) (by kernel_rfl) (by kernel_rfl) (fun _ _ _ h => h) (Or.inl ⟨by rfl, ?y9n20k12⟩) hHeld ?z9n20k12
      case y9n20k12 => intro w hSw; (try dsimp only at hSw); go_simp <;> rfl
      try simp only [Act.put, List.setIfInBounds_toArray, List.set_cons_zero, List.set_cons_succ]
      refine wpAnyH_ready (rs := [11]) (by kernel_rfl) (by simp) ?_
      refine AllReadyH.cons (o := ⟨none, Op.store 31 (Operand.tmp 6) (Operand.tmp 31), 0, _, _, none⟩) rfl (fun K hK => ?_) AllReadyH.nil
      refine step_storeD rfl rfl HX.out ?_
      intro u11 k11 hx11
      have KC11 := Lib.hid (KC.out.trans k11 (fun i hi e => by have := LX.out; omega))
      have SL11 := Lib.hid (SL.out.keep k11 (fun i hi e => hi.2 e))
      have HX11 := Lib.hid hx11
      clear k11 hx11
      refine hK.out _ _ (CE.out _ KC11.out) (fun hHeld => ?_)
      clear hK K
      try simp only [Act.put, List.setIfInBounds_toArray, List.set_cons_zero, List.set_cons_succ]
      refine wpAnyH_done (by kernel_rfl) ?_ _
      refine NoPanic.normal ?_
      go_wp2
      go_meet
      case rel => exact ⟨X, SB, sc, rfl, LX, HX11, SL11, HSC, KC11⟩
  case rest =>
    obtain ⟨X, SB, sc, rfl, LX, HX, SL, HSC, KC⟩ := hcut
    clear CL a0 a1 a2 a3 b0 b1 b2 b3
    go_upto_region 4 with (fail)
    have KD : Hid (Kept noBlock wc wc.drew) := Lib.hid (Kept.drew _ _)
    have MG := Lib.hid (KP.merge_any 49 50)
    refine wp_region_noPanic ?_
    refine wp_region_held_drew (S := fun u => (u.cell? ⟨w.heap.size, 0, none⟩ = some (.int .i64 s.index) ∧ u.cell? ⟨w.heap.size, 1, none⟩ = some (.int .i64 s.term) ∧ u.cell? ⟨w.heap.size, 2, none⟩ = some (.slice A s.pairs.length c) ∧ u.cell? ⟨w.heap.size, 3, none⟩ = some (.slice B s.sess.length d)) ∧ (u.cell? ⟨w.heap.size + 1, 0, none⟩ = some (.int .i64 t.index) ∧ u.cell? ⟨w.heap.size + 1, 1, none⟩ = some (.int .i64 t.term) ∧ u.cell? ⟨w.heap.size + 1, 2, none⟩ = some (.slice A' t.pairs.length c') ∧ u.cell? ⟨w.heap.size + 1, 3, none⟩ = some (.slice B' t.sess.length d'))) (by kernel_rfl) (CE.out _ (KC.out.step KD.out)) (fun hHeld => ?_)
    refine wpAnyH_take (i := 0) (oi := ⟨some 32, Op.fieldAddr 27 (Operand.tmp 2) 2, 0, _, _, none⟩) (v := ?v0n21k1) rfl (by kernel_rfl) (by kernel_rfl) (by kernel_rfl) (fun _ _ _ h => h) (Or.inl ⟨by rfl, ?y0n21k1⟩) hHeld ?z0n21k1
    case y0n21k1 => intro w hSw; (try dsimp only at hSw); go_simp <;> rfl
    try simp only [Act.put, List.setIfInBounds_toArray, List.set_cons_zero, List.set_cons_succ]
    refine wpAnyH_take (i := 1) (oi := ⟨some 33, Op.load 24 (Operand.tmp 32), 24, _, _, none⟩) (v := ?v1n21k2) rfl (by kernel_rfl) (by kernel_rfl) (by kernel_rfl) (fun _ _ _ h => h) (Or.inl ⟨by rfl, ?y1n21k2⟩) hHeld ?z1n21k2
    case y1n21k2 => intro w hSw; (try dsimp only at hSw); go_simp <;> rfl
    try simp only [Act.put, List.setIfInBounds_toArray, List.set_cons_zero, List.set_cons_succ]
    refine wpAnyH_take (i := 3) (oi := ⟨some 35, Op.fieldAddr 27 (Operand.tmp 3) 2, 0, _, _, none⟩) (v := ?v3n21k3) rfl (by kernel_rfl) (by kernel_rfl) (by kernel_rfl) (fun _ _ _ h => h) (Or.inl ⟨by rfl, ?y3n21k3⟩) hHeld ?z3n21k3
    case y3n21k3 => intro w hSw; (try dsimp only at hSw); go_simp <;> rfl
    try simp only [Act.put, List.setIfInBounds_toArray, List.set_cons_zero, List.set_cons_succ]
    refine wpAnyH_take (i := 4) (oi := ⟨some 36, Op.load 24 (Operand.tmp 35), 24, _, _, none⟩) (v := ?v4n21k4) rfl (by kernel_rfl) (by kernel_rfl) (by kernel_rfl) (fun _ _ _ h => h) (Or.inl ⟨by rfl, ?y4n21k4⟩) hHeld ?z4n21k4
    case y4n21k4 => intro w hSw; (try dsimp only at hSw); go_simp <;> rfl
    try simp only [Act.put, List.setIfInBounds_toArray, List.set_cons_zero, List.set_cons_succ]
    refine wpAnyH_ready (rs := [2]) (by kernel_rfl) (by simp) ?_
    refine AllReadyH.cons (o := ⟨some 34, Op.call { callee := Callee.value (Operand.func 22), args := #[Operand.tmp 33], argTypes := #[24] }, 65, _, _, none⟩) rfl (fun K hK => ?_) AllReadyH.nil
    go_simp
    refine (KP.kgone_any A s.pairs.length c _).mono ?_
    rintro e u2 ⟨rfl, h2, k2⟩
    have K2 := Lib.hid (KD.out.step k2)
    have SA := Lib.hid (KP.gone1_seq _ w.heap.size A _ c s.pairs u2 h2 (LA.out _ (KC.out.step (KD.out.step k2))) rfl hca (by omega))
    clear h2 k2
    dsimp only
    refine hK.out _ _ (CE.out _ (KC.out.step K2.out)) (fun hHeld => ?_)
    clear hK K
    try simp only [Act.put, List.setIfInBounds_toArray, List.set_cons_zero, List.set_cons_succ]
    refine wpAnyH_ready (rs := [5]) (by kernel_rfl) (by simp) ?_
    refine AllReadyH.cons (o := ⟨some 37, Op.call { callee := Callee.value (Operand.func 23), args := #[Operand.tmp 36], argTypes := #[24] }, 65, _, _, none⟩) rfl (fun K hK => ?_) AllReadyH.nil
    go_simp
    refine (KP.each_any A' t.pairs.length c' _).mono ?_
    rintro e u5 ⟨rfl, h5, k5⟩
    have K5 := Lib.hid (K2.out.step k5)
    have SA5 := Lib.hid (SA.out.later k5)
    have SB5 := Lib.hid (KP.each1_seq _ w.heap.size A' _ c' t.pairs u5 h5 (LB.out _ (KC.out.step (K2.out.step k5))) rfl hcb (by omega))
    clear h5 k5
    dsimp only
    refine hK.out _ _ (CE.out _ (KC.out.step K5.out)) (fun hHeld => ?_)
    clear hK K
    try simp only [Act.put, List.setIfInBounds_toArray, List.set_cons_zero, List.set_cons_succ]
    refine wpAnyH_ready (rs := [6]) (by kernel_rfl) (by simp) ?_
    refine AllReadyH.cons (o := ⟨some 38, Op.call { callee := Callee.value (Operand.func 21), args := #[Operand.tmp 34, Operand.tmp 37], argTypes := #[65, 65] }, 65, _, _, none⟩) rfl (fun K hK => ?_) AllReadyH.nil
    go_simp
    refine (MG.out _ _ _).mono ?_
    rintro e u6 ⟨rfl, ma, mb, k6⟩
    have K6 := Lib.hid (K5.out.step k6)
    have hw6 : w.heap.size ≤ u6.heap.size := (K1.out.step (KC.out.step K6.out)).size
    have RU := Lib.hid (KP.merge1_runs _ _ w.heap.size _ _ (KP.gones s.pairs) t.pairs u6 mb ma (SA5.out.later k6) (SB5.out.later k6) hw6 HUB.out (by omega))
    clear ma mb k6 hw6
    dsimp only
    refine hK.out _ _ (CE.out _ (KC.out.step K6.out)) (fun hHeld => ?_)
    clear hK K
    try simp only [Act.put, List.setIfInBounds_toArray, List.set_cons_zero, List.set_cons_succ]
    refine wpAnyH_done (by kernel_rfl) ?_ _
    refine NoPanic.normal ?_
    clear hHeld SA5 SB5 SA K2 K5 MG LA LB
    have hXd : X < u6.heap.size := lt_of_blk (K6.out.blk HX.out (fun h => h))
    have hBX : w.heap.size ≤ X := by have := LX.out; have := Z1.out; omega
    have hw6 : w.heap.size ≤ u6.heap.size := Nat.le_trans hBX (Nat.le_of_lt hXd)
    obtain ⟨M, hM⟩ : ∃ M, M = Srt.mrg (KP.gones s.pairs) t.pairs := ⟨_, rfl⟩
    rw [← hM] at RU
    have hml : M.length ≤ 1024 := by have := Srt.mrg_len (KP.gones s.pairs) t.pairs; have := (show (KP.gones s.pairs).length = s.pairs.length from List.length_map _); rw [hM]; omega
    have I0 : Hid (KP.Col u6 X (fun v => dcells s.index t.index t.term v SB t.sess.length sc) 31 (([] : Prs).filter (chg s.pairs)) (fun _ => False) u6) := Lib.hid (KP.Col.start (K6.out.blk HX.out (fun h => h)))
    have HM := Lib.hid hM
    clear hM
    go_wp2_with fail
    refine (wpIn_wide (n := 3)).1 ?_
    refine wpIn_runs2_box rfl KP.merge1_enters RU.out (Kept.refl _ _) (fun _ => rfl) 8 68 (fun x => #[.string x.1, .string x.2.1, .bool x.2.2]) (fun _ => []) 0 (fun pre O V => Hid (KP.Col u6 X (fun v => dcells s.index t.index t.term v SB t.sess.length sc) 31 (pre.filter (chg s.pairs)) O V)) (fun _ _ _ _ => False)
      (fun pre O A B h k => Lib.hid (h.out.abide k hXd)) (fun _ _ _ _ _ h _ => h) (fun pre O V k h ho => h.out.bd k ho) (fun _ _ _ _ => Nat.zero_le _) I0 ?assign ?body ?done ?stop
    case assign =>
      intro l2 x V K hK
      dsimp only [KP.yenc]
      simp only [landed, List.foldl_cons, List.foldl_nil, List.zip_toArray, List.zip_cons_cons, List.zip_nil_right, KP.yenc, List.foldl_toArray, List.setIfInBounds_toArray, List.set_cons_zero, List.set_cons_succ, List.nil_append] at hK
      gi_wp2
      exact hK
    case body =>
      rintro l2 pre x rest O Bx V hL hI _ hnO hbx
      simp only [landed, List.foldl_cons, List.foldl_nil, List.zip_toArray, List.zip_cons_cons, List.zip_nil_right, KP.yenc, List.foldl_toArray, List.setIfInBounds_toArray, List.set_cons_zero, List.set_cons_succ, List.nil_append]
      obtain ⟨x1, x2, xg⟩ := x
      obtain ⟨d0, d1, d2⟩ := KP.pr_cells hbx
      simp only at d0 d1 d2
      obtain ⟨a0, a1, a2, a3⟩ := (CE.out u6 (KC.out.step K6.out)).1
      have hAX : w.heap.size ≠ X := fun e => by have := LX.out; have := Z1.out; omega
      replace a0 := hI.out.kept.cell a0 hAX
      replace a1 := hI.out.kept.cell a1 hAX
      replace a2 := hI.out.kept.cell a2 hAX
      replace a3 := hI.out.kept.cell a3 hAX
      have hpl : pre.length + 1 ≤ 1024 := by rw [hL] at hml; simp at hml; omega
      have hfl := List.length_filter_le (chg s.pairs) pre
      have HC := Lib.hid (HAS.out V ((K1.out.step (KC.out.step K6.out)).trans hI.out.kept (fun i hi e => by omega)) x1 x2 xg)
      have hN := List.filter_append (p := (chg s.pairs)) pre [(x1, x2, xg)]
      obtain ⟨L0, hL0⟩ : ∃ L0, L0 = pre.filter (chg s.pairs) := ⟨_, rfl⟩
      rw [← hL0] at hI hfl hN
      have hq0 : chg s.pairs (x1, x2, xg) = !decide (xg = false ∧ Srt.look s.pairs x1 = some (x2, false)) := rfl
      obtain ⟨q, hq⟩ : ∃ q, q = decide (xg = false ∧ Srt.look s.pairs x1 = some (x2, false)) := ⟨_, rfl⟩
      rw [← hq] at HC hq0
      have HBX := Lib.hid hbx
      have HNN := Lib.hid hN
      have HQ0 := Lib.hid hq0
      clear hq hbx hL hL0 hN hq0 hnO
      gi_wp2_with fail
      refine ⟨trivial, ?_⟩
      refine (CallsIn.inRound l2 (callsIn_wide.2 HC.out)).mono ?_
      rintro e V1 ⟨rfl, k1⟩
      have hI1 := Lib.hid (hI.out.keep k1)
      have K1V := Lib.hid k1
      obtain ⟨d0', d1', d2'⟩ := KP.pr_cells (k1.blk HBX.out (fun h => h))
      clear d0 d1 d2 a0 a1 a2 a3 k1 HC hI HBX
      cases q with
      | true =>
        have hN : (pre ++ [(x1, x2, xg)]).filter (chg s.pairs) = L0 := by rw [HNN.out]; simp [HQ0.out]
        have N9 := Lib.hid (show Hid (KP.Col u6 X (fun v => dcells s.index t.index t.term v SB t.sess.length sc) 31 ((pre ++ [(x1, x2, xg)]).filter (chg s.pairs)) O V1) from by rw [hN]; exact hI1)
        clear hN hfl hpl
        gi_wp2
        exact ⟨O, Went.of_kept K1V.out, N9.out⟩
      | false =>
        have hN : (pre ++ [(x1, x2, xg)]).filter (chg s.pairs) = L0 ++ [(x1, x2, xg)] := by rw [HNN.out]; simp [HQ0.out]
        obtain ⟨P, pc, g3, gown, go⟩ := hI1.out.at_
        have NX : Hid (∀ A9 c9 wz, wz.ownsRow 0 68 3 (.slice A9 (L0.length + 1) c9) (L0.length + 1) (PR.cells L0 ++ [.string x1, .string x2, .bool xg]) → Grew (V1.alloc (.cells #[.string x1, .string x2, .bool xg] 68)) wz (.slice P L0.length pc) (.slice A9 (L0.length + 1) c9) → _) := Lib.hid (fun A9 c9 wz o1 g1 =>
          KP.Col.next (B := w.heap.size) (m := u6.heap.size) (q := 3) (x := (x1, x2, xg)) hw6 hBX hXd (by decide) (KP.um_delta w.heap.size) (fun W a b h => dcells_set W a b h) hI1.out g3 gown go (Kept.alloc noBlock V1 _) (by unfold PR.cells at o1 ⊢; rw [flat_append, flat_one]; exact o1) g1)
        rw [← hN] at NX
        have c3 : V1.cell? ⟨X, 3, none⟩ = some (.slice P L0.length pc) := cell_of_row _ _ _ _ _ _ g3
        have GO := Lib.hid gown; clear gown
        have hk9 : L0.length + 1 ≤ 1024 := by omega
        obtain ⟨k, hke⟩ : ∃ k, k = L0.length := ⟨_, rfl⟩
        rw [← hke] at c3 hk9 GO NX
        clear hke g3 go hN hfl hpl
        gi_wp2_with (gi_at_builtin; refine wpListIn_append_src rfl _ _ 24 24 rfl 68 (.agg #[.string ByteArray.empty, .string ByteArray.empty, .bool false]) 3 40 Tryz.underlying24 PR.infoPr rfl (.slice P k pc) k (PR.cells L0) rfl (own_base (base' := 0) (GO.out.alloc _) (fun _ _ => Nat.zero_le _)) _ 1 [.string x1, .string x2, .bool xg] rfl (Src.ofSlice _ Tryz.underlying24 _ _ _ _ rfl (World.news_of_block (heap_alloc_new _ _)) (by intro u hu; simp at hu; rcases hu with rfl | rfl | rfl <;> rfl)) ?c3 ?c4 ?_)
        case c3 => unfold maxLen; omega
        case c4 => left; omega
        intro A9 c9 w2 o2 g2
        obtain ⟨b3, O9, n2, n3⟩ := NX.out A9 c9 w2 o2 g2
        have c3' : w2.cell? ⟨X, 3, none⟩ = some (.slice P k pc) := cell_of_row _ _ _ _ _ _ b3
        have f3' : w2.frozen? ⟨X, 3, none⟩ = false := frozen_of_row _ _ _ _ _ b3
        have N2 := Lib.hid ((Went.of_kept K1V.out).trans (KP.anti_um _) n2)
        have N3 := Lib.hid n3
        clear b3 n2 n3 NX o2 g2 hI1 GO c3 d0' d1' d2'
        gi_wp2
        exact ⟨O9, N2.out, N3⟩
    case done =>
      intro D O V hD hI hK
      obtain ⟨N, hN⟩ : ∃ N, N = M.filter (chg s.pairs) := ⟨_, rfl⟩
      rw [← hN] at hI
      have HN : Hid (N = betweenP s.pairs t.pairs) := Lib.hid (by rw [hN, HM.out]; exact chg_filter HUA.out HUB.out HGB.out)
      clear hN
      obtain ⟨P, pc, g3, gown, go⟩ := hI.out.at_
      have hRX : w.heap.size + 1 + 1 ≠ X := fun e => by have := LX.out; have := Z1.out; omega
      have hRD : w.heap.size + 1 + 1 ≠ D := by have := LX.out; have := Z1.out; omega
      have hrV : V.heap[w.heap.size + 1 + 1]? = some (.cells #[.int .i64 0, .int .i64 0, .int .i64 0, .slice none 0 0, .slice none 0 0] 31 (0, 0)) := hI.out.kept.blk ((KC.out.step K6.out).blk HR.out (fun h => h)) hRX
      have SLV := Lib.hid ((SL.out.keep K6.out (fun _ _ h => h)).keep hI.out.kept (fun i hi e => hi.2 e))
      have KV : Hid (Kept noBlock w V) := Lib.hid ((K1.out.step (KC.out.step K6.out)).trans hI.out.kept (fun i hi e => by omega))
      have GO := Lib.hid gown
      have hpc : N.length ≤ pc := by obtain ⟨_, _, e, hle⟩ := own_form gown; injection e with _ _ e; omega
      unfold dcells at g3
      obtain ⟨c0, c1, c2, c3, c4⟩ := dl_cells g3
      obtain ⟨r0, r1, r2, r3, r4⟩ := dl_cells (show V.heap[w.heap.size + 2]? = _ from hrV)
      have hfz : ∀ j, V.frozen? ⟨w.heap.size + 2, j, none⟩ = false := fun j => frozen_of_row _ _ _ _ _ hrV
      have f0 := hfz 0
      have f1 := hfz 1
      have f2 := hfz 2
      have f3 := hfz 3
      have f4 := hfz 4
      have HRV := Lib.hid hrV
      have HK := Lib.hid hK
      have HSZ : Hid (w.heap.size + 1 + 1 < u6.heap.size) := Lib.hid (by have := LX.out; have := Z1.out; omega)
      have FIN : Hid (∀ vz : World, Kept (fun k => k = w.heap.size + 1 + 1) V vz → Kept noBlock w (vz.putObj D (.deferred none)) ∧ vz.heap[D]? = some (.deferred (some [])) ∧ Lies (vz.putObj D (.deferred none)) (fun i => F i ∨ G i ∨ fresh w (vz.putObj D (.deferred none)) i) P (PR.cells N) ∧ Lies (vz.putObj D (.deferred none)) (fun i => F i ∨ G i ∨ fresh w (vz.putObj D (.deferred none)) i) SB (SN.cells t.sess)) := Lib.hid (fun vz kz => by
        have hdz := kz.blk HK.out (fun e => hRD e.symm)
        have kvz : Kept noBlock w vz := KV.out.trans kz (fun i hi e => by omega)
        have st : Abide (fun _ _ => False) u6.heap.size vz (vz.putObj D (.deferred none)) := Abide.putObj _ hD hdz rfl
        have kfin := Abide.kept kvz st hw6
        refine ⟨kfin, hdz, ?_, ?_⟩
        · have o1 := own_keep GO.out kz (fun i hi e => by have := (GO.out.lt i hi).1; have := HSZ.out; omega)
          have o2 := st.own o1 (.inr (fun _ h => h))
          exact Lies.of_rows o2 (fun i hi => .inr (.inr ⟨Nat.le_trans hw6 (o2.lt i hi).1, (o2.lt i hi).2⟩))
        · have l1 := SLV.out.keep kz (fun i hi e => by have := hi.1; have := Z1.out; omega)
          have l2 := KP.lies_abide l1 st (fun _ _ _ => .inr (fun h => h))
          intro hx
          obtain ⟨ad, e, hf, hc⟩ := l2 hx
          obtain ⟨_, _, _, hlt⟩ := l2.lt hx
          exact ⟨ad, e, .inr (.inr ⟨by have := hf.1; have := Z1.out; omega, by
            cases hcs : SN.cells t.sess with
            | nil => exact absurd hcs hx
            | cons u r =>
              have := World.block_lt_of_cell? _ _ (hc 0 u (by rw [hcs]; rfl))
              rwa [block_add] at this⟩), hc⟩)
      obtain ⟨m, hm⟩ : ∃ m, m = N.length := ⟨_, rfl⟩
      rw [← hm] at c3 hpc
      have HMM := Lib.hid hm
      have kz0 := setD_kept V (w.heap.size + 1 + 1) (.int .i64 0) (.int .i64 0) (.int .i64 0) (.slice none 0 0) (.slice none 0 0)
      have hz0 := setD_block (x0 := .int .i64 0) (x1 := .int .i64 0) (x2 := .int .i64 0) (x3 := .slice none 0 0) (x4 := .slice none 0 0) hrV
      have kz1 := setD_kept V (w.heap.size + 1 + 1) (.int .i64 s.index) (.int .i64 t.index) (.int .i64 t.term) (.slice P m pc) (.slice SB t.sess.length sc)
      have hz1 := setD_block (x0 := .int .i64 s.index) (x1 := .int .i64 t.index) (x2 := .int .i64 t.term) (x3 := .slice P m pc) (x4 := .slice SB t.sess.length sc) hrV
      have KZ0 := Lib.hid kz0
      have HZ0 := Lib.hid hz0
      have KZ1 := Lib.hid kz1
      have HZ1 := Lib.hid hz1
      have HPC := Lib.hid hpc
      have HRD := Lib.hid hRD
      clear kz0 hz0 kz1 hz1 hfz hrV hK hm gown go g3 hI hpc hRD hRX hD hml hXd hBX hw6 hca hcb hla hlb e1 e2
      clear RU I0 CE HUB HUA HGB HAS K1 Z1 HR LX HX SL KC K6 KD
      go_upto_region 8 with (fail)
      go_cut [5] from 9 to 51 (fun x wz => x = .int .i64 0 ∧ Hid (Kept (fun k => k = w.heap.size + 1 + 1) V wz) ∧ Hid (wz.heap[w.heap.size + 1 + 1]? = some (.cells #[.int .i64 s.index, .int .i64 t.index, .int .i64 t.term, .slice P m pc, .slice SB t.sess.length sc] 31 (0, 0))))
      case first =>
        go_wp2
        go_meet
        case rel => exact ⟨rfl, KZ1, HZ1⟩
      case rest =>
        obtain ⟨rfl, KZ, HZ⟩ := hcut
        have hf := FIN.out _ KZ.out
        have HF := Lib.hid hf
        have hy := (World.putObj_heap_other (o := .deferred none) HRD.out).trans HZ.out
        obtain ⟨y0, y1, y2, y3, y4⟩ := dl_cells hy
        clear KZ0 HZ0 KZ1 HZ1 r0 r1 r2 r3 r4 f0 f1 f2 f3 f4 c0 c1 c2 c3 c4 hf hy FIN KZ HZ
        have E1 : Hid (j1 = ⟨s.index, t.index, t.term, N, t.sess⟩) := Lib.hid (by rw [HJ1.out, ← HN.out])
        have E2 : Hid (j2 = 0) := HJ2
        go_wp2
        refine ⟨by simp, .inl ⟨_, _, rfl, run_takeDeferred HF.out.2.1, ?_⟩⟩
        refine ⟨.tuple #[.agg #[.int .i64 s.index, .int .i64 t.index, .int .i64 t.term, .slice P m pc, .slice SB t.sess.length sc], .int .i64 0], by simp [results, Tryz.results6, go_sem, Tryz.isAgg31, Tryz.sizeOf31, y0, y1, y2, y3, y4], ?_⟩
        have e1 := E1.out
        have e2 := E2.out
        have e3 := HMM.out
        have e4 := HPC.out
        subst e1 e2 e3
        exact ⟨P, pc, SB, sc, rfl, ⟨HF.out.2.2.1, HF.out.2.2.2, e4, HSC.out⟩, HF.out.1⟩
    case stop =>
      rintro D cd pre O V _ _ h _
      exact h.elim
theorem dbetween_any : BetweenC := fun F G s A c B d t A' c' B' d' w h h' rs rt => by
  by_cases e : t.index < s.index ∨ t.term < s.term
  · have hJ : betweenV s t = (noDelta, 8) := by unfold betweenV; rw [if_pos e]
    rw [hJ]
    exact (dbetween_no s t A c B d A' c' B' d' w e).mono fun en w' ⟨h1, h2⟩ => ⟨none, 0, none, 0, h1, ⟨Lies.nil _ _ _, Lies.nil _ _ _, Nat.le_refl _, Nat.le_refl _⟩, h2⟩
  · exact dbetween_yes F G s t A c B d A' c' B' d' w h h' rs rt (fun h => e (.inl h)) (fun h => e (.inr h))
end Go.Proofs.YthmjjhjblokjeaaGreat
