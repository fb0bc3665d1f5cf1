/-
  The contract of edits.Replay. No statement is proved here.
-/
import Derived.Test.YtjijdkdpmbfdmaaEdtRep
import Derived.Test.YtjijdkdpmbfdmaaE10Read
import Derived.Test.YtjijdkdpmbfdmaaFrmK
import Derived.Test.YtjijdkdpmbfdmaaRunK
import Derived.Shelf.Abstract
import Derived.Sort.CutIn
namespace Go.Proofs.Ytjijdkdpmbfdmaa
open Go.RowKit Go.Shelf Tot
attribute [local go_sem] Oper.semAt_some

theorem cell_steady {m : Nat} {w w' : World} {p : Addr} {v : Value} (h : w.cell? p = some v) (s : Steady m w w') : w'.cell? p = some v := by
  refine s.cell h (fun hh => ?_)
  obtain ⟨_, o, ho, hc⟩ := hh
  unfold World.cell? at h
  rw [ho] at h
  cases o <;> simp_all [Obj.isCells]
theorem Lies.steady {m : Nat} {w w' : World} {F : Nat → Prop} {a : Option Addr} {xs : List Value} (h : Lies w F a xs) (s : Steady m w w') : Lies w' F a xs := fun hx => by
  obtain ⟨ad, e, hf, hc⟩ := h hx
  exact ⟨ad, e, hf, fun j u hu => cell_steady (hc j u hu) s⟩
theorem RowsL.steady {m mp B : Nat} {w w' : World} {X : Nat → Prop} {N : Fls} (h : RowsL w X mp N B) (hm : mp < m) (s : Steady m w w') : RowsL w' X mp N B := by
  obtain ⟨M, h1, h2, h3, h4⟩ := h
  exact ⟨M, h1.keep s (fun h => by have := h.1; omega), h2, fun j => ⟨(h3 j).len, (h3 j).cap, (h3 j).lies.steady s⟩, h4⟩
theorem Ls.steady {m d mp B : Nat} {w w' : World} {N : Fls} {f : Int} (h : Ls w d mp N f B) (hm : mp < m) (s : Steady m w w') : Ls w' d mp N f B := ⟨blk_steady h.blk s, h.rows.steady hm s⟩
theorem kf10 {S : Nat → Prop} {m : Nat} {W W' : World} (h : Kept S W W') (hS : ∀ k, S k → k < m ∨ ∃ cs t fr, W.heap[k]? = some (.cells cs t fr)) : KeepsFrom m W W' := by
  refine ⟨h.size, fun k o hm hk ho => h.blk hk (fun hs => ?_)⟩
  rcases hS k hs with h1 | ⟨cs, t, fr, hc⟩
  · omega
  · rw [hc] at hk
    injection hk with hk
    subst hk
    cases ho
theorem held10 {S : Nat → Prop} {Bb : Nat} {W W' : World} (h : Kept S W W') (hS : ∀ k, S k → k ≠ Bb ∧ ∀ cs t fr, W.heap[k]? = some (.cells cs t fr) → t ≠ 5 ∧ t ≠ 104) : Held Bb W W' := by
  refine ⟨h.size, fun k cs t fr hk hor => h.blk hk (fun hs => ?_)⟩
  obtain ⟨hb, hc⟩ := hS k hs
  obtain ⟨h1, h2⟩ := hc cs t fr hk
  rcases hor with e | e | e
  · exact hb e
  · exact h1 e
  · exact h2 e

/-- What Replay has gathered. -/
structure GathR (w : World) (m R d mp L : Nat) (pre : List Item) (W : World) : Prop where
  rows : ∃ (N : Fls) (f : Int), replV [] 0 (rowsOf pre) = some (N, f) ∧ Good N ∧ Ls W d mp N f (joined (rowsOf pre)).length
  end_ : W.heap[L + 1]? = some (.cells #[.int .i64 ((joined (rowsOf pre)).length : Int)] 3 (0, 0))
  box : W.heap[L]? = some (.cells #[.pointer (some ⟨d, 0, none⟩)] 68 (0, 0))
  r0 : W.heap[R]? = some (.cells #[.slice none 0 0, .int .i64 0] 26 (0, 0))
  r1 : W.heap[R + 1]? = some (.cells #[.int .i64 0] 3 (0, 0))
  r2 : W.heap[R + 2]? = some (.cells #[.int .i64 0] 38 (0, 0))
  kept : Kept noBlock w W
  size : m ≤ W.heap.size
theorem GathR.steady {w : World} {m R d mp L : Nat} {pre : List Item} {A B : World} (hm : w.heap.size ≤ m) (hmp : mp < m) (h : GathR w m R d mp L pre A) (s : Steady m A B) : GathR w m R d mp L pre B := by
  obtain ⟨⟨N, f, h1, h2, h3⟩, q1, q2, q3, q4, q5, q6, q7⟩ := h
  exact ⟨⟨N, f, h1, h2, h3.steady hmp s⟩, blk_steady q1 s, blk_steady q2 s, blk_steady q3 s, blk_steady q4 s, blk_steady q5 s, q6.trans s (fun i hi h => absurd h.1 (by omega)), Nat.le_trans q7 s.size⟩
/-- A frame that is no edit, or one that can't be done. -/
structure BadR (w : World) (m R : Nat) (b : List UInt8) (pre : List Item) (W : World) : Prop where
  none_ : replV [] 0 (rowsOf pre) = none
  is : ∃ t, Parted b (rowsOf pre) t
  r0 : W.heap[R]? = some (.cells #[.slice none 0 0, .int .i64 0] 26 (0, 0))
  r1 : W.heap[R + 1]? = some (.cells #[.int .i64 0] 3 (0, 0))
  r2 : W.heap[R + 2]? = some (.cells #[.int .i64 10] 38 (0, 0))
  kept : Kept noBlock w W
theorem BadR.steady {w : World} {m R : Nat} {b : List UInt8} {pre : List Item} {A B : World} (hm : w.heap.size ≤ m) (h : BadR w m R b pre A) (s : Steady m A B) : BadR w m R b pre B :=
  ⟨h.none_, h.is, blk_steady h.r0 s, blk_steady h.r1 s, blk_steady h.r2 s, h.kept.trans s (fun i hi h => absurd h.1 (by omega))⟩
theorem BadR.whole {w : World} {m R : Nat} {b : List UInt8} {pre : List Item} {W : World} (h : BadR w m R b pre W) {rs : List (List UInt8)} {t : List UInt8} (hp : Parted b rs t) (ht : (rd t).2.2 ≠ 0) : replR rs = (([], 0), (0, 10)) := by
  obtain ⟨t', ht'⟩ := h.is
  obtain ⟨more, e, _⟩ := Parted.first ht hp ht'
  unfold replR
  rw [e, replV_append, h.none_]
  rfl

theorem res4 {w v : World} {R : Nat} {y0 y1 y2 y3 x0 x1 x2 x3 : Value} {t0 t1 t2 : TypeId} (hv : v = (((w.setCell ⟨R, 0, none⟩ x0).setCell ⟨R, 1, none⟩ x1).setCell ⟨R + 1, 0, none⟩ x2).setCell ⟨R + 2, 0, none⟩ x3) (h0 : w.heap[R]? = some (.cells #[y0, y1] t0 (0, 0))) (h1 : w.heap[R + 1]? = some (.cells #[y2] t1 (0, 0))) (h2 : w.heap[R + 2]? = some (.cells #[y3] t2 (0, 0))) :
    (v.heap[R]? = some (.cells #[x0, x1] t0 (0, 0)) ∧ v.heap[R + 1]? = some (.cells #[x2] t1 (0, 0)) ∧ v.heap[R + 2]? = some (.cells #[x3] t2 (0, 0))) ∧ Kept (fun i => R ≤ i ∧ i ≤ R + 2) w v := by
  subst hv
  obtain ⟨a0, k0⟩ := two_set (x0 := x0) (x1 := x1) h0
  have b1 := k0.blk h1 (by omega)
  have b2 := k0.blk h2 (by omega)
  generalize (w.setCell ⟨R, 0, none⟩ x0).setCell ⟨R, 1, none⟩ x1 = u at a0 k0 b1 b2 ⊢
  have k1 := Kept.setCell (S := fun i => i = R + 1) u (p := ⟨R + 1, 0, none⟩) rfl x2
  have c1 := heap_setCell_same u (R + 1) 0 _ t1 x2 b1
  have c0 := k1.blk a0 (by omega)
  have c2 := k1.blk b2 (by omega)
  generalize u.setCell ⟨R + 1, 0, none⟩ x2 = u2 at k1 c0 c1 c2 ⊢
  have k2 := Kept.setCell (S := fun i => i = R + 2) u2 (p := ⟨R + 2, 0, none⟩) rfl x3
  have d2 := heap_setCell_same u2 (R + 2) 0 _ t2 x3 c2
  refine ⟨⟨k2.blk c0 (by omega), k2.blk (by simpa using c1) (by omega), by simpa using d2⟩, ?_⟩
  exact ((k0.mono (fun i _ h => by omega)).step (k1.mono (fun i _ h => by omega))).step (k2.mono (fun i _ h => by omega))
theorem four_facts {U : World} {R L : Nat} {y0 y1 y2 y3 y5 y6 : Value} {t0 t1 t2 t5 t6 : TypeId} (hRL : R + 3 ≤ L) (h0 : U.heap[R]? = some (.cells #[y0, y1] t0 (0, 0))) (h1 : U.heap[R + 1]? = some (.cells #[y2] t1 (0, 0))) (h2 : U.heap[R + 2]? = some (.cells #[y3] t2 (0, 0)))
    (h5 : U.heap[L]? = some (.cells #[y5] t5 (0, 0))) (h6 : U.heap[L + 1]? = some (.cells #[y6] t6 (0, 0))) (x0 x1 x2 x3 : Value) :
    ((U.cell? ⟨R, 0, none⟩ = some y0 ∧ U.cell? ⟨R, 1, none⟩ = some y1) ∧ U.frozen? ⟨R, 0, none⟩ = false ∧ U.frozen? ⟨R, 1, none⟩ = false) ∧
    ((((U.setCell ⟨R, 0, none⟩ x0).setCell ⟨R, 1, none⟩ x1).cell? ⟨L, 0, none⟩ = some y5 ∧ ((U.setCell ⟨R, 0, none⟩ x0).setCell ⟨R, 1, none⟩ x1).cell? ⟨L + 1, 0, none⟩ = some y6) ∧ ((U.setCell ⟨R, 0, none⟩ x0).setCell ⟨R, 1, none⟩ x1).cell? ⟨R + 1, 0, none⟩ = some y2 ∧ ((U.setCell ⟨R, 0, none⟩ x0).setCell ⟨R, 1, none⟩ x1).frozen? ⟨R + 1, 0, none⟩ = false) ∧
    (((((U.setCell ⟨R, 0, none⟩ x0).setCell ⟨R, 1, none⟩ x1).setCell ⟨R + 1, 0, none⟩ x2).cell? ⟨L, 0, none⟩ = some y5 ∧ (((U.setCell ⟨R, 0, none⟩ x0).setCell ⟨R, 1, none⟩ x1).setCell ⟨R + 1, 0, none⟩ x2).cell? ⟨L + 1, 0, none⟩ = some y6) ∧ (((U.setCell ⟨R, 0, none⟩ x0).setCell ⟨R, 1, none⟩ x1).setCell ⟨R + 1, 0, none⟩ x2).cell? ⟨R + 2, 0, none⟩ = some y3 ∧ (((U.setCell ⟨R, 0, none⟩ x0).setCell ⟨R, 1, none⟩ x1).setCell ⟨R + 1, 0, none⟩ x2).frozen? ⟨R + 2, 0, none⟩ = false) ∧
    (((((U.setCell ⟨R, 0, none⟩ x0).setCell ⟨R, 1, none⟩ x1).setCell ⟨R + 1, 0, none⟩ x2).setCell ⟨R + 1 + 1, 0, none⟩ x3).cell? ⟨L, 0, none⟩ = some y5 ∧ ((((U.setCell ⟨R, 0, none⟩ x0).setCell ⟨R, 1, none⟩ x1).setCell ⟨R + 1, 0, none⟩ x2).setCell ⟨R + 1 + 1, 0, none⟩ x3).cell? ⟨L + 1, 0, none⟩ = some y6) := by
  refine ⟨⟨two_cells h0, frozen_of_row _ _ _ _ _ h0, frozen_of_row _ _ _ _ _ h0⟩, ?_⟩
  obtain ⟨_, k0⟩ := two_set (x0 := x0) (x1 := x1) h0
  have b1 := k0.blk h1 (by omega)
  have b2 := k0.blk h2 (by omega)
  have b5 := k0.blk h5 (by omega)
  have b6 := k0.blk h6 (by omega)
  generalize (U.setCell ⟨R, 0, none⟩ x0).setCell ⟨R, 1, none⟩ x1 = u at b1 b2 b5 b6 ⊢
  refine ⟨⟨⟨cell_of_row _ _ _ _ _ _ b5, cell_of_row _ _ _ _ _ _ b6⟩, cell_of_row _ _ _ _ _ _ b1, frozen_of_row _ _ _ _ _ b1⟩, ?_⟩
  have k1 := Kept.setCell (S := fun i => i = R + 1) u (p := ⟨R + 1, 0, none⟩) rfl x2
  have c2 := k1.blk b2 (by omega)
  have c5 := k1.blk b5 (by omega)
  have c6 := k1.blk b6 (by omega)
  generalize u.setCell ⟨R + 1, 0, none⟩ x2 = u2 at c2 c5 c6 ⊢
  refine ⟨⟨⟨cell_of_row _ _ _ _ _ _ c5, cell_of_row _ _ _ _ _ _ c6⟩, cell_of_row _ _ _ _ _ _ c2, frozen_of_row _ _ _ _ _ c2⟩, ?_⟩
  have k2 := Kept.setCell (S := fun i => i = R + 1 + 1) u2 (p := ⟨R + 1 + 1, 0, none⟩) rfl x3
  exact ⟨cell_of_row _ _ _ _ _ _ (k2.blk c5 (by omega)), cell_of_row _ _ _ _ _ _ (k2.blk c6 (by omega))⟩
/-- A list's files lie in no block of one cell. -/
theorem RowsL.apart {w : World} {X : Nat → Prop} {mp B g : Nat} {N : Fls} {y : Value} {t : TypeId} {fr : Nat × Nat} (h : RowsL w X mp N B) (hg : w.heap[g]? = some (.cells #[y] t fr)) : RowsL w (fun i => X i ∧ i ≠ g) mp N B := by
  obtain ⟨M, h1, h2, h3, h4⟩ := h
  refine ⟨M, h1, h2, fun j => ⟨(h3 j).len, (h3 j).cap, ?_⟩, h4⟩
  intro hx
  obtain ⟨b, o, e, hF, hc⟩ := (h3 j).lies.norm hx
  refine ⟨⟨b, o, none⟩, e, ⟨hF, ?_⟩, fun q u hu => by rw [add_plain]; exact hc q u hu⟩
  rintro rfl
  cases hr : Srt.look N j with
  | none => rw [hr] at hx; exact hx rfl
  | some r =>
    rw [hr] at hc
    have c1 := hc 1 (.int .i64 r.kind) rfl
    rw [cell_of_row _ _ _ _ _ _ hg] at c1
    simp at c1

set_option maxRecDepth 100000 in
set_option maxHeartbeats 1000000 in
theorem replay_any (F : Nat → Prop) (a : Option Addr) (n c : Nat) (l : List UInt8) (w : World) (h : Lies w F a (l.map bv)) (hl : l.length = n) (hn : n ≤ 1000000000000) (rs : List (List UInt8)) (t : List UInt8) (hp : Parted l rs t) (ht : (rd t).2.2 ≠ 0) :
    Calls Try.prog 20 #[.slice a n c] w fun e w' => ∃ (A : Option Addr) (ca : Nat), e = .returned (.tuple #[setv (replR rs).1.1 (replR rs).1.2 A ca, .int .i64 ((replR rs).2.1 : Int), .int .i64 (replR rs).2.2]) ∧
      w'.ownsRow w.heap.size 31 4 (.slice A (replR rs).1.1.length ca) (replR rs).1.1.length (refCells ((replR rs).1.1.map (·.2))) ∧ Kept noBlock w w' := by
  obtain ⟨w1, hw1⟩ : ∃ w1, w1 = ((w.alloc (.cells #[.slice none 0 0, .int .i64 0] 26)).alloc (.cells #[.int .i64 0] 3)).alloc (.cells #[.int .i64 0] 38) := ⟨_, rfl⟩
  have k1 : Kept noBlock w w1 := by rw [hw1]; exact ((Kept.alloc _ _ _).step (Kept.alloc _ _ _)).step (Kept.alloc _ _ _)
  have z1 : w1.heap.size = w.heap.size + 3 := by rw [hw1]; simp
  have r0 : w1.heap[w.heap.size]? = some (.cells #[.slice none 0 0, .int .i64 0] 26 (0, 0)) := by rw [hw1]; exact ((Kept.alloc noBlock _ _).step (Kept.alloc _ _ _)).blk (heap_alloc_new w _) (fun h => h)
  have r1 : w1.heap[w.heap.size + 1]? = some (.cells #[.int .i64 0] 3 (0, 0)) := by
    rw [hw1]
    exact (Kept.alloc noBlock _ _).blk (by have := heap_alloc_new (w.alloc (.cells #[.slice none 0 0, .int .i64 0] 26)) (.cells #[.int .i64 0] 3); simpa using this) (fun h => h)
  have r2 : w1.heap[w.heap.size + 2]? = some (.cells #[.int .i64 0] 38 (0, 0)) := by
    rw [hw1]
    have := heap_alloc_new ((w.alloc (.cells #[.slice none 0 0, .int .i64 0] 26)).alloc (.cells #[.int .i64 0] 3)) (.cells #[.int .i64 0] 38)
    simpa using this
  have LO := Lib.hid (listof_any (fun _ => True) [] none 0 0 0 w1 (Lies.nil _ _ _) rfl (Nat.le_refl _) Good.nil (by omega))
  have HL := Lib.hid hl
  have HW := Lib.hid h
  have K1 := Lib.hid k1
  have R0 := Lib.hid r0
  have R1 := Lib.hid r1
  have R2 := Lib.hid r2
  have Z1 := Lib.hid z1
  have HP := Lib.hid hp
  have HT := Lib.hid ht
  clear hl h k1 r0 r1 r2 z1 hp ht
  refine (callsIn_wide (n := 3)).1 ?_
  refine callsIn_of_wp_marks Try.func20 rfl trivial ?_ rfl
  simp only [Try.ntmps20, List.size_toArray, List.length_cons, List.length_nil, Nat.reduceAdd, Nat.reduceSub, Array.replicate_succ, Array.replicate_zero, List.push_toArray, List.append_toArray, List.nil_append, List.cons_append]
  refine wpIn_wide.2 ?_
  go_upto_region 1 with (fail)
  rw [← hw1]
  clear hw1
  go_wp2_with fail
  refine LO.out.mono ?_
  rintro e w2 ⟨d, mp, rfl, hls, hd, hmp, k2⟩
  have kb : Kept noBlock w2 ((w2.alloc (.cells #[.pointer (some ⟨d, 0, none⟩)] 68)).alloc (.cells #[.int .i64 0] 3)) := (Kept.alloc _ _ _).step (Kept.alloc _ _ _)
  have hb0 : ((w2.alloc (.cells #[.pointer (some ⟨d, 0, none⟩)] 68)).alloc (.cells #[.int .i64 0] 3)).heap[w2.heap.size]? = some (.cells #[.pointer (some ⟨d, 0, none⟩)] 68 (0, 0)) := (Kept.alloc noBlock _ _).blk (heap_alloc_new w2 _) (fun h => h)
  have hb1 : ((w2.alloc (.cells #[.pointer (some ⟨d, 0, none⟩)] 68)).alloc (.cells #[.int .i64 0] 3)).heap[w2.heap.size + 1]? = some (.cells #[.int .i64 0] 3 (0, 0)) := by
    have := heap_alloc_new (w2.alloc (.cells #[.pointer (some ⟨d, 0, none⟩)] 68)) (.cells #[.int .i64 0] 3)
    simpa using this
  have K2 := Lib.hid (K1.out.step k2)
  have R02 := Lib.hid (k2.blk R0.out (fun h => h))
  have R12 := Lib.hid (k2.blk R1.out (fun h => h))
  have R22 := Lib.hid (k2.blk R2.out (fun h => h))
  have ZD : Hid (w.heap.size + 3 ≤ d ∧ w.heap.size + 3 ≤ mp ∧ d < w2.heap.size ∧ mp < w2.heap.size) := ⟨by have := Z1.out; omega, by have := Z1.out; omega, lt_of_blk hls.blk, hls.rows.lt⟩
  have LS := Lib.hid hls
  clear hls hd hmp k2 R0 R1 R2 LO K1 Z1
  go_upto_region 3 with (fail)
  generalize ((w2.alloc (.cells #[.pointer (some ⟨d, 0, none⟩)] 68)).alloc (.cells #[.int .i64 0] 3)) = u0 at kb hb0 hb1 ⊢
  obtain ⟨L, hL⟩ : ∃ L, L = w2.heap.size := ⟨_, rfl⟩
  rw [← hL] at hb0 hb1 ZD ⊢
  go_wp2_with fail
  refine (all_any F a n c l u0 (HW.out.keep (K2.out.step kb) (fun _ _ h => h)) HL.out (by omega)).mono ?_
  rintro e w3 ⟨Bb, Ab, cb, rfl, hBb, hbox, hown, k3⟩
  obtain ⟨R, hR⟩ : ∃ R, R = w.heap.size := ⟨_, rfl⟩
  rw [← hR] at R02 R12 R22 ZD ⊢
  have k03 := kb.step k3
  have HRW : Hid (w.heap.size ≤ R) := by unfold Hid; omega
  have G0 : Hid (GathR w w3.heap.size R d mp L [] w3) := by
    unfold Hid
    exact ⟨⟨[], 0, rfl, Good.nil, LS.out.keep k03⟩, k3.blk hb1 (fun h => h), k3.blk hb0 (fun h => h), k03.blk R02.out (fun h => h), k03.blk R12.out (fun h => h), k03.blk R22.out (fun h => h), K2.out.step k03, Nat.le_refl _⟩
  have hBm : Bb < w3.heap.size := lt_of_blk hbox
  have hLB : L + 2 ≤ Bb := by have := lt_of_blk hb1; omega
  have hwm : w.heap.size ≤ w3.heap.size := (K2.out.step k03).size
  have HBX := Lib.hid hbox
  have HOB := Lib.hid (own_base (base' := 0) hown (fun _ _ => Nat.zero_le _))
  have HRE := Lib.hid hR
  clear hbox hown k3 k03 kb hb0 hb1 hBb R02 R12 R22 K2 hL LS hR
  have hmp3 : mp < w3.heap.size := by have := ZD.out; omega
  go_wp2_with fail
  refine (wpIn_wide (n := 3)).1 ?_
  refine wpIn_goes rfl (by omega) (gf := 54) (lb := #[.pointer (some ⟨Bb, 0, none⟩)]) rfl trivial (enters_of Try.func54 (by kernel_rfl) rfl) (all1_goes Bb Ab n cb l w3 HBX.out HOB.out HL.out (by omega) 2) (Kept.refl _ _) (fun _ => rfl)
    Held.trans Held.putObj Handed.steady (fun pre W => Hid (GathR w w3.heap.size R d mp L pre W)) (fun cd pre W => cd = .ret ∧ Hid (BadR w w3.heap.size R l pre W)) (fun s A B h k => Lib.hid (h.out.steady hwm hmp3 k)) (fun cd s A B h k => ⟨h.1, Lib.hid (h.2.out.steady hwm k)⟩) G0
    (fun x => { tmps := #[Value.slice a n c, undef, Value.pointer (some ⟨R, 0, none⟩), Value.pointer (some ⟨R + 1, 0, none⟩), Value.pointer (some ⟨R + 1 + 1, 0, none⟩), Value.pointer (some ⟨L, 0, none⟩), Value.pointer (some ⟨L + 1, 0, none⟩), .int .i64 (x.at_ : Int), Value.slice x.A x.row.length x.c, undef, undef, Value.agg #[Value.slice none 0 0, Value.int IntKind.i64 0], Value.pointer (some ⟨d, 0, none⟩), Value.slice a n c, Value.func (Fn.func 54) #[] #[Value.pointer (some ⟨Bb, 0, none⟩)], .int .i64 (x.at_ : Int), Value.slice x.A x.row.length x.c, undef, undef, undef, undef, undef, undef, undef, undef, undef, undef, undef, undef, undef, undef, undef, undef, undef, undef], defers := [] }) ?assign ?body ?done ?stop
  case assign =>
    intro l x W K hK
    dsimp only [Item.enc]
    gi_wp2
    exact hK
  case body =>
    intro l0 pre x W hG0 hpx
    have HG := Lib.hid hG0.out
    clear hG0
    dsimp only
    obtain ⟨tp, htp⟩ := hpx.is
    have hfit : x.row.length ≤ 16384 := htp.fit x.row (by rw [rowsOf_snoc]; simp)
    obtain ⟨hb1, hb2, hb3⟩ := rdEdit_bound x.row x.row.length rfl (by omega)
    have RE := Lib.hid (eread_any (fun _ => True) x.A x.row.length x.c x.row W (Lies.of_own hpx.there (fun _ _ => trivial)) rfl (by omega) hb1 hb2 hb3)
    have HPX := Lib.hid hpx
    have HTP := Lib.hid htp
    have HFIT := Lib.hid hfit
    obtain ⟨q, hq⟩ : ∃ q, q = x.row.length := ⟨_, rfl⟩
    rw [← hq] at RE ⊢
    clear hpx htp hb1 hb2 hb3 hfit hq
    obtain ⟨ge, hge⟩ : ∃ ge, ge = gotE x.row := ⟨_, rfl⟩
    obtain ⟨gb, hgb⟩ : ∃ gb, gb = gotEB x.row := ⟨_, rfl⟩
    rw [← hge, ← hgb] at RE
    unfold evl at RE
    have HGE := Lib.hid hge
    have HGB := Lib.hid hgb
    clear hge hgb
    gi_wp2_with fail
    refine ⟨trivial, ?_⟩
    refine (CallsIn.inRound l0 (callsIn_wide.2 RE.out)).mono ?_
    rintro e W2 ⟨A2, ca2, D2, cb2, rfl, ev2, k2⟩
    have K2' := Lib.hid k2
    have EV2 := Lib.hid ev2
    clear k2 RE ev2
    gi_upto_region 7 with (fail)
    obtain ⟨N, f, hrep, hgood, hls⟩ := HG.out.rows
    have HREP := Lib.hid hrep
    have HGOOD := Lib.hid hgood
    have HLS := Lib.hid hls
    have ka := Kept.alloc noBlock W2 (.cells #[.slice A2 ge.add.length ca2, .slice D2 ge.drop.length cb2, .int .i64 ge.floor] 36)
    have hx := heap_alloc_new W2 (.cells #[.slice A2 ge.add.length ca2, .slice D2 ge.drop.length cb2, .int .i64 ge.floor] 36)
    have EV3 := Lib.hid (EV2.out.kept ka)
    obtain ⟨X, hX⟩ : ∃ X, X = W2.heap.size := ⟨_, rfl⟩
    rw [← hX] at hx ⊢
    generalize W2.alloc (.cells #[.slice A2 ge.add.length ca2, .slice D2 ge.drop.length cb2, .int .i64 ge.floor] 36) = W3 at ka hx EV3 ⊢
    have K3' := Lib.hid (K2'.out.step ka)
    obtain ⟨x0, x1, x2⟩ := ed_cells hx
    have hdW := lt_of_blk hls.blk
    have hmW := hls.rows.lt
    clear hrep hgood hls ka hx hX K2' EV2
    cases gb with
    | false =>
      have KV : Hid (Kept (fun i => i = d ∨ i = mp) W W3) := K3'.out.to
      clear x0 x1 x2
      gi_wp2_with fail
      refine ⟨trivial, ?_⟩
      have DD0 := Lib.hid (KV.out.blk HG.out.r0 (fun h => by have := ZD.out; omega))
      have DD1 := Lib.hid (KV.out.blk HG.out.r1 (fun h => by have := ZD.out; omega))
      have DD2 := Lib.hid (KV.out.blk HG.out.r2 (fun h => by have := ZD.out; omega))
      obtain ⟨c0, c1⟩ := two_cells DD0.out
      have c2 : W3.cell? ⟨R + 1, 0, none⟩ = some (.int .i64 0) := cell_of_row _ _ _ _ _ _ DD1.out
      have c3 : W3.cell? ⟨R + 2, 0, none⟩ = some (.int .i64 0) := cell_of_row _ _ _ _ _ _ DD2.out
      have f0 : W3.frozen? ⟨R, 0, none⟩ = false := frozen_of_row _ _ _ _ _ DD0.out
      have f1 : W3.frozen? ⟨R, 1, none⟩ = false := frozen_of_row _ _ _ _ _ DD0.out
      have f2 : W3.frozen? ⟨R + 1, 0, none⟩ = false := frozen_of_row _ _ _ _ _ DD1.out
      have f3 : W3.frozen? ⟨R + 2, 0, none⟩ = false := frozen_of_row _ _ _ _ _ DD2.out
      gi_wp2
      obtain ⟨v, hv⟩ : ∃ v, v = (((W3.setCell ⟨R, 0, none⟩ (.slice none 0 0)).setCell ⟨R, 1, none⟩ (.int .i64 0)).setCell ⟨R + 1, 0, none⟩ (.int .i64 0)).setCell ⟨R + 2, 0, none⟩ (.int .i64 10) := ⟨_, rfl⟩
      obtain ⟨⟨b0, b1, b2⟩, kz⟩ := res4 hv DD0.out DD1.out DD2.out
      have kk : Kept (fun i => (i = d ∨ i = mp) ∨ (R ≤ i ∧ i ≤ R + 2)) W v := (KV.out.mono (fun _ _ h => .inl h)).step (kz.mono (fun _ _ h => .inr h))
      change ownPostG _ _ _ _ _ _ _ _ ((((W3.setCell ⟨R, 0, none⟩ (.slice none 0 0)).setCell ⟨R, 1, none⟩ (.int .i64 0)).setCell ⟨R + 1, 0, none⟩ (.int .i64 0)).setCell ⟨R + 2, 0, none⟩ (.int .i64 10))
      rw [← hv]
      refine ⟨kf10 kk (fun i hi => .inl (by have := ZD.out; omega)), rfl, Lib.hid ⟨?_, ⟨tp, HTP.out⟩, b0, b1, b2, HG.out.kept.trans kk (fun i hi h => by have := ZD.out; have := HRW.out; omega)⟩⟩
      rw [rowsOf_snoc, replV_snoc, HREP.out]
      simp only [Option.bind_some]
      unfold replS
      rw [if_neg (by rw [← HGB.out]; simp)]
    | true =>
      obtain ⟨hfa, hfk⟩ := rd_fits (r := x.row) HGB.out.symm HFIT.out
      rw [← HGE.out] at hfa hfk
      have hjl := HTP.out.le
      have hjs : (joined (rowsOf (pre ++ [x]))).length = (joined (rowsOf pre)).length + (x.row.length + 9) := by rw [rowsOf_snoc, joined_snoc, List.length_append, frm_length]
      have hlen := HL.out
      have DO := Lib.hid (ldo_any (fun i => W.heap.size ≤ i) ge A2 ca2 D2 cb2 d mp N f _ W3 (HLS.out.keep K3'.out) HGOOD.out.up (EV3.out.mono (fun i hi => hi.1)) (fun i hi => ⟨by omega, by omega⟩) (by omega) (by have := HFIT.out; omega) hfk)
      have HFA := Lib.hid hfa
      have HJS := Lib.hid hjs
      unfold evl at DO
      obtain ⟨r, hr⟩ : ∃ r, r = (doE N f ge).2 := ⟨_, rfl⟩
      rw [← hr] at DO
      have HR := Lib.hid hr
      have cL : W3.cell? ⟨L, 0, none⟩ = some (.pointer (some ⟨d, 0, none⟩)) := cell_of_row _ _ _ _ _ _ (K3'.out.blk HG.out.box (fun h => h))
      clear hfa hfk hjl hjs hlen hr
      gi_wp2_with fail
      refine ⟨trivial, ?_⟩
      refine (CallsIn.inRound l0 (callsIn_wide.2 DO.out)).mono ?_
      rintro e W4 ⟨rfl, k4, hres⟩
      have KV : Hid (Kept (fun i => i = d ∨ i = mp) W W4) := K3'.out.to.step k4
      have HRES := Lib.hid hres
      clear x0 x1 x2 cL k4 hres DO
      by_cases hr0 : r = 0
      · subst hr0
        have hls4 := HRES.out rfl
        have hb4 := KV.out.blk HG.out.end_ (fun h => by have := ZD.out; omega)
        have c4 : W4.cell? ⟨L + 1, 0, none⟩ = some (.int .i64 ((joined (rowsOf pre)).length : Int)) := cell_of_row _ _ _ _ _ _ hb4
        have f4 : W4.frozen? ⟨L + 1, 0, none⟩ = false := frozen_of_row _ _ _ _ _ hb4
        have ks : Kept (fun i => i = L + 1) W4 (W4.setCell ⟨L + 1, 0, none⟩ (.int .i64 (x.at_ : Int))) := Kept.setCell W4 (by rfl) _
        have hz := heap_setCell_same W4 (L + 1) 0 _ 3 (.int .i64 (x.at_ : Int)) hb4
        have kk : Kept (fun i => (i = d ∨ i = mp) ∨ i = L + 1) W (W4.setCell ⟨L + 1, 0, none⟩ (.int .i64 (x.at_ : Int))) := (KV.out.mono (fun _ _ h => .inl h)).step (ks.mono (fun _ _ h => .inr h))
        have hrows := hls4.rows.apart hb4
        have LS5 : Ls (W4.setCell ⟨L + 1, 0, none⟩ (.int .i64 (x.at_ : Int))) d mp (doE N f ge).1 ge.floor (joined (rowsOf (pre ++ [x]))).length :=
          ⟨ks.blk hls4.blk (by have := ZD.out; omega), ((hrows.keep ks (by have := ZD.out; omega) (fun i hi e => hi.2 e)).mono (fun _ h => h.1)).more (by have := HFA.out; have := HJS.out; omega)⟩
        have GN : Hid (KeepsFrom w3.heap.size W (W4.setCell ⟨L + 1, 0, none⟩ (.int .i64 (x.at_ : Int))) ∧ Held Bb W (W4.setCell ⟨L + 1, 0, none⟩ (.int .i64 (x.at_ : Int))) ∧ GathR w w3.heap.size R d mp L (pre ++ [x]) (W4.setCell ⟨L + 1, 0, none⟩ (.int .i64 (x.at_ : Int)))) := by
          refine ⟨kf10 kk (fun i hi => .inl (by have := ZD.out; omega)), held10 kk (fun i hi => ⟨by have := ZD.out; omega, fun cs t fr hc => ?_⟩), ⟨⟨_, _, ?_, doE_good HGOOD.out, LS5⟩, ?_, ?_, ?_, ?_, ?_, ?_, ?_⟩⟩
          · rcases hi with (rfl | rfl) | rfl
            · rw [HLS.out.blk] at hc
              injection hc with hc
              injection hc with _ hc
              subst hc
              exact ⟨by decide, by decide⟩
            · exact absurd rfl (HLS.out.rows.ne hc)
            · rw [HG.out.end_] at hc
              injection hc with hc
              injection hc with _ hc
              subst hc
              exact ⟨by decide, by decide⟩
          · rw [rowsOf_snoc, replV_snoc, HREP.out]
            simp only [Option.bind_some]
            unfold replS
            rw [← HGE.out, ← HGB.out, ← HR.out, if_pos ⟨rfl, rfl⟩]
          · rw [← HPX.out.end_]
            simpa using hz
          · exact kk.blk HG.out.box (by have := ZD.out; omega)
          · exact kk.blk HG.out.r0 (by have := ZD.out; omega)
          · exact kk.blk HG.out.r1 (by have := ZD.out; omega)
          · exact kk.blk HG.out.r2 (by have := ZD.out; omega)
          · exact HG.out.kept.trans kk (fun i hi h => by have := ZD.out; have := HRW.out; omega)
          · exact Nat.le_trans HG.out.size kk.size
        clear hls4 hb4 ks hz kk hrows LS5
        gi_wp2
        exact ⟨GN.out.1, GN.out.2.1, Lib.hid GN.out.2.2⟩
      · have hr1 : (r == 0) = false := by simpa using hr0
        have HR0 := Lib.hid hr0
        clear hr0
        have DD0 := Lib.hid (KV.out.blk HG.out.r0 (fun h => by have := ZD.out; omega))
        have DD1 := Lib.hid (KV.out.blk HG.out.r1 (fun h => by have := ZD.out; omega))
        have DD2 := Lib.hid (KV.out.blk HG.out.r2 (fun h => by have := ZD.out; omega))
        obtain ⟨c0, c1⟩ := two_cells DD0.out
        have c2 : W4.cell? ⟨R + 1, 0, none⟩ = some (.int .i64 0) := cell_of_row _ _ _ _ _ _ DD1.out
        have c3 : W4.cell? ⟨R + 2, 0, none⟩ = some (.int .i64 0) := cell_of_row _ _ _ _ _ _ DD2.out
        have f0 : W4.frozen? ⟨R, 0, none⟩ = false := frozen_of_row _ _ _ _ _ DD0.out
        have f1 : W4.frozen? ⟨R, 1, none⟩ = false := frozen_of_row _ _ _ _ _ DD0.out
        have f2 : W4.frozen? ⟨R + 1, 0, none⟩ = false := frozen_of_row _ _ _ _ _ DD1.out
        have f3 : W4.frozen? ⟨R + 2, 0, none⟩ = false := frozen_of_row _ _ _ _ _ DD2.out
        gi_wp2
        obtain ⟨v, hv⟩ : ∃ v, v = (((W4.setCell ⟨R, 0, none⟩ (.slice none 0 0)).setCell ⟨R, 1, none⟩ (.int .i64 0)).setCell ⟨R + 1, 0, none⟩ (.int .i64 0)).setCell ⟨R + 2, 0, none⟩ (.int .i64 10) := ⟨_, rfl⟩
        obtain ⟨⟨b0, b1, b2⟩, kz⟩ := res4 hv DD0.out DD1.out DD2.out
        have kk : Kept (fun i => (i = d ∨ i = mp) ∨ (R ≤ i ∧ i ≤ R + 2)) W v := (KV.out.mono (fun _ _ h => .inl h)).step (kz.mono (fun _ _ h => .inr h))
        change ownPostG _ _ _ _ _ _ _ _ ((((W4.setCell ⟨R, 0, none⟩ (.slice none 0 0)).setCell ⟨R, 1, none⟩ (.int .i64 0)).setCell ⟨R + 1, 0, none⟩ (.int .i64 0)).setCell ⟨R + 2, 0, none⟩ (.int .i64 10))
        rw [← hv]
        refine ⟨kf10 kk (fun i hi => .inl (by have := ZD.out; omega)), rfl, Lib.hid ⟨?_, ⟨tp, HTP.out⟩, b0, b1, b2, HG.out.kept.trans kk (fun i hi h => by have := ZD.out; have := HRW.out; omega)⟩⟩
        rw [rowsOf_snoc, replV_snoc, HREP.out]
        simp only [Option.bind_some]
        unfold replS
        rw [if_neg (fun h => HR0.out (by rw [HR.out, HGE.out]; exact h.2))]
  case done =>
    intro D xs W hD hF hG0 hK
    obtain ⟨t', ht', hbad⟩ := hF
    have HG := Lib.hid hG0.out
    clear hG0
    have hrs := parted_one ht' hbad HP.out HT.out
    obtain ⟨N, f, hrep, hgood, hls⟩ := HG.out.rows
    have hjn := ht'.le
    rw [HL.out] at hjn
    obtain ⟨p, hpe⟩ : ∃ p, p = (joined (rowsOf xs)).length := ⟨_, rfl⟩
    have hres : replR rs = ((N, f), (p, 0)) := by
      rw [← hrs]
      unfold replR
      rw [hrep, hpe]
    rw [← hpe] at hls hjn
    have SE := Lib.hid (fun u (k : Kept noBlock W u) => lset_any d mp N f p u (hls.keep k) hgood.up (by omega))
    have hend := HG.out.end_
    rw [← hpe] at hend
    have D0 := Lib.hid HG.out.r0
    have D1 := Lib.hid HG.out.r1
    have D2 := Lib.hid HG.out.r2
    have D5 := Lib.hid HG.out.box
    have D6 := Lib.hid hend
    have HK := Lib.hid hK
    have HRES := Lib.hid hres
    have hRL : R + 3 ≤ L := by have := ZD.out; omega
    obtain ⟨n', hn'⟩ : ∃ n', n' = N.length := ⟨_, rfl⟩
    rw [← hn'] at SE
    have HN' := Lib.hid hn'
    have CE : Hid (∀ u, Kept noBlock W u → u.cell? ⟨L, 0, none⟩ = some (.pointer (some ⟨d, 0, none⟩)) ∧ u.cell? ⟨L + 1, 0, none⟩ = some (.int .i64 (p : Int))) := fun u k => ⟨cell_of_row _ _ _ _ _ _ (k.blk D5.out (fun h => h)), cell_of_row _ _ _ _ _ _ (k.blk D6.out (fun h => h))⟩
    clear ht' hbad hrs hrep hgood hls hpe hres hend hK hn'
    have KC : Hid (Kept noBlock W W.drew) := Kept.drew _ _
    go_upto_region 10 with (fail)
    refine wp_region_noPanic ?_
    refine wp_region_held_drew (S := fun u => u.cell? ⟨L, 0, none⟩ = some (.pointer (some ⟨d, 0, none⟩)) ∧ u.cell? ⟨L + 1, 0, none⟩ = some (.int .i64 (p : Int))) (by kernel_rfl) (CE.out _ KC.out) (fun hHeld => ?_)
    refine wpAnyH_take (i := 0) (oi := ⟨some 32, Op.load 68 (Operand.tmp 5), 68, _, _, none⟩) (v := ?v0n1k1) rfl (by kernel_rfl) (by kernel_rfl) (by kernel_rfl) (fun _ _ _ h => h) (Or.inl ⟨by rfl, ?y0n1k1⟩) hHeld ?z0n1k1
    case y0n1k1 => intro w hSw; (try dsimp only at hSw); go_simp <;> rfl
    try simp only [Act.put, List.setIfInBounds_toArray, List.set_cons_zero, List.set_cons_succ]
    refine wpAnyH_take (i := 2) (oi := ⟨some 34, Op.load 3 (Operand.tmp 6), 3, _, _, none⟩) (v := ?v2n1k2) rfl (by kernel_rfl) (by kernel_rfl) (by kernel_rfl) (fun _ _ _ h => h) (Or.inl ⟨by rfl, ?y2n1k2⟩) hHeld ?z2n1k2
    case y2n1k2 => intro w hSw; (try dsimp only at hSw); go_simp <;> rfl
    try simp only [Act.put, List.setIfInBounds_toArray, List.set_cons_zero, List.set_cons_succ]
    refine wpAnyH_ready (rs := [1]) (by kernel_rfl) (by simp) ?_
    refine AllReadyH.cons (o := ⟨some 33, Op.call { callee := Callee.value (Operand.func 29), args := #[Operand.tmp 32], argTypes := #[68] }, 26, _, _, none⟩) rfl (fun K hK => ?_) AllReadyH.nil
    go_simp
    refine (SE.out _ KC.out).mono ?_
    rintro en U ⟨A1, c1, rfl, o1, k1⟩
    replace KC := Lib.hid (KC.out.step k1)
    have O1 := Lib.hid (own_base (base' := w3.heap.size) o1 (fun i hi => by have := (o1.lt i hi).1; have := HG.out.size; have := (Kept.drew noBlock W).size; omega))
    clear k1 o1
    dsimp only
    refine hK.out _ _ (CE.out _ KC.out) (fun hHeld => ?_)
    clear hK K
    try simp only [Act.put, List.setIfInBounds_toArray, List.set_cons_zero, List.set_cons_succ]
    refine wpAnyH_ready (rs := [3]) (by kernel_rfl) (by simp) ?_
    refine AllReadyH.cons (o := ⟨none, Op.store 26 (Operand.tmp 2) (Operand.tmp 33), 0, _, _, none⟩) rfl (fun K hK => ?_) AllReadyH.nil
    have E0 := Lib.hid (KC.out.blk D0.out (fun h => h))
    have E1 := Lib.hid (KC.out.blk D1.out (fun h => h))
    have E2 := Lib.hid (KC.out.blk D2.out (fun h => h))
    obtain ⟨⟨⟨g0, g1⟩, g2, g3⟩, ⟨g4, g5, g6⟩, ⟨g7, g8, g9⟩, g10⟩ := four_facts (U := U) hRL E0.out E1.out E2.out (KC.out.blk D5.out (fun h => h)) (KC.out.blk D6.out (fun h => h)) (.slice A1 n' c1) (.int .i64 f) (.int .i64 (p : Int)) (.int .i64 0)
    go_simp
    refine hK.out _ _ g4 (fun hHeld => ?_)
    clear hK K
    try simp only [Act.put, List.setIfInBounds_toArray, List.set_cons_zero, List.set_cons_succ]
    refine wpAnyH_ready (rs := [4]) (by kernel_rfl) (by simp) ?_
    refine AllReadyH.cons (o := ⟨none, Op.store 3 (Operand.tmp 3) (Operand.tmp 34), 0, _, _, none⟩) rfl (fun K hK => ?_) AllReadyH.nil
    go_simp
    refine hK.out _ _ g7 (fun hHeld => ?_)
    clear hK K
    try simp only [Act.put, List.setIfInBounds_toArray, List.set_cons_zero, List.set_cons_succ]
    refine wpAnyH_ready (rs := [5]) (by kernel_rfl) (by simp) ?_
    refine AllReadyH.cons (o := ⟨none, Op.store 38 (Operand.tmp 4) (Operand.const (Value.int IntKind.i64 0)), 0, _, _, none⟩) rfl (fun K hK => ?_) AllReadyH.nil
    go_simp
    refine hK.out _ _ g10 (fun hHeld => ?_)
    clear hK K
    try simp only [Act.put, List.setIfInBounds_toArray, List.set_cons_zero, List.set_cons_succ]
    refine wpAnyH_done (by kernel_rfl) ?_ _
    refine NoPanic.normal ?_
    clear hHeld
    try clear hHeld
    clear g0 g1 g2 g3 g4 g5 g6 g7 g8 g9 g10
    go_wp2
    obtain ⟨v, hv⟩ : ∃ v, v = (((U.setCell ⟨R, 0, none⟩ (.slice A1 n' c1)).setCell ⟨R, 1, none⟩ (.int .i64 f)).setCell ⟨R + 1, 0, none⟩ (.int .i64 (p : Int))).setCell ⟨R + 2, 0, none⟩ (.int .i64 0) := ⟨_, rfl⟩
    change bodyPostM _ _ _ _ _ _ _ ((((U.setCell ⟨R, 0, none⟩ (.slice A1 n' c1)).setCell ⟨R, 1, none⟩ (.int .i64 f)).setCell ⟨R + 1, 0, none⟩ (.int .i64 (p : Int))).setCell ⟨R + 2, 0, none⟩ (.int .i64 0))
    rw [← hv]
    obtain ⟨⟨b0, b1, b2⟩, kz⟩ := res4 hv E0.out E1.out E2.out
    have hvD : v.heap[D]? = some (.deferred (some [])) := kz.blk (KC.out.blk HK.out (fun h => h)) (fun h => by have := h.2; have := ZD.out; omega)
    have st : Steady w3.heap.size v (v.putObj D (.deferred none)) := Steady.putObj _ hD hvD rfl
    obtain ⟨y0, y1⟩ := two_cells (blk_steady b0 st)
    have y2 : (v.putObj D (.deferred none)).cell? ⟨R + 1, 0, none⟩ = some (.int .i64 (p : Int)) := cell_of_row _ _ _ _ _ _ (blk_steady b1 st)
    have y3 : (v.putObj D (.deferred none)).cell? ⟨R + 2, 0, none⟩ = some (.int .i64 0) := cell_of_row _ _ _ _ _ _ (blk_steady b2 st)
    have k5 : Kept noBlock w (v.putObj D (.deferred none)) := ((HG.out.kept.step KC.out).trans kz (fun i hi h => by have := h.1; have := HRW.out; omega)).trans st (fun i hi h => absurd h.1 (by omega))
    have oz : (v.putObj D (.deferred none)).ownsRow w.heap.size 31 4 (.slice A1 n' c1) n' (refCells (N.map (·.2))) := own_base (own_steady (own_keep O1.out kz (fun i hi h => by have := (O1.out.lt i hi).1; have := h.2; have := ZD.out; omega)) st) (fun i hi => by have := (O1.out.lt i hi).1; omega)
    clear hv kz b0 b1 b2 st
    refine ⟨by simp, .inl ⟨_, _, rfl, run_takeDeferred (w := v) hvD, ?_⟩⟩
    refine ⟨.tuple #[.agg #[.slice A1 n' c1, .int .i64 f], .int .i64 (p : Int), .int .i64 0], by simp [results, Try.results20, go_sem, Try.isAgg26, Try.sizeOf26, Try.isAgg3, Try.sizeOf3, Try.isAgg38, Try.sizeOf38, y0, y1, y2, y3], A1, c1, ?_, ?_, k5⟩
    · rw [HRES.out]
      unfold setv
      simp only
      rw [← HN'.out]
    · rw [HRES.out]
      simp only
      rw [← HN'.out]
      exact oz
  case stop =>
    rintro D cd pre W hD _ ⟨rfl, h⟩ hK
    have hb := h.out
    clear h
    have st : Steady w3.heap.size W (W.putObj D (.deferred none)) := Steady.putObj _ hD hK rfl
    obtain ⟨y0, y1⟩ := two_cells (blk_steady hb.r0 st)
    have y2 : (W.putObj D (.deferred none)).cell? ⟨R + 1, 0, none⟩ = some (.int .i64 0) := cell_of_row _ _ _ _ _ _ (blk_steady hb.r1 st)
    have y3 : (W.putObj D (.deferred none)).cell? ⟨R + 2, 0, none⟩ = some (.int .i64 10) := cell_of_row _ _ _ _ _ _ (blk_steady hb.r2 st)
    have kz : Kept noBlock w (W.putObj D (.deferred none)) := hb.kept.trans st (fun i hi h => absurd h.1 (by omega))
    have HRES := Lib.hid (hb.whole HP.out HT.out)
    clear hb st
    refine wpIn_ret ?_
    go_wp2
    refine ⟨by simp, .inl ⟨_, _, rfl, run_takeDeferred (w := W) hK, ?_⟩⟩
    refine ⟨.tuple #[.agg #[.slice none 0 0, .int .i64 0], .int .i64 0, .int .i64 10], by simp [results, Try.results20, go_sem, Try.isAgg26, Try.sizeOf26, Try.isAgg3, Try.sizeOf3, Try.isAgg38, Try.sizeOf38, y0, y1, y2, y3], none, 0, ?_, ?_, kz⟩
    · rw [HRES.out]
      rfl
    · rw [HRES.out]
      exact World.ownsRow_nil _ _ _ _
end Go.Proofs.Ytjijdkdpmbfdmaa
