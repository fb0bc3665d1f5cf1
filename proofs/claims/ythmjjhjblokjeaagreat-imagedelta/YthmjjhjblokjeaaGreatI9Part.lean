/-
  The contract of image.ReadPart. No statement is proved here.
-/
import Derived.Test.YthmjjhjblokjeaaGreatImgPart
import Derived.Test.YthmjjhjblokjeaaGreatI9Head
import Derived.Test.YthmjjhjblokjeaaGreatI9Cut
import Derived.Test.YthmjjhjblokjeaaGreatCmdK
import Derived.Test.YthmjjhjblokjeaaGreatRunK
import Derived.Shelf.Abstract
import Derived.Sort.CutIn
namespace Go.Proofs.YthmjjhjblokjeaaGreat
open Go.RowKit Go.Shelf Tot
attribute [local go_sem] Oper.semAt_some

theorem res3 {w v : World} {R : Nat} {y0 y1 y2 x0 x1 x2 : Value} {t0 t1 t2 : TypeId} (hv : v = ((w.setCell ⟨R, 0, none⟩ x0).setCell ⟨R + 1, 0, none⟩ x1).setCell ⟨R + 2, 0, none⟩ x2) (h0 : w.heap[R]? = some (.cells #[y0] t0 (0, 0))) (h1 : w.heap[R + 1]? = some (.cells #[y1] t1 (0, 0))) (h2 : w.heap[R + 2]? = some (.cells #[y2] t2 (0, 0))) :
    v.cell? ⟨R, 0, none⟩ = some x0 ∧ v.cell? ⟨R + 1, 0, none⟩ = some x1 ∧ v.cell? ⟨R + 2, 0, none⟩ = some x2 ∧ Kept (fun i => R ≤ i ∧ i ≤ R + 2) w v := by
  subst hv
  have a0 := heap_setCell_same w R 0 _ t0 x0 h0
  have b1 : (w.setCell ⟨R, 0, none⟩ x0).heap[R + 1]? = some (.cells #[y1] t1 (0, 0)) := by rw [heap_setCell_other _ _ _ _ (by simp)]; exact h1
  have b2 : (w.setCell ⟨R, 0, none⟩ x0).heap[R + 2]? = some (.cells #[y2] t2 (0, 0)) := by rw [heap_setCell_other _ _ _ _ (by simp)]; exact h2
  have c0 : ((w.setCell ⟨R, 0, none⟩ x0).setCell ⟨R + 1, 0, none⟩ x1).heap[R]? = some (.cells #[x0] t0 (0, 0)) := by rw [heap_setCell_other _ _ _ _ (by simp)]; simpa using a0
  have c1 := heap_setCell_same _ (R + 1) 0 _ t1 x1 b1
  have c2 : ((w.setCell ⟨R, 0, none⟩ x0).setCell ⟨R + 1, 0, none⟩ x1).heap[R + 2]? = some (.cells #[y2] t2 (0, 0)) := by rw [heap_setCell_other _ _ _ _ (by simp)]; exact b2
  have d0 : (((w.setCell ⟨R, 0, none⟩ x0).setCell ⟨R + 1, 0, none⟩ x1).setCell ⟨R + 2, 0, none⟩ x2).heap[R]? = some (.cells #[x0] t0 (0, 0)) := by rw [heap_setCell_other _ _ _ _ (by simp)]; exact c0
  have d1 : (((w.setCell ⟨R, 0, none⟩ x0).setCell ⟨R + 1, 0, none⟩ x1).setCell ⟨R + 2, 0, none⟩ x2).heap[R + 1]? = some (.cells #[x1] t1 (0, 0)) := by rw [heap_setCell_other _ _ _ _ (by simp)]; simpa using c1
  refine ⟨?_, ?_, ?_, ?_⟩
  · exact cell_of_row _ _ 0 _ _ _ d0
  · exact cell_of_row _ _ 0 _ _ _ d1
  · exact cell_of_row _ _ 0 _ _ _ (heap_setCell_same _ (R + 2) 0 _ t2 x2 c2)
  · exact ((Kept.setCell w (by simp) _).step (Kept.setCell _ (by simp) _)).step (Kept.setCell _ (by simp) _)
theorem three_new (w : World) (x y z : Value) (t0 t1 t2 : TypeId) : (((w.alloc (.cells #[x] t0)).alloc (.cells #[y] t1)).alloc (.cells #[z] t2)).heap[w.heap.size]? = some (.cells #[x] t0 (0, 0)) ∧
    (((w.alloc (.cells #[x] t0)).alloc (.cells #[y] t1)).alloc (.cells #[z] t2)).heap[w.heap.size + 1]? = some (.cells #[y] t1 (0, 0)) ∧ (((w.alloc (.cells #[x] t0)).alloc (.cells #[y] t1)).alloc (.cells #[z] t2)).heap[w.heap.size + 2]? = some (.cells #[z] t2 (0, 0)) := by
  refine ⟨((Kept.alloc noBlock _ _).step (Kept.alloc _ _ _)).blk (heap_alloc_new w _) (fun h => h), (Kept.alloc noBlock _ _).blk (by have := heap_alloc_new (w.alloc (.cells #[x] t0)) (.cells #[y] t1); simpa using this) (fun h => h), ?_⟩
  have := heap_alloc_new ((w.alloc (.cells #[x] t0)).alloc (.cells #[y] t1)) (.cells #[z] t2)
  simpa using this

theorem kf_of9 {S : Nat → Prop} {m : Nat} {W W' : World} (h : Kept S W W') (hS : ∀ k, S k → ∃ cs t fr, W.heap[k]? = some (.cells cs t fr)) : KeepsFrom m W W' := by
  refine ⟨h.size, fun k o _ hk ho => h.blk hk (fun hs => ?_)⟩
  obtain ⟨cs, t, fr, hc⟩ := hS k hs
  rw [hc] at hk
  injection hk with hk
  subst hk
  cases ho
theorem held_of9 {S : Nat → Prop} {Bb : Nat} {W W' : World} (h : Kept S W W') (hS : ∀ k, S k → k ≠ Bb ∧ ∃ cs t fr, W.heap[k]? = some (.cells cs t fr) ∧ t ≠ 5 ∧ t ≠ 124) : Held Bb W W' := by
  refine ⟨h.size, fun k cs t fr hk hor => h.blk hk (fun hs => ?_)⟩
  obtain ⟨hb, cs', t', fr', hc, h1, h2⟩ := hS k hs
  rw [hc] at hk
  injection hk with hk
  injection hk with _ ht
  subst ht
  rcases hor with e | e | e
  · exact hb e
  · exact h1 e
  · exact h2 e
theorem own_cells9 {w : World} {base : Nat} {e : TypeId} {size n : Nat} {v : Value} {xs : List Value} (h : w.ownsRow base e size v n xs) : ∀ k, v.ownBlock = some k → ∃ cs fr, w.heap[k]? = some (.cells cs e fr) := by
  rcases h.2 with ⟨rfl, _⟩ | ⟨g', cap, cur, rfl, _, hh, _⟩
  · intro k hk; simp [Value.ownBlock] at hk
  · intro k hk
    simp [Value.ownBlock] at hk
    subst hk
    exact ⟨_, _, hh⟩
theorem own_gone9 {S : Nat → Prop} {w w' : World} {base n : Nat} {e : TypeId} {size : Nat} {v : Value} {xs : List Value} (h : w.ownsRow base e size v n xs) (k : Kept S w w') (hS : ∀ i, S i → ∃ cs t fr, w.heap[i]? = some (.cells cs t fr) ∧ t ≠ e) : w'.ownsRow base e size v n xs :=
  own_keep h k (fun i hi hs => by
    obtain ⟨cs, t, fr, hc, ht⟩ := hS i hs
    exact own_ne h hc (Ne.symm ht) hi)

/-- What ReadPart has gathered. -/
structure Gath (w : World) (m R S : Nat) (pre : List Item) (W : World) : Prop where
  row : ∃ (es : List EntryV) (A : Option Addr) (c : Nat), es.map EntryV.bytes = rowsOf pre ∧ (∀ e ∈ es, e.Right) ∧ W.heap[S + 2]? = some (.cells #[.slice A es.length c] 41 (0, 0)) ∧ W.ownsRow m 56 8 (.slice A es.length c) es.length (entCells es)
  end_ : W.heap[S + 1]? = some (.cells #[.int .i64 ((26 + (joined (rowsOf pre)).length : Nat) : Int)] 3 (0, 0))
  start : W.heap[S]? = some (.cells #[.int .i64 26] 3 (0, 0))
  r0 : W.heap[R]? = some (.cells #[.slice none 0 0] 41 (0, 0))
  r1 : W.heap[R + 1]? = some (.cells #[.int .i64 0] 3 (0, 0))
  r2 : W.heap[R + 2]? = some (.cells #[.int .i64 0] 32 (0, 0))
  kept : Kept noBlock w W
  size : m ≤ W.heap.size
theorem Gath.steady {w : World} {m R S : Nat} {pre : List Item} {A B : World} (hm : w.heap.size ≤ m) (h : Gath w m R S pre A) (s : Steady m A B) : Gath w m R S pre B := by
  obtain ⟨⟨es, P, c, h1, h2, h3, h4⟩, q1, q2, q3, q4, q5, q6, q7⟩ := h
  exact ⟨⟨es, P, c, h1, h2, blk_steady h3 s, own_steady h4 s⟩, blk_steady q1 s, blk_steady q2 s, blk_steady q3 s, blk_steady q4 s, blk_steady q5 s, q6.trans s (fun i hi h => absurd h.1 (by omega)), Nat.le_trans q7 s.size⟩
/-- One entry more. -/
theorem Gath.next {w : World} {m R S Bb : Nat} {pre : List Item} {x : Item} {W W0 w1 : World} {es : List EntryV} {A A' : Option Addr} {c c' : Nat} {e : EntryV} (hw : w.heap.size ≤ R) (hRS : R + 3 ≤ S) (hSB : S + 3 ≤ Bb) (hbm : Bb < m)
    (h : Gath w m R S pre W) (he : es.map EntryV.bytes = rowsOf pre) (hr : ∀ e ∈ es, e.Right) (h5 : W.heap[S + 2]? = some (.cells #[.slice A es.length c] 41 (0, 0))) (hown : W.ownsRow m 56 8 (.slice A es.length c) es.length (entCells es)) (hx : entryOf x.row = some e) (hat : x.at_ = (joined (rowsOf (pre ++ [x]))).length)
    (k0 : Kept noBlock W W0) (o1 : w1.ownsRow 0 56 8 (.slice A' (es.length + 1) c') (es.length + 1) (entCells es ++ entCells [e])) (g1 : Grew W0 w1 (.slice A es.length c) (.slice A' (es.length + 1) c')) :
    let W' := (w1.setCell ⟨S + 2, 0, none⟩ (.slice A' (es.length + 1) c')).setCell ⟨S + 1, 0, none⟩ (.int .i64 (26 + (x.at_ : Int)))
    KeepsFrom m W W' ∧ Held Bb W W' ∧ Gath w m R S (pre ++ [x]) W' := by
  intro W'
  obtain ⟨hxr, hxb⟩ := entryOf_some hx
  have g2 := Grew.after k0 g1
  have n5 : (Value.slice A es.length c).ownBlock ≠ some (S + 2) := own_ne hown h5 (by decide)
  have n6 : (Value.slice A es.length c).ownBlock ≠ some (S + 1) := own_ne hown h.end_ (by decide)
  have b5 := g2.kept.blk h5 n5
  have b6 := g2.kept.blk h.end_ n6
  have kk : Kept (fun k => (Value.slice A es.length c).ownBlock = some k ∨ k = S + 2 ∨ k = S + 1) W W' :=
    ((g2.kept.mono (fun _ _ h => .inl h)).step (Kept.setCell w1 (.inr (.inl rfl)) _)).step (Kept.setCell _ (.inr (.inr rfl)) _)
  have hS : ∀ k, ((Value.slice A es.length c).ownBlock = some k ∨ k = S + 2 ∨ k = S + 1) → w.heap.size ≤ k ∧ k ≠ Bb ∧ ∃ cs t fr, W.heap[k]? = some (.cells cs t fr) ∧ t ≠ 5 ∧ t ≠ 124 := by
    rintro k (hk | rfl | rfl)
    · obtain ⟨cs, fr, hc⟩ := own_cells9 hown k hk
      have := (hown.lt k hk).1
      exact ⟨by omega, by omega, cs, _, fr, hc, by decide, by decide⟩
    · exact ⟨by omega, by omega, _, _, _, h5, by decide, by decide⟩
    · exact ⟨by omega, by omega, _, _, _, h.end_, by decide, by decide⟩
  have stay : ∀ k cs t fr, W.heap[k]? = some (.cells cs t fr) → k < m → k ≠ S + 2 → k ≠ S + 1 → W'.heap[k]? = some (.cells cs t fr) := fun k cs t fr hk h1 h2 h3 => kk.blk hk (fun hh => by
    rcases hh with hh | hh | hh
    · have := (hown.lt k hh).1; omega
    · exact h2 hh
    · exact h3 hh)
  have hb1 : ∀ i, (Value.slice A' (es.length + 1) c').ownBlock = some i → m ≤ i := fun i hi => by
    rcases g2.at_ i hi with h1 | h1
    · exact (hown.lt i h1).1
    · exact Nat.le_trans h.size h1.1
  have hlen : (es ++ [e]).length = es.length + 1 := by simp
  refine ⟨kf_of9 kk (fun k hk => ?_), held_of9 kk (fun k hk => ?_), ⟨⟨es ++ [e], A', c', ?_, ?_, ?_, ?_⟩, ?_, ?_, ?_, ?_, ?_, ?_, ?_⟩⟩
  · obtain ⟨_, _, cs, t, fr, hc, _⟩ := hS k hk
    exact ⟨cs, t, fr, hc⟩
  · obtain ⟨_, h2, h3⟩ := hS k hk
    exact ⟨h2, h3⟩
  · rw [List.map_append, he, rowsOf_snoc]
    simp [hxb]
  · intro y hy
    rcases List.mem_append.1 hy with hy | hy
    · exact hr y hy
    · simp at hy; subst hy; exact hxr
  · rw [hlen]
    show ((w1.setCell ⟨S + 2, 0, none⟩ _).setCell ⟨S + 1, 0, none⟩ _).heap[S + 2]? = _
    rw [heap_setCell_other _ _ _ _ (by simp)]
    have := heap_setCell_same w1 (S + 2) 0 _ 41 (.slice A' (es.length + 1) c') b5
    simpa using this
  · rw [hlen, entCells_append]
    have o5 : (Value.slice A' (es.length + 1) c').ownBlock ≠ some (S + 2) := fun e => by have := hb1 _ e; omega
    have o6 : (Value.slice A' (es.length + 1) c').ownBlock ≠ some (S + 1) := fun e => by have := hb1 _ e; omega
    exact own_base (own_keep (own_keep o1 (Kept.setCell (S := fun i => i = S + 2) w1 (by rfl) _) (fun i hi e => o5 (e ▸ hi))) (Kept.setCell (S := fun i => i = S + 1) _ (by rfl) _) (fun i hi e => o6 (e ▸ hi))) hb1
  · have b6' : (w1.setCell ⟨S + 2, 0, none⟩ (.slice A' (es.length + 1) c')).heap[S + 1]? = some (.cells #[.int .i64 ((26 + (joined (rowsOf pre)).length : Nat) : Int)] 3 (0, 0)) := by
      rw [heap_setCell_other _ _ _ _ (by simp)]
      exact b6
    have := heap_setCell_same _ (S + 1) 0 _ 3 (.int .i64 (26 + (x.at_ : Int))) b6'
    rw [← hat, this]
    simp
  · exact stay _ _ _ _ h.start (by omega) (by omega) (by omega)
  · exact stay _ _ _ _ h.r0 (by omega) (by omega) (by omega)
  · exact stay _ _ _ _ h.r1 (by omega) (by omega) (by omega)
  · exact stay _ _ _ _ h.r2 (by omega) (by omega) (by omega)
  · exact h.kept.trans kk (fun i hi hs => absurd (hS i hs).1 (by omega))
  · exact Nat.le_trans h.size kk.size
/-- A frame that is no entry. -/
structure Bad9 (w : World) (m R : Nat) (b : List UInt8) (pre : List Item) (W : World) : Prop where
  none_ : ∃ r ∈ rowsOf pre, entryOf r = none
  is : ∃ t, Parted b (rowsOf pre) t
  r0 : W.heap[R]? = some (.cells #[.slice none 0 0] 41 (0, 0))
  r1 : W.heap[R + 1]? = some (.cells #[.int .i64 0] 3 (0, 0))
  r2 : W.heap[R + 2]? = some (.cells #[.int .i64 10] 32 (0, 0))
  kept : Kept noBlock w W
theorem Bad9.steady {w : World} {m R : Nat} {b : List UInt8} {pre : List Item} {A B : World} (hm : w.heap.size ≤ m) (h : Bad9 w m R b pre A) (s : Steady m A B) : Bad9 w m R b pre B :=
  ⟨h.none_, h.is, blk_steady h.r0 s, blk_steady h.r1 s, blk_steady h.r2 s, h.kept.trans s (fun i hi h => absurd h.1 (by omega))⟩
theorem res3b {w v : World} {R : Nat} {y0 y1 y2 x0 x1 x2 : Value} {t0 t1 t2 : TypeId} (hv : v = ((w.setCell ⟨R, 0, none⟩ x0).setCell ⟨R + 1, 0, none⟩ x1).setCell ⟨R + 2, 0, none⟩ x2) (h0 : w.heap[R]? = some (.cells #[y0] t0 (0, 0))) (h1 : w.heap[R + 1]? = some (.cells #[y1] t1 (0, 0))) (h2 : w.heap[R + 2]? = some (.cells #[y2] t2 (0, 0))) :
    v.heap[R]? = some (.cells #[x0] t0 (0, 0)) ∧ v.heap[R + 1]? = some (.cells #[x1] t1 (0, 0)) ∧ v.heap[R + 2]? = some (.cells #[x2] t2 (0, 0)) := by
  subst hv
  have a0 := heap_setCell_same w R 0 _ t0 x0 h0
  have b1 : (w.setCell ⟨R, 0, none⟩ x0).heap[R + 1]? = some (.cells #[y1] t1 (0, 0)) := by rw [heap_setCell_other _ _ _ _ (by simp)]; exact h1
  have b2 : (w.setCell ⟨R, 0, none⟩ x0).heap[R + 2]? = some (.cells #[y2] t2 (0, 0)) := by rw [heap_setCell_other _ _ _ _ (by simp)]; exact h2
  have c0 : ((w.setCell ⟨R, 0, none⟩ x0).setCell ⟨R + 1, 0, none⟩ x1).heap[R]? = some (.cells #[x0] t0 (0, 0)) := by rw [heap_setCell_other _ _ _ _ (by simp)]; simpa using a0
  have c1 := heap_setCell_same _ (R + 1) 0 _ t1 x1 b1
  have c2 : ((w.setCell ⟨R, 0, none⟩ x0).setCell ⟨R + 1, 0, none⟩ x1).heap[R + 2]? = some (.cells #[y2] t2 (0, 0)) := by rw [heap_setCell_other _ _ _ _ (by simp)]; exact b2
  refine ⟨by rw [heap_setCell_other _ _ _ _ (by simp)]; exact c0, by rw [heap_setCell_other _ _ _ _ (by simp)]; simpa using c1, ?_⟩
  have := heap_setCell_same _ (R + 2) 0 _ t2 x2 c2
  simpa using this

theorem three_facts {U : World} {R S : Nat} {y0 y1 y2 y5 y6 : Value} {t0 t1 t2 t5 t6 : TypeId} (hRS : R + 3 ≤ S) (h0 : U.heap[R]? = some (.cells #[y0] t0 (0, 0))) (h1 : U.heap[R + 1]? = some (.cells #[y1] t1 (0, 0))) (h2 : U.heap[R + 2]? = some (.cells #[y2] t2 (0, 0)))
    (h5 : U.heap[S + 2]? = some (.cells #[y5] t5 (0, 0))) (h6 : U.heap[S + 1]? = some (.cells #[y6] t6 (0, 0))) (x0 x1 x2 : Value) :
    (U.cell? ⟨R, 0, none⟩ = some y0 ∧ U.frozen? ⟨R, 0, none⟩ = false) ∧
    (((U.setCell ⟨R, 0, none⟩ x0).cell? ⟨R + 1, 0, none⟩ = some y1 ∧ (U.setCell ⟨R, 0, none⟩ x0).frozen? ⟨R + 1, 0, none⟩ = false) ∧ (U.setCell ⟨R, 0, none⟩ x0).cell? ⟨S + 2, 0, none⟩ = some y5 ∧ (U.setCell ⟨R, 0, none⟩ x0).cell? ⟨S + 1, 0, none⟩ = some y6) ∧
    ((((U.setCell ⟨R, 0, none⟩ x0).setCell ⟨R + 1, 0, none⟩ x1).cell? ⟨R + 2, 0, none⟩ = some y2 ∧ ((U.setCell ⟨R, 0, none⟩ x0).setCell ⟨R + 1, 0, none⟩ x1).frozen? ⟨R + 2, 0, none⟩ = false) ∧ ((U.setCell ⟨R, 0, none⟩ x0).setCell ⟨R + 1, 0, none⟩ x1).cell? ⟨S + 2, 0, none⟩ = some y5 ∧ ((U.setCell ⟨R, 0, none⟩ x0).setCell ⟨R + 1, 0, none⟩ x1).cell? ⟨S + 1, 0, none⟩ = some y6) ∧
    ((((U.setCell ⟨R, 0, none⟩ x0).setCell ⟨R + 1, 0, none⟩ x1).setCell ⟨R + 1 + 1, 0, none⟩ x2).cell? ⟨S + 2, 0, none⟩ = some y5 ∧ (((U.setCell ⟨R, 0, none⟩ x0).setCell ⟨R + 1, 0, none⟩ x1).setCell ⟨R + 1 + 1, 0, none⟩ x2).cell? ⟨S + 1, 0, none⟩ = some y6) := by
  have k0 := Kept.setCell (S := fun i => i = R) U (p := ⟨R, 0, none⟩) rfl x0
  have k1 := (k0.mono (T := fun i => R ≤ i ∧ i ≤ R + 1) (fun i _ h => by omega)).step (Kept.setCell (S := fun i => R ≤ i ∧ i ≤ R + 1) (U.setCell ⟨R, 0, none⟩ x0) (p := ⟨R + 1, 0, none⟩) (by simp) x1)
  have k2 := (k1.mono (T := fun i => R ≤ i ∧ i ≤ R + 2) (fun i _ h => by omega)).step (Kept.setCell (S := fun i => R ≤ i ∧ i ≤ R + 2) _ (p := ⟨R + 1 + 1, 0, none⟩) (by show R ≤ R + 1 + 1 ∧ R + 1 + 1 ≤ R + 2; omega) x2)
  have a1 := k0.blk h1 (by omega)
  have a5 := k0.blk h5 (by omega)
  have a6 := k0.blk h6 (by omega)
  have b2 := k1.blk h2 (by omega)
  have b5 := k1.blk h5 (by omega)
  have b6 := k1.blk h6 (by omega)
  have c5 := k2.blk h5 (by omega)
  have c6 := k2.blk h6 (by omega)
  exact ⟨⟨cell_of_row _ _ _ _ _ _ h0, frozen_of_row _ _ _ _ _ h0⟩, ⟨⟨cell_of_row _ _ _ _ _ _ a1, frozen_of_row _ _ _ _ _ a1⟩, cell_of_row _ _ _ _ _ _ a5, cell_of_row _ _ _ _ _ _ a6⟩, ⟨⟨cell_of_row _ _ _ _ _ _ b2, frozen_of_row _ _ _ _ _ b2⟩, cell_of_row _ _ _ _ _ _ b5, cell_of_row _ _ _ _ _ _ b6⟩, cell_of_row _ _ _ _ _ _ c5, cell_of_row _ _ _ _ _ _ c6⟩

set_option maxRecDepth 100000 in
set_option maxHeartbeats 1000000 in
theorem rpart_any (F : Nat → Prop) (a : Option Addr) (n c : Nat) (f : Nat) (l : List UInt8) (w : World) (h : Lies w F a (l.map bv)) (hl : l.length = n) (hn : n ≤ 140737488400000) (hc : n ≤ c) (hf : f ≤ 1099511627776) :
    Calls Tryz.prog 10 #[.slice a n c, .int .i64 (f : Int)] w fun e w' => ∃ (es : List EntryV) (k : Nat) (er : Int) (A : Option Addr) (ec : Nat), e = .returned (.tuple #[.slice A es.length ec, .int .i64 (k : Int), .int .i64 er]) ∧
      ((er = 0 ∧ k = (fileB f es).length ∧ PartOk l f es) ∨ (er = 10 ∧ k = 0 ∧ es = [] ∧ ∀ xs, ¬ PartOk l f xs)) ∧ w'.ownsRow w.heap.size 56 8 (.slice A es.length ec) es.length (entCells es) ∧ Kept noBlock w w' := by
  obtain ⟨w1, hw1⟩ : ∃ w1, w1 = ((w.alloc (.cells #[.slice none 0 0] 41)).alloc (.cells #[.int .i64 0] 3)).alloc (.cells #[.int .i64 0] 32) := ⟨_, rfl⟩
  have k1 : Kept noBlock w w1 := by rw [hw1]; exact ((Kept.alloc _ _ _).step (Kept.alloc _ _ _)).step (Kept.alloc _ _ _)
  have z1 : w1.heap.size = w.heap.size + 3 := by rw [hw1]; simp
  have r0 : w1.heap[w.heap.size]? = some (.cells #[.slice none 0 0] 41 (0, 0)) := by rw [hw1]; exact ((Kept.alloc noBlock _ _).step (Kept.alloc _ _ _)).blk (heap_alloc_new w _) (fun h => h)
  have r1 : w1.heap[w.heap.size + 1]? = some (.cells #[.int .i64 0] 3 (0, 0)) := by
    rw [hw1]
    exact (Kept.alloc noBlock _ _).blk (by have := heap_alloc_new (w.alloc (.cells #[.slice none 0 0] 41)) (.cells #[.int .i64 0] 3); simpa using this) (fun h => h)
  have r2 : w1.heap[w.heap.size + 2]? = some (.cells #[.int .i64 0] 32 (0, 0)) := by
    rw [hw1]
    have := heap_alloc_new ((w.alloc (.cells #[.slice none 0 0] 41)).alloc (.cells #[.int .i64 0] 3)) (.cells #[.int .i64 0] 32)
    simpa using this
  have PA := Lib.hid (part_any f w1)
  have HL := Lib.hid hl
  have HW := Lib.hid h
  have K1 := Lib.hid k1
  have R0 := Lib.hid r0
  have R1 := Lib.hid r1
  have R2 := Lib.hid r2
  have Z1 := Lib.hid z1
  clear hl h k1 r0 r1 r2 z1
  by_cases hp : l.take 26 = partB f
  · refine (callsIn_wide (n := 3)).1 ?_
    refine callsIn_of_wp_marks Tryz.func10 rfl trivial ?_ rfl
    simp only [Tryz.ntmps10, List.size_toArray, List.length_cons, List.length_nil, Nat.reduceAdd, Nat.reduceSub, Array.replicate_succ, Array.replicate_zero, List.push_toArray, List.append_toArray, List.nil_append, List.cons_append]
    refine wpIn_wide.2 ?_
    go_upto_region 1 with (fail)
    rw [← hw1]
    clear hw1
    go_wp2_with fail
    refine PA.out.mono ?_
    rintro e w2 ⟨P2, c2, rfl, o2, k2⟩
    have LP := Lib.hid (Lies.of_own (F := fun _ => True) o2 (fun _ _ => trivial))
    have K2 := Lib.hid (K1.out.step k2)
    have R02 := Lib.hid (k2.blk R0.out (fun h => h))
    have R12 := Lib.hid (k2.blk R1.out (fun h => h))
    have R22 := Lib.hid (k2.blk R2.out (fun h => h))
    have Z2 : w.heap.size + 3 ≤ w2.heap.size := by have := Z1.out; have := k2.size; omega
    clear o2 k2 R0 R1 R2 Z1 PA K1
    have h26 : 26 ≤ n := by
      have := congrArg List.length hp
      rw [List.length_take, partB_length, HL.out] at this
      omega
    have CU := Lib.hid (cut_yes F _ a n c P2 26 c2 l (partB f) w2 (HW.out.keep K2.out (fun _ _ h => h)) HL.out LP.out (partB_length f) hc hp h26)
    have hdr : Lies w2 F (if c = 26 then a else a.map (·.add 26)) ((l.drop 26).map bv) := by rw [List.map_drop]; exact (HW.out.keep K2.out (fun _ _ h => h)).drop 26 (by rw [List.length_map, HL.out]; exact hc)
    have HP := Lib.hid hp
    clear hp LP HW
    go_wp2_with fail
    refine CU.out.mono ?_
    rintro e w3 ⟨A3, rfl, hA3, rfl⟩
    rw [← hA3] at hdr
    have LR := Lib.hid hdr
    clear hA3 hdr CU
    have e26 : (n : Int) - ((n - 26 : Nat) : Int) = 26 := by omega
    go_upto_region 7 with (fail)
    clear e26
    have kb : Kept noBlock w2 (((w2.alloc (.cells #[.int .i64 26] 3)).alloc (.cells #[.int .i64 26] 3)).alloc (.cells #[.slice none 0 0] 41)) := ((Kept.alloc _ _ _).step (Kept.alloc _ _ _)).step (Kept.alloc _ _ _)
    obtain ⟨hs, he, hb⟩ := three_new w2 (.int .i64 26) (.int .i64 26) (.slice none 0 0) 3 3 41
    have zb : (((w2.alloc (.cells #[.int .i64 26] 3)).alloc (.cells #[.int .i64 26] 3)).alloc (.cells #[.slice none 0 0] 41)).heap.size = w2.heap.size + 3 := by simp
    generalize (((w2.alloc (.cells #[.int .i64 26] 3)).alloc (.cells #[.int .i64 26] 3)).alloc (.cells #[.slice none 0 0] 41)) = u0 at kb hs he hb zb ⊢
    go_wp2_with fail
    refine (all_any F A3 (n - 26) (c - 26) (l.drop 26) u0 (LR.out.keep kb (fun _ _ h => h)) (by rw [List.length_drop, HL.out]) (by omega)).mono ?_
    rintro e w3 ⟨Bb, Ab, cb, rfl, hBb, hbox, hown, k3⟩
    obtain ⟨R, hR⟩ : ∃ R, R = w.heap.size := ⟨_, rfl⟩
    obtain ⟨S, hS⟩ : ∃ S, S = w2.heap.size := ⟨_, rfl⟩
    rw [← hR] at R02 R12 R22 Z2 ⊢
    rw [← hS] at hs he hb zb Z2 ⊢
    have k03 := kb.step k3
    have G0 : Hid (Gath w w3.heap.size R S [] w3) := by
      unfold Hid
      exact ⟨⟨[], none, 0, rfl, fun e he => (by cases he), k3.blk hb (fun h => h), World.ownsRow_nil _ _ _ _⟩, k3.blk he (fun h => h), k3.blk hs (fun h => h), k03.blk R02.out (fun h => h), k03.blk R12.out (fun h => h), k03.blk R22.out (fun h => h), K2.out.step k03, Nat.le_refl _⟩
    have hBm : Bb < w3.heap.size := lt_of_blk hbox
    have hSB : S + 3 ≤ Bb := by omega
    have hwm : w.heap.size ≤ w3.heap.size := (K2.out.step k03).size
    have HBX := Lib.hid hbox
    have HOB := Lib.hid (own_base (base' := 0) hown (fun _ _ => Nat.zero_le _))
    have HRW : Hid (w.heap.size ≤ R) := by unfold Hid; omega
    have HRE := Lib.hid hR
    clear hbox hown k3 k03 kb hs he hb zb hBb R02 R12 R22 LR K2 hS hR
    go_wp2_with fail
    refine (wpIn_wide (n := 3)).1 ?_
    refine wpIn_goes rfl (by omega) (gf := 60) (lb := #[.pointer (some ⟨Bb, 0, none⟩)]) rfl trivial (enters_of Tryz.func60 (by kernel_rfl) rfl) (all1_goes Bb Ab (n - 26) cb (l.drop 26) w3 HBX.out HOB.out (by rw [List.length_drop, HL.out]) (by omega) 2) (Kept.refl _ _) (fun _ => rfl)
      Held.trans Held.putObj Handed.steady (fun pre W => Hid (Gath w w3.heap.size R S pre W)) (fun cd pre W => cd = .ret ∧ Hid (Bad9 w w3.heap.size R (l.drop 26) pre W)) (fun s A B h k => Lib.hid (h.out.steady hwm k)) (fun cd s A B h k => ⟨h.1, Lib.hid (h.2.out.steady hwm k)⟩) G0
      (fun x => { tmps := #[Value.slice a n c, Value.int IntKind.i64 (f : Int), undef, undef, Value.pointer (some ⟨R, 0, none⟩), Value.pointer (some ⟨R + 1, 0, none⟩), Value.pointer (some ⟨R + 1 + 1, 0, none⟩), Value.slice A3 (n - 26) (c - 26), Value.bool true, Value.pointer (some ⟨S, 0, none⟩), Value.pointer (some ⟨S + 1, 0, none⟩), Value.pointer (some ⟨S + 1 + 1, 0, none⟩), .int .i64 (x.at_ : Int), Value.slice x.A x.row.length x.c, undef, undef, Value.tuple #[Value.slice A3 (n - 26) (c - 26), Value.bool true], Value.slice a n c, Value.int IntKind.i64 (f : Int), Value.slice P2 26 c2, Value.tuple #[Value.slice A3 (n - 26) (c - 26), Value.bool true], Value.slice A3 (n - 26) (c - 26), Value.bool true, Value.bool true, Value.bool false, Value.slice a n c, Value.int IntKind.i64 (n : Int), Value.slice A3 (n - 26) (c - 26), Value.int IntKind.i64 ((n - 26 : Nat) : Int), Value.int IntKind.i64 26, Value.int IntKind.i64 26, Value.slice A3 (n - 26) (c - 26), .func (.func 60) #[] #[.pointer (some ⟨Bb, 0, none⟩)], .int .i64 (x.at_ : Int), Value.slice x.A x.row.length x.c, undef, undef, undef, undef, undef, undef, undef, undef, undef, undef, undef, undef, undef, undef, undef, undef, undef, undef, undef, undef, undef], defers := [] }) ?assign ?body ?done ?stop
    case assign =>
      intro l x W K hK
      dsimp only [Item.enc]
      gi_wp2
      exact hK
    case body =>
      intro l0 pre x W hG0 hpx
      have hG := hG0.out
      clear hG0
      dsimp only
      obtain ⟨t, ht⟩ := hpx.is
      have hfit : x.row.length ≤ 16384 := ht.fit x.row (by rw [rowsOf_snoc]; simp)
      have RE := Lib.hid (read_any (fun _ => True) x.A x.row.length x.c x.row W (Lies.of_own hpx.there (fun _ _ => trivial)) rfl (by omega))
      have HPX := Lib.hid hpx
      have HT := Lib.hid ht
      have HG := Lib.hid hG
      obtain ⟨q, hq⟩ : ∃ q, q = x.row.length := ⟨_, rfl⟩
      rw [← hq] at RE ⊢
      clear hpx ht hG hq hfit
      cases hE : entryOf x.row with
      | none =>
        obtain ⟨e1, e2⟩ := gotE_none hE
        have e0 : noEntry.val = Value.agg #[.int .i64 0, .int .i64 0, .int .i64 0, .int .i64 0, .int .i64 0, .string ⟨#[]⟩, .string ⟨#[]⟩, .string ⟨#[]⟩] := rfl
        rw [e1, e2, e0] at RE
        have HE := Lib.hid hE
        clear e0 e1 e2 hE
        gi_wp2_with fail
        refine ⟨trivial, ?_⟩
        refine (CallsIn.inRound l0 (callsIn_wide.2 RE.out)).mono ?_
        rintro e W2 ⟨rfl, k2⟩
        have K2' := Lib.hid k2
        clear k2 RE
        gi_upto_region 11 with (fail)
        have ka := Kept.alloc noBlock W2 (.cells #[.int .i64 0, .int .i64 0, .int .i64 0, .int .i64 0, .int .i64 0, .string ⟨#[]⟩, .string ⟨#[]⟩, .string ⟨#[]⟩] 56)
        generalize W2.alloc (.cells #[.int .i64 0, .int .i64 0, .int .i64 0, .int .i64 0, .int .i64 0, .string ⟨#[]⟩, .string ⟨#[]⟩, .string ⟨#[]⟩] 56) = W3 at ka ⊢
        have K3' := Lib.hid (K2'.out.step ka)
        clear ka K2'
        have d0 := K3'.out.blk HG.out.r0 (fun h => h)
        have d1 := K3'.out.blk HG.out.r1 (fun h => h)
        have d2 := K3'.out.blk HG.out.r2 (fun h => h)
        have D0 := Lib.hid d0
        have D1 := Lib.hid d1
        have D2 := Lib.hid d2
        have c0 : W3.cell? ⟨R, 0, none⟩ = some (.slice none 0 0) := cell_of_row _ _ _ _ _ _ d0
        have c1 : W3.cell? ⟨R + 1, 0, none⟩ = some (.int .i64 0) := cell_of_row _ _ _ _ _ _ d1
        have c2' : W3.cell? ⟨R + 2, 0, none⟩ = some (.int .i64 0) := cell_of_row _ _ _ _ _ _ d2
        have f0 : W3.frozen? ⟨R, 0, none⟩ = false := frozen_of_row _ _ _ _ _ d0
        have f1 : W3.frozen? ⟨R + 1, 0, none⟩ = false := frozen_of_row _ _ _ _ _ d1
        have f2 : W3.frozen? ⟨R + 2, 0, none⟩ = false := frozen_of_row _ _ _ _ _ d2
        clear d0 d1 d2
        gi_wp2
        obtain ⟨v, hv⟩ : ∃ v, v = ((W3.setCell ⟨R, 0, none⟩ (.slice none 0 0)).setCell ⟨R + 1, 0, none⟩ (.int .i64 0)).setCell ⟨R + 2, 0, none⟩ (.int .i64 10) := ⟨_, rfl⟩
        obtain ⟨b0, b1, b2⟩ := res3b hv D0.out D1.out D2.out
        obtain ⟨_, _, _, kz⟩ := res3 hv D0.out D1.out D2.out
        have kk : Kept (fun i => R ≤ i ∧ i ≤ R + 2) W v := (K3'.out.mono (fun _ _ h => h.elim)).step kz
        change ownPostG _ _ _ _ _ _ _ _ (((W3.setCell ⟨R, 0, none⟩ (.slice none 0 0)).setCell ⟨R + 1, 0, none⟩ (.int .i64 0)).setCell ⟨R + 2, 0, none⟩ (.int .i64 10))
        rw [← hv]
        refine ⟨kf_of9 kk (fun i hi => ?_), rfl, Lib.hid ⟨⟨x.row, by rw [rowsOf_snoc]; simp, HE.out⟩, ⟨t, HT.out⟩, b0, b1, b2, ?_⟩⟩
        · obtain ⟨h1, h2⟩ := hi
          by_cases i0 : i = R
          · subst i0; exact ⟨_, _, _, HG.out.r0⟩
          · by_cases i1 : i = R + 1
            · subst i1; exact ⟨_, _, _, HG.out.r1⟩
            · obtain rfl : i = R + 2 := by omega
              exact ⟨_, _, _, HG.out.r2⟩
        · exact HG.out.kept.trans kk (fun i hi h => by have := h.1; have := HRW.out; omega)
      | some e =>
        obtain ⟨e1, e2⟩ := gotE_some hE
        rw [e1, e2] at RE
        have HE := Lib.hid hE
        clear e1 e2 hE
        gi_wp2_with fail
        refine ⟨trivial, ?_⟩
        refine (CallsIn.inRound l0 (callsIn_wide.2 RE.out)).mono ?_
        rintro en W2 ⟨rfl, k2⟩
        have K2' := Lib.hid k2
        clear k2 RE
        unfold EntryV.val
        obtain ⟨es, A, rc, hes, hri, g5, gown⟩ := HG.out.row
        obtain ⟨hxr, hxb⟩ := entryOf_some HE.out
        have hk : 66 * (es.length + 1) ≤ n := by
          have h1 := HT.out.le
          have h2 := joined_long (rs := rowsOf (pre ++ [x])) (fun r hr => by
            rw [rowsOf_snoc] at hr
            rcases List.mem_append.1 hr with hr | hr
            · rw [← hes] at hr
              obtain ⟨y, _, rfl⟩ := List.mem_map.1 hr
              exact bytes_long y
            · simp at hr
              subst hr
              rw [← hxb]
              exact bytes_long e)
          rw [rowsOf_length, List.length_append, List.length_singleton] at h2
          have h3 := congrArg List.length hes
          rw [List.length_map, rowsOf_length] at h3
          rw [List.length_drop, HL.out] at h1
          omega
        have HES := Lib.hid hes
        have HRI := Lib.hid hri
        have G5 := Lib.hid g5
        have GO := Lib.hid gown
        obtain ⟨k, hke⟩ : ∃ k, k = es.length := ⟨_, rfl⟩
        rw [← hke] at hk G5 GO
        have HKE := Lib.hid hke
        clear hes hri g5 gown hxr hxb hke
        gi_upto_region 11 with (fail)
        have ka := Kept.alloc noBlock W2 (.cells #[.int .i64 e.index, .int .i64 e.term, .int .i64 e.cmd.op, .int .i64 e.cmd.client, .int .i64 e.cmd.seq, .string e.cmd.key, .string e.cmd.value, .string e.cmd.old] 56)
        have hn := heap_alloc_new W2 (.cells #[.int .i64 e.index, .int .i64 e.term, .int .i64 e.cmd.op, .int .i64 e.cmd.client, .int .i64 e.cmd.seq, .string e.cmd.key, .string e.cmd.value, .string e.cmd.old] 56)
        generalize W2.alloc (.cells #[.int .i64 e.index, .int .i64 e.term, .int .i64 e.cmd.op, .int .i64 e.cmd.client, .int .i64 e.cmd.seq, .string e.cmd.key, .string e.cmd.value, .string e.cmd.old] 56) = W3 at ka hn ⊢
        obtain ⟨X, hX⟩ : ∃ X, X = W2.heap.size := ⟨_, rfl⟩
        rw [← hX] at hn ⊢
        clear hX
        have K3' := Lib.hid (K2'.out.step ka)
        clear ka K2'
        have x0 := cell_of_row _ _ 0 _ _ _ hn
        have x1 := cell_of_row _ _ 1 _ _ _ hn
        have x2 := cell_of_row _ _ 2 _ _ _ hn
        have x3 := cell_of_row _ _ 3 _ _ _ hn
        have x4 := cell_of_row _ _ 4 _ _ _ hn
        have x5 := cell_of_row _ _ 5 _ _ _ hn
        have x6 := cell_of_row _ _ 6 _ _ _ hn
        have x7 := cell_of_row _ _ 7 _ _ _ hn
        clear hn
        have d0 := K3'.out.blk G5.out (fun h => h)
        have c0 : W3.cell? ⟨S + 2, 0, none⟩ = some (.slice A k rc) := cell_of_row _ _ _ _ _ _ d0
        have GO3 := Lib.hid (own_base (base' := 0) (own_keep GO.out K3'.out (fun _ _ h => h)) (fun _ _ => Nat.zero_le _))
        clear d0
        gi_wp2_with (gi_at_builtin; refine wpListIn_append_src rfl _ _ 41 41 rfl 56 noEntry.val 8 88 Tryz.underlying41 Tryz.infoEntry rfl (.slice A k rc) k (entCells es) rfl (GO3.out.alloc _) _ 1 (entCells [e]) rfl (src_entry e (heap_alloc_new _ _)) ?c3 ?c4 ?_)
        case c3 => unfold maxLen; omega
        case c4 => omega
        intro A' c' w1 o1 g1
        have k0 := K3'.out.step (Kept.alloc noBlock W3 (.cells #[.int .i64 e.index, .int .i64 e.term, .int .i64 e.cmd.op, .int .i64 e.cmd.client, .int .i64 e.cmd.seq, .string e.cmd.key, .string e.cmd.value, .string e.cmd.old] 56))
        have g2 := Grew.after k0 g1
        have b5 := g2.kept.blk G5.out (own_ne GO.out G5.out (by decide))
        have b6 := g2.kept.blk HG.out.end_ (own_ne GO.out HG.out.end_ (by decide))
        have b7 := g2.kept.blk HG.out.start (own_ne GO.out HG.out.start (by decide))
        have hc5 : w1.cell? ⟨S + 2, 0, none⟩ = some (.slice A k rc) := cell_of_row _ _ _ _ _ _ b5
        have hf5 : w1.frozen? ⟨S + 2, 0, none⟩ = false := frozen_of_row _ _ _ _ _ b5
        have b6' : (w1.setCell ⟨S + 1 + 1, 0, none⟩ (.slice A' (k + 1) c')).heap[S + 1]? = some (.cells #[.int .i64 ((26 + (joined (rowsOf pre)).length : Nat) : Int)] 3 (0, 0)) := by
          rw [heap_setCell_other _ _ _ _ (by simp)]
          exact b6
        have b7' : (w1.setCell ⟨S + 1 + 1, 0, none⟩ (.slice A' (k + 1) c')).heap[S]? = some (.cells #[.int .i64 26] 3 (0, 0)) := by
          rw [heap_setCell_other _ _ _ _ (by show S ≠ S + 1 + 1; omega)]
          exact b7
        have hc6 : (w1.setCell ⟨S + 1 + 1, 0, none⟩ (.slice A' (k + 1) c')).cell? ⟨S + 1, 0, none⟩ = some (.int .i64 ((26 + (joined (rowsOf pre)).length : Nat) : Int)) := cell_of_row _ _ _ _ _ _ b6'
        have hf6 : (w1.setCell ⟨S + 1 + 1, 0, none⟩ (.slice A' (k + 1) c')).frozen? ⟨S + 1, 0, none⟩ = false := frozen_of_row _ _ _ _ _ b6'
        have hc7 : (w1.setCell ⟨S + 1 + 1, 0, none⟩ (.slice A' (k + 1) c')).cell? ⟨S, 0, none⟩ = some (.int .i64 26) := cell_of_row _ _ _ _ _ _ b7'
        have hat : x.at_ ≤ n := by
          have h1 := HT.out.le
          rw [List.length_drop, HL.out] at h1
          have h2 := HPX.out.end_
          omega
        have RR : Hid (KeepsFrom w3.heap.size W ((w1.setCell ⟨S + 1 + 1, 0, none⟩ (.slice A' (k + 1) c')).setCell ⟨S + 1, 0, none⟩ (.int .i64 (26 + (x.at_ : Int)))) ∧ Held Bb W ((w1.setCell ⟨S + 1 + 1, 0, none⟩ (.slice A' (k + 1) c')).setCell ⟨S + 1, 0, none⟩ (.int .i64 (26 + (x.at_ : Int)))) ∧
            Gath w w3.heap.size R S (pre ++ [x]) ((w1.setCell ⟨S + 1 + 1, 0, none⟩ (.slice A' (k + 1) c')).setCell ⟨S + 1, 0, none⟩ (.int .i64 (26 + (x.at_ : Int))))) := by
          have e4 := HKE.out
          subst e4
          exact Lib.hid (Gath.next HRW.out Z2 hSB hBm HG.out HES.out HRI.out G5.out GO.out HE.out HPX.out.end_ k0 o1 g1)
        clear b5 b6 b7 b6' b7' o1 g1 g2 k0 c0 x0 x1 x2 x3 x4 x5 x6 x7
        gi_wp2
        exact ⟨RR.out.1, RR.out.2.1, Lib.hid RR.out.2.2⟩
    case done =>
      intro D xs W hD hF hG0 hK
      have hG := hG0.out
      clear hG0
      obtain ⟨t, ht, hbad⟩ := hF
      obtain ⟨es, A, rc, hes, hri, g5, gown⟩ := hG.row
      obtain ⟨k, hke⟩ : ∃ k, k = es.length := ⟨_, rfl⟩
      have hkn : k ≤ n := by
        have h1 := ht.le
        have h2 := joined_ge (rowsOf xs)
        rw [rowsOf_length] at h2
        have h3 := congrArg List.length hes
        rw [List.length_map, rowsOf_length] at h3
        rw [List.length_drop, HL.out] at h1
        omega
      have hpn : (joined (rowsOf xs)).length + 26 ≤ n := by
        have h1 := ht.le
        rw [List.length_drop, HL.out] at h1
        omega
      obtain ⟨p, hpe⟩ : ∃ p, p = 26 + (joined (rowsOf xs)).length := ⟨_, rfl⟩
      have ROW := Lib.hid (row_any (fun _ => True) A es.length rc ((f : Int) + 1) es W (Lies.of_rows gown (fun _ _ => trivial)) rfl (by omega) (by omega))
      obtain ⟨r, hr⟩ : ∃ r, r = rowB es ((f : Int) + 1) 0 := ⟨_, rfl⟩
      rw [← hr, ← hke] at ROW
      rw [← hke] at g5 gown
      have hend := hG.end_
      rw [← hpe] at hend
      have HEND := Lib.hid hend
      have G5 := Lib.hid g5
      have GO := Lib.hid gown
      have HES := Lib.hid hes
      have HRI := Lib.hid hri
      have HG := Lib.hid hG
      have HT := Lib.hid ht
      have HBAD := Lib.hid hbad
      have HPE := Lib.hid hpe
      have HKE := Lib.hid hke
      have HRR := Lib.hid hr
      have HK := Lib.hid hK
      have c5 : W.cell? ⟨S + 2, 0, none⟩ = some (.slice A k rc) := cell_of_row _ _ _ _ _ _ g5
      clear hend g5 gown hes hri hG ht hbad hpe hke hr hK
      go_wp2_with fail
      refine ROW.out.mono ?_
      rintro e W2 ⟨rfl, k2⟩
      have K2' := Lib.hid (HG.out.kept.step k2)
      have HK2 := Lib.hid (k2.blk HK.out (fun h => h))
      have GO2 := Lib.hid (own_keep GO.out k2 (fun _ _ h => h))
      have d0 := k2.blk HG.out.r0 (fun h => h)
      have d1 := k2.blk HG.out.r1 (fun h => h)
      have d2 := k2.blk HG.out.r2 (fun h => h)
      have d5 := k2.blk G5.out (fun h => h)
      have d6 := k2.blk HEND.out (fun h => h)
      have D0 := Lib.hid d0
      have D1 := Lib.hid d1
      have D2 := Lib.hid d2
      have D5 := Lib.hid d5
      have D6 := Lib.hid d6
      have c0 : W2.cell? ⟨R, 0, none⟩ = some (.slice none 0 0) := cell_of_row _ _ _ _ _ _ d0
      have c1 : W2.cell? ⟨R + 1, 0, none⟩ = some (.int .i64 0) := cell_of_row _ _ _ _ _ _ d1
      have c2' : W2.cell? ⟨R + 2, 0, none⟩ = some (.int .i64 0) := cell_of_row _ _ _ _ _ _ d2
      have f0 : W2.frozen? ⟨R, 0, none⟩ = false := frozen_of_row _ _ _ _ _ d0
      have f1 : W2.frozen? ⟨R + 1, 0, none⟩ = false := frozen_of_row _ _ _ _ _ d1
      have f2 : W2.frozen? ⟨R + 2, 0, none⟩ = false := frozen_of_row _ _ _ _ _ d2
      have FIN : Hid (∀ (v : World) (x0 x1 x2 : Value) (U : World), U.heap = W2.heap → U.os = W2.os → U.tape = W2.tape → U.output = W2.output → v = ((U.setCell ⟨R, 0, none⟩ x0).setCell ⟨R + 1, 0, none⟩ x1).setCell ⟨R + 2, 0, none⟩ x2 →
          v.heap[D]? = some (.deferred (some [])) ∧ ((v.putObj D (.deferred none)).cell? ⟨R, 0, none⟩ = some x0 ∧ (v.putObj D (.deferred none)).cell? ⟨R + 1, 0, none⟩ = some x1 ∧ (v.putObj D (.deferred none)).cell? ⟨R + 2, 0, none⟩ = some x2) ∧
          Kept noBlock w (v.putObj D (.deferred none)) ∧ (v.putObj D (.deferred none)).ownsRow w3.heap.size 56 8 (.slice A k rc) k (entCells es)) := fun v x0 x1 x2 U q1 q2 q3 q4 hv => by
        have kU : Kept noBlock W2 U := ⟨q2, q3, q4, by rw [q1]; exact Nat.le_refl _, fun i _ _ => by rw [q1]⟩
        have e0 := kU.blk D0.out (fun h => h)
        have e1 := kU.blk D1.out (fun h => h)
        have e2 := kU.blk D2.out (fun h => h)
        obtain ⟨b0, b1, b2⟩ := res3b hv e0 e1 e2
        obtain ⟨_, _, _, kz⟩ := res3 hv e0 e1 e2
        have hD3 : S + 3 ≤ D := by omega
        have hvD : v.heap[D]? = some (.deferred (some [])) := kz.blk (kU.blk HK2.out (fun h => h)) (fun h => by have := h.2; omega)
        have st : Steady w3.heap.size v (v.putObj D (.deferred none)) := Steady.putObj _ hD hvD rfl
        have k5 : Kept noBlock w v := (K2'.out.step kU).trans kz (fun i hi h => by have := h.1; have := HRW.out; omega)
        refine ⟨hvD, ⟨cell_of_row _ _ _ _ _ _ (blk_steady b0 st), cell_of_row _ _ _ _ _ _ (blk_steady b1 st), cell_of_row _ _ _ _ _ _ (blk_steady b2 st)⟩, k5.trans st (fun i hi h => absurd h.1 (by omega)), ?_⟩
        refine own_steady (own_keep (own_keep GO2.out kU (fun _ _ h => h)) kz (fun i hi h => ?_)) st
        have := (GO2.out.lt i hi).1
        have := h.2
        omega
      have HR3 : Hid (entCells es = entCells es) := rfl
      clear d0 d1 d2 d5 d6 c5 k2 ROW HG HK GO HEND G5
      by_cases hr : r = true
      · subst hr
        have c5 : W2.drew.cell? ⟨S + 2, 0, none⟩ = some (.slice A k rc) := cell_of_row _ _ _ _ _ _ D5.out
        have c6 : W2.drew.cell? ⟨S + 1, 0, none⟩ = some (.int .i64 (p : Int)) := cell_of_row _ _ _ _ _ _ D6.out
        clear c0 c1 c2' f0 f1 f2
        go_upto_region 17 with (fail)
        refine wp_region_noPanic ?_
        refine wp_region_held_drew (S := fun u => u.cell? ⟨S + 2, 0, none⟩ = some (.slice A k rc) ∧ u.cell? ⟨S + 1, 0, none⟩ = some (.int .i64 (p : Int))) (by kernel_rfl) ⟨c5, c6⟩ (fun hHeld => ?_)
        refine wpAnyH_take (i := 0) (oi := ⟨some 54, Op.load 41 (Operand.tmp 11), 41, _, _, none⟩) (v := ?v0n30k1) rfl (by kernel_rfl) (by kernel_rfl) (by kernel_rfl) (fun _ _ _ h => h) (Or.inl ⟨by rfl, ?y0n30k1⟩) hHeld ?z0n30k1
        case y0n30k1 => intro w hSw; (try dsimp only at hSw); go_simp <;> rfl
        try simp only [Act.put, List.setIfInBounds_toArray, List.set_cons_zero, List.set_cons_succ]
        refine wpAnyH_take (i := 1) (oi := ⟨some 55, Op.load 3 (Operand.tmp 10), 3, _, _, none⟩) (v := ?v1n30k2) rfl (by kernel_rfl) (by kernel_rfl) (by kernel_rfl) (fun _ _ _ h => h) (Or.inl ⟨by rfl, ?y1n30k2⟩) hHeld ?z1n30k2
        case y1n30k2 => intro w hSw; (try dsimp only at hSw); go_simp <;> rfl
        try simp only [Act.put, List.setIfInBounds_toArray, List.set_cons_zero, List.set_cons_succ]
        refine wpAnyH_ready (rs := [2]) (by kernel_rfl) (by simp) ?_
        refine AllReadyH.cons (o := ⟨none, Op.store 41 (Operand.tmp 4) (Operand.tmp 54), 0, _, _, none⟩) rfl (fun K hK => ?_) AllReadyH.nil
        have qq : W2.drew.heap = W2.heap ∧ W2.drew.os = W2.os ∧ W2.drew.tape = W2.tape ∧ W2.drew.output = W2.output := ⟨rfl, rfl, rfl, rfl⟩
        generalize W2.drew = U at qq c5 c6 hHeld ⊢
        have QQ := Lib.hid qq
        obtain ⟨⟨g0, g0'⟩, ⟨⟨g1, g1'⟩, g15, g16⟩, ⟨⟨g2, g2'⟩, g25, g26⟩, g35, g36⟩ := three_facts (U := U) Z2 (by rw [qq.1]; exact D0.out) (by rw [qq.1]; exact D1.out) (by rw [qq.1]; exact D2.out) (by rw [qq.1]; exact D5.out) (by rw [qq.1]; exact D6.out) (.slice A k rc) (.int .i64 (p : Int)) (.int .i64 0)
        clear qq
        go_simp
        refine hK.out _ _ ⟨g15, g16⟩ (fun hHeld => ?_)
        clear hK K
        try simp only [Act.put, List.setIfInBounds_toArray, List.set_cons_zero, List.set_cons_succ]
        refine wpAnyH_ready (rs := [3]) (by kernel_rfl) (by simp) ?_
        refine AllReadyH.cons (o := ⟨none, Op.store 3 (Operand.tmp 5) (Operand.tmp 55), 0, _, _, none⟩) rfl (fun K hK => ?_) AllReadyH.nil
        go_simp
        refine hK.out _ _ ⟨g25, g26⟩ (fun hHeld => ?_)
        clear hK K
        try simp only [Act.put, List.setIfInBounds_toArray, List.set_cons_zero, List.set_cons_succ]
        refine wpAnyH_ready (rs := [4]) (by kernel_rfl) (by simp) ?_
        refine AllReadyH.cons (o := ⟨none, Op.store 32 (Operand.tmp 6) (Operand.const (Value.int IntKind.i64 0)), 0, _, _, none⟩) rfl (fun K hK => ?_) AllReadyH.nil
        go_simp
        refine hK.out _ _ ⟨g35, g36⟩ (fun hHeld => ?_)
        clear hK K
        try simp only [Act.put, List.setIfInBounds_toArray, List.set_cons_zero, List.set_cons_succ]
        refine wpAnyH_done (by kernel_rfl) ?_ _
        refine NoPanic.normal ?_
        go_wp2
        obtain ⟨v, hv⟩ : ∃ v, v = ((U.setCell ⟨R, 0, none⟩ (.slice A k rc)).setCell ⟨R + 1, 0, none⟩ (.int .i64 (p : Int))).setCell ⟨R + 2, 0, none⟩ (.int .i64 0) := ⟨_, rfl⟩
        change bodyPostM _ _ _ _ _ _ _ (((U.setCell ⟨R, 0, none⟩ (.slice A k rc)).setCell ⟨R + 1, 0, none⟩ (.int .i64 (p : Int))).setCell ⟨R + 2, 0, none⟩ (.int .i64 0))
        rw [← hv]
        obtain ⟨hD2, ⟨y0, y1, y2⟩, kz, oz⟩ := FIN.out v _ _ _ U QQ.out.1 QQ.out.2.1 QQ.out.2.2.1 QQ.out.2.2.2 hv
        clear g0 g0' g1 g1' g15 g16 g2 g2' g25 g26 g35 g36 hHeld hv
        refine ⟨by simp, .inl ⟨_, _, rfl, run_takeDeferred (w := v) hD2, ?_⟩⟩
        refine ⟨.tuple #[.slice A k rc, .int .i64 (p : Int), .int .i64 0], by simp [results, Tryz.results10, go_sem, Tryz.isAgg41, Tryz.sizeOf41, Tryz.isAgg3, Tryz.sizeOf3, Tryz.isAgg32, Tryz.sizeOf32, y0, y1, y2], es, p, 0, A, rc, ?_, .inl ⟨rfl, ?_, ?_⟩, ?_, kz⟩
        · rw [← HKE.out]
        · rw [HPE.out]
          unfold fileB
          rw [List.length_append, partB_length, entsB_joined, HES.out]
        · exact part_ok HP.out (by rw [HES.out]; exact HT.out) HBAD.out HRR.out.symm
        · rw [← HKE.out]
          exact own_base oz (fun i hi => Nat.le_trans hwm (oz.lt i hi).1)
      · obtain rfl : r = false := by simpa using hr
        go_wp2
        obtain ⟨v, hv⟩ : ∃ v, v = ((W2.setCell ⟨R, 0, none⟩ (.slice none 0 0)).setCell ⟨R + 1, 0, none⟩ (.int .i64 0)).setCell ⟨R + 2, 0, none⟩ (.int .i64 10) := ⟨_, rfl⟩
        change bodyPostM _ _ _ _ _ _ _ (((W2.setCell ⟨R, 0, none⟩ (.slice none 0 0)).setCell ⟨R + 1, 0, none⟩ (.int .i64 0)).setCell ⟨R + 2, 0, none⟩ (.int .i64 10))
        rw [← hv]
        obtain ⟨hD2, ⟨y0, y1, y2⟩, kz, oz⟩ := FIN.out v _ _ _ W2 rfl rfl rfl rfl hv
        clear hv
        refine ⟨by simp, .inl ⟨_, _, rfl, run_takeDeferred (w := v) hD2, ?_⟩⟩
        refine ⟨.tuple #[.slice none 0 0, .int .i64 0, .int .i64 10], by simp [results, Tryz.results10, go_sem, Tryz.isAgg41, Tryz.sizeOf41, Tryz.isAgg3, Tryz.sizeOf3, Tryz.isAgg32, Tryz.sizeOf32, y0, y1, y2], [], 0, 10, none, 0, rfl, .inr ⟨rfl, rfl, rfl, ?_⟩, World.ownsRow_nil _ _ _ _, kz⟩
        exact part_bad_row (by rw [HES.out]; exact HT.out) HBAD.out HRI.out HRR.out.symm
    case stop =>
      rintro D cd pre W hD _ ⟨rfl, h⟩ hK
      have hb := h.out
      clear h
      have st : Steady w3.heap.size W (W.putObj D (.deferred none)) := Steady.putObj _ hD hK rfl
      have y0 : (W.putObj D (.deferred none)).cell? ⟨R, 0, none⟩ = some (.slice none 0 0) := cell_of_row _ _ _ _ _ _ (blk_steady hb.r0 st)
      have y1 : (W.putObj D (.deferred none)).cell? ⟨R + 1, 0, none⟩ = some (.int .i64 0) := cell_of_row _ _ _ _ _ _ (blk_steady hb.r1 st)
      have y2 : (W.putObj D (.deferred none)).cell? ⟨R + 2, 0, none⟩ = some (.int .i64 10) := cell_of_row _ _ _ _ _ _ (blk_steady hb.r2 st)
      have kz : Kept noBlock w (W.putObj D (.deferred none)) := hb.kept.trans st (fun i hi h => absurd h.1 (by omega))
      obtain ⟨r, hr, hrn⟩ := hb.none_
      obtain ⟨t, ht⟩ := hb.is
      have HBB := Lib.hid (part_bad_entry (f := (f : Int)) ht hr hrn)
      clear hb ht hr hrn st
      refine wpIn_ret ?_
      go_wp2
      refine ⟨by simp, .inl ⟨_, _, rfl, run_takeDeferred (w := W) hK, ?_⟩⟩
      exact ⟨.tuple #[.slice none 0 0, .int .i64 0, .int .i64 10], by simp [results, Tryz.results10, go_sem, Tryz.isAgg41, Tryz.sizeOf41, Tryz.isAgg3, Tryz.sizeOf3, Tryz.isAgg32, Tryz.sizeOf32, y0, y1, y2], [], 0, 10, none, 0, rfl, .inr ⟨rfl, rfl, rfl, HBB.out⟩, World.ownsRow_nil _ _ _ _, kz⟩
  · go_enter Tryz.func10, Tryz.ntmps10
    go_upto_region 1 with (fail)
    rw [← hw1]
    clear hw1
    go_wp2_with fail
    refine PA.out.mono ?_
    rintro e w2 ⟨P2, c2, rfl, o2, k2⟩
    have LP := Lib.hid (Lies.of_own (F := fun _ => True) o2 (fun _ _ => trivial))
    have K2 := Lib.hid (K1.out.step k2)
    have R02 := Lib.hid (k2.blk R0.out (fun h => h))
    have R12 := Lib.hid (k2.blk R1.out (fun h => h))
    have R22 := Lib.hid (k2.blk R2.out (fun h => h))
    have Z2 : w.heap.size + 3 ≤ w2.heap.size := by have := Z1.out; have := k2.size; omega
    clear o2 k2 R0 R1 R2 Z1 PA K1
    have CU := Lib.hid (cut_no F _ a n c P2 26 c2 l (partB f) w2 (HW.out.keep K2.out (fun _ _ h => h)) HL.out LP.out (partB_length f) hc hp)
    have HB := Lib.hid (part_bad_head hp)
    clear hp LP HW
    go_wp2_with fail
    refine CU.out.mono ?_
    rintro e w3 ⟨rfl, rfl⟩
    have c0 : w2.cell? ⟨w.heap.size, 0, none⟩ = some (.slice none 0 0) := cell_of_row _ _ _ _ _ _ R02.out
    have c1 : w2.cell? ⟨w.heap.size + 1, 0, none⟩ = some (.int .i64 0) := cell_of_row _ _ _ _ _ _ R12.out
    have c2' : w2.cell? ⟨w.heap.size + 2, 0, none⟩ = some (.int .i64 0) := cell_of_row _ _ _ _ _ _ R22.out
    have f0 : w2.frozen? ⟨w.heap.size, 0, none⟩ = false := frozen_of_row _ _ _ _ _ R02.out
    have f1 : w2.frozen? ⟨w.heap.size + 1, 0, none⟩ = false := frozen_of_row _ _ _ _ _ R12.out
    have f2 : w2.frozen? ⟨w.heap.size + 2, 0, none⟩ = false := frozen_of_row _ _ _ _ _ R22.out
    clear CU
    go_wp2
    obtain ⟨v, hv⟩ : ∃ v, v = ((w2.setCell ⟨w.heap.size, 0, none⟩ (.slice none 0 0)).setCell ⟨w.heap.size + 1, 0, none⟩ (.int .i64 0)).setCell ⟨w.heap.size + 2, 0, none⟩ (.int .i64 10) := ⟨_, rfl⟩
    change bodyPost _ _ _ _ _ (((w2.setCell ⟨w.heap.size, 0, none⟩ (.slice none 0 0)).setCell ⟨w.heap.size + 1, 0, none⟩ (.int .i64 0)).setCell ⟨w.heap.size + 2, 0, none⟩ (.int .i64 10))
    rw [← hv]
    obtain ⟨z0, z1, z2, kz⟩ := res3 hv R02.out R12.out R22.out
    have KZ : Kept noBlock w v := ((K2.out.mono (T := fun i => w.heap.size ≤ i) (fun _ _ h => h.elim)).trans kz (fun i _ h => h.1)).mono (fun i hi h => by omega)
    refine bodyPost_ret (v := .tuple #[.slice none 0 0, .int .i64 0, .int .i64 10]) (by simp [results, Tryz.results10, go_sem, Tryz.isAgg41, Tryz.sizeOf41, Tryz.isAgg3, Tryz.sizeOf3, Tryz.isAgg32, Tryz.sizeOf32, z0, z1, z2]) rfl ?_
    exact ⟨[], 0, 10, none, 0, rfl, .inr ⟨rfl, rfl, rfl, HB.out⟩, World.ownsRow_nil _ _ _ _, KZ⟩
end Go.Proofs.YthmjjhjblokjeaaGreat
