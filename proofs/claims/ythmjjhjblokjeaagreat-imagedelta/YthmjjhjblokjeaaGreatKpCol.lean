/-
  Pairs are collected in a row, which a box has, in a loop over Merge; deltas and states at their places. No statement is proved here.
-/
import Derived.Test.YthmjjhjblokjeaaGreatKpK
import Derived.Test.YthmjjhjblokjeaaGreatConK
import Derived.Deep.DeepCutAuto
namespace Go.Proofs.YthmjjhjblokjeaaGreat
open Go.RowKit Tot

/-- A delta at a place, at a step of a region that draws its order: the place is made, and written. -/
theorem step_allocD {w : World} {ops : Array Oper} {d : Nat} {ty : TypeId} {pos : String} {aft : Array Edge} {act : Act} {K : Act → World → Prop} {Q : Exit → Act → World → Prop} {E : Prop}
    (hK : ∀ X u, Kept noBlock w u → w.heap.size ≤ X → u.heap[X]? = some (.cells #[.int .i64 0, .int .i64 0, .int .i64 0, .slice none 0 0, .slice none 0 0] 31 (0, 0)) → K (act.put (some d) (.pointer (some ⟨X, 0, none⟩))) u) :
    if Region.wanted ⟨some d, .alloc 31, ty, pos, aft, none⟩ (yielded ops act.tmps) = true then Oper.wp Tryz.prog ⟨some d, .alloc 31, ty, pos, aft, none⟩ act w K Q else E := by
  rw [if_pos (by simp [Region.wanted])]
  have hk := hK _ _ (Kept.alloc noBlock w _) (Nat.le_refl _) (heap_alloc_new w _)
  clear hK
  go_simp
  exact hk
theorem step_allocS {w : World} {ops : Array Oper} {d : Nat} {ty : TypeId} {pos : String} {aft : Array Edge} {act : Act} {K : Act → World → Prop} {Q : Exit → Act → World → Prop} {E : Prop}
    (hK : ∀ X u, Kept noBlock w u → w.heap.size ≤ X → u.heap[X]? = some (.cells #[.int .i64 0, .int .i64 0, .slice none 0 0, .slice none 0 0] 27 (0, 0)) → K (act.put (some d) (.pointer (some ⟨X, 0, none⟩))) u) :
    if Region.wanted ⟨some d, .alloc 27, ty, pos, aft, none⟩ (yielded ops act.tmps) = true then Oper.wp Tryz.prog ⟨some d, .alloc 27, ty, pos, aft, none⟩ act w K Q else E := by
  rw [if_pos (by simp [Region.wanted])]
  have hk := hK _ _ (Kept.alloc noBlock w _) (Nat.le_refl _) (heap_alloc_new w _)
  clear hK
  go_simp
  exact hk
def setD (w : World) (R : Nat) (x0 x1 x2 x3 x4 : Value) : World := ((((w.setCell ⟨R, 0, none⟩ x0).setCell ⟨R, 1, none⟩ x1).setCell ⟨R, 2, none⟩ x2).setCell ⟨R, 3, none⟩ x3).setCell ⟨R, 4, none⟩ x4
theorem setD_block {w : World} {R : Nat} {x0 x1 x2 x3 x4 y0 y1 y2 y3 y4 : Value} {t : TypeId} (h : w.heap[R]? = some (.cells #[y0, y1, y2, y3, y4] t (0, 0))) : (setD w R x0 x1 x2 x3 x4).heap[R]? = some (.cells #[x0, x1, x2, x3, x4] t (0, 0)) := by
  unfold setD
  have h0 := heap_setCell_same w R 0 _ t x0 h
  have h1 := heap_setCell_same _ R 1 _ t x1 h0
  have h2 := heap_setCell_same _ R 2 _ t x2 h1
  have h3 := heap_setCell_same _ R 3 _ t x3 h2
  have h4 := heap_setCell_same _ R 4 _ t x4 h3
  rw [h4]
  simp
theorem setD_kept (w : World) (R : Nat) (x0 x1 x2 x3 x4 : Value) : Kept (fun k => k = R) w (setD w R x0 x1 x2 x3 x4) := by
  unfold setD
  exact ((((Kept.setCell w (by rfl) _).step (Kept.setCell _ (by rfl) _)).step (Kept.setCell _ (by rfl) _)).step (Kept.setCell _ (by rfl) _)).step (Kept.setCell _ (by rfl) _)
def setQc (w : World) (R : Nat) (x0 x1 x2 x3 : Value) : World := (((w.setCell ⟨R, 0, none⟩ x0).setCell ⟨R, 1, none⟩ x1).setCell ⟨R, 2, none⟩ x2).setCell ⟨R, 3, none⟩ x3
theorem setQ_block {w : World} {R : Nat} {x0 x1 x2 x3 y0 y1 y2 y3 : Value} {t : TypeId} (h : w.heap[R]? = some (.cells #[y0, y1, y2, y3] t (0, 0))) : (setQc w R x0 x1 x2 x3).heap[R]? = some (.cells #[x0, x1, x2, x3] t (0, 0)) := by
  unfold setQc
  have h0 := heap_setCell_same w R 0 _ t x0 h
  have h1 := heap_setCell_same _ R 1 _ t x1 h0
  have h2 := heap_setCell_same _ R 2 _ t x2 h1
  have h3 := heap_setCell_same _ R 3 _ t x3 h2
  rw [h3]
  simp
theorem setQ_kept (w : World) (R : Nat) (x0 x1 x2 x3 : Value) : Kept (fun k => k = R) w (setQc w R x0 x1 x2 x3) := by
  unfold setQc
  exact (((Kept.setCell w (by rfl) _).step (Kept.setCell _ (by rfl) _)).step (Kept.setCell _ (by rfl) _)).step (Kept.setCell _ (by rfl) _)
theorem step_storeD {w : World} {ops : Array Oper} {ty : TypeId} {pos : String} {aft : Array Edge} {p q : Nat} {act : Act} {K : Act → World → Prop} {Q : Exit → Act → World → Prop} {E : Prop} {X : Nat} {y0 y1 y2 y3 y4 : Value} {f t m : Int} {A : Option Addr} {n c : Nat} {B : Option Addr} {k d : Nat}
    (hp : act.tmps[p]?.getD undef = .pointer (some ⟨X, 0, none⟩)) (hv : act.tmps[q]?.getD undef = .agg #[.int .i64 f, .int .i64 t, .int .i64 m, .slice A n c, .slice B k d]) (hb : w.heap[X]? = some (.cells #[y0, y1, y2, y3, y4] 31 (0, 0)))
    (hK : ∀ u, Kept (fun i => i = X) w u → u.heap[X]? = some (.cells #[.int .i64 f, .int .i64 t, .int .i64 m, .slice A n c, .slice B k d] 31 (0, 0)) → K act u) :
    if Region.wanted ⟨none, .store 31 (.tmp p) (.tmp q), ty, pos, aft, none⟩ (yielded ops act.tmps) = true then Oper.wp Tryz.prog ⟨none, .store 31 (.tmp p) (.tmp q), ty, pos, aft, none⟩ act w K Q else E := by
  rw [if_pos (by simp [Region.wanted])]
  have hk := hK _ (setD_kept w X (.int .i64 f) (.int .i64 t) (.int .i64 m) (.slice A n c) (.slice B k d)) (setD_block hb)
  clear hK
  unfold setD at hk
  obtain ⟨d0, d1, d2, d3, d4⟩ := dl_cells hb
  have fz : ∀ j, w.frozen? ⟨X, j, none⟩ = false := fun j => frozen_of_row _ _ _ _ _ hb
  have f0 := fz 0
  have f1 := fz 1
  have f2 := fz 2
  have f3 := fz 3
  have f4 := fz 4
  clear fz
  go_simp
  exact hk
theorem step_storeS {w : World} {ops : Array Oper} {ty : TypeId} {pos : String} {aft : Array Edge} {p q : Nat} {act : Act} {K : Act → World → Prop} {Q : Exit → Act → World → Prop} {E : Prop} {X : Nat} {y0 y1 y2 y3 : Value} {f t : Int} {A : Option Addr} {n c : Nat} {B : Option Addr} {k d : Nat}
    (hp : act.tmps[p]?.getD undef = .pointer (some ⟨X, 0, none⟩)) (hv : act.tmps[q]?.getD undef = .agg #[.int .i64 f, .int .i64 t, .slice A n c, .slice B k d]) (hb : w.heap[X]? = some (.cells #[y0, y1, y2, y3] 27 (0, 0)))
    (hK : ∀ u, Kept (fun i => i = X) w u → u.heap[X]? = some (.cells #[.int .i64 f, .int .i64 t, .slice A n c, .slice B k d] 27 (0, 0)) → K act u) :
    if Region.wanted ⟨none, .store 27 (.tmp p) (.tmp q), ty, pos, aft, none⟩ (yielded ops act.tmps) = true then Oper.wp Tryz.prog ⟨none, .store 27 (.tmp p) (.tmp q), ty, pos, aft, none⟩ act w K Q else E := by
  rw [if_pos (by simp [Region.wanted])]
  have hk := hK _ (setQ_kept w X (.int .i64 f) (.int .i64 t) (.slice A n c) (.slice B k d)) (setQ_block hb)
  clear hK
  unfold setQc at hk
  obtain ⟨d0, d1, d2, d3⟩ := st_cells hb
  have fz : ∀ j, w.frozen? ⟨X, j, none⟩ = false := fun j => frozen_of_row _ _ _ _ _ hb
  have f0 := fz 0
  have f1 := fz 1
  have f2 := fz 2
  have f3 := fz 3
  clear fz
  go_simp
  exact hk

namespace KP
theorem own_abide {T : Nat → TypeId → Prop} {m : Nat} {A C : World} {base e size n : Nat} {v : Value} {xs : List Value} (h : Abide T m A C) (ho : A.ownsRow base e size v n xs) (hn : ∀ b, v.ownBlock = some b → b < m ∨ ¬ T b e) : C.ownsRow base e size v n xs := by
  refine ⟨ho.1, ?_⟩
  rcases ho.2 with h1 | ⟨g, cap, cur, rfl, hb, hgg, rest⟩
  · exact .inl h1
  · exact .inr ⟨g, cap, cur, rfl, hb, h.blk hgg (hn g rfl), rest⟩

theorem lies_abide {T : Nat → TypeId → Prop} {m : Nat} {A C : World} {F : Nat → Prop} {a : Option Addr} {xs : List Value} (h : Lies A F a xs) (k : Abide T m A C) (hn : ∀ i t, F i → i < m ∨ ¬ T i t) : Lies C F a xs := fun hx => by
  obtain ⟨ad, e, hf, hc⟩ := h hx
  refine ⟨ad, e, hf, fun j u hu => ?_⟩
  have h1 := hc j u hu
  obtain ⟨cs, t, fr, hb⟩ := cells_at h1
  rw [World.cell?_of_block ((k.blk hb (hn _ t (by rw [block_add]; exact hf))).trans hb.symm)]
  exact h1

/-- Since w5 pairs came into a row: the box at Bd has it ('cs': its cells, by the row). -/
structure Col (w5 : World) (Bd : Nat) (cs : Value → Array Value) (t : TypeId) (L : Prs) (O : Nat → Prop) (V : World) : Prop where
  at_ : ∃ P c, V.heap[Bd]? = some (.cells (cs (.slice P L.length c)) t (0, 0)) ∧ V.ownsRow w5.heap.size 68 3 (.slice P L.length c) L.length (PR.cells L) ∧ ∀ k, O k ↔ (Value.slice P L.length c).ownBlock = some k
  kept : Kept (fun k => k = Bd) w5 V
section
variable {w5 A C : World} {Bd B : Nat} {cs : Value → Array Value} {t : TypeId} {L : Prs} {O : Nat → Prop}
theorem Col.start (h : w5.heap[Bd]? = some (.cells (cs (.slice none 0 0)) t (0, 0))) : Col w5 Bd cs t [] (fun _ => False) w5 :=
  ⟨⟨none, 0, h, World.ownsRow_nil _ _ _ _, fun k => ⟨fun h => h.elim, fun h => by simp [Value.ownBlock] at h⟩⟩, Kept.refl _ _⟩
theorem Col.abide (h : Col w5 Bd cs t L O A) (k : Abide (TM O) w5.heap.size A C) (hd : Bd < w5.heap.size) : Col w5 Bd cs t L O C := by
  obtain ⟨P, c, h1, h2, h3⟩ := h.at_
  refine ⟨⟨P, c, k.blk h1 (.inl hd), own_abide k h2 (fun b hb => .inr ?_), h3⟩, Abide.kept h.kept k (Nat.le_refl _)⟩
  rintro (hu | hu)
  · exact absurd hu (by decide)
  · exact hu.2 ((h3 b).2 hb)
theorem Col.keep (h : Col w5 Bd cs t L O A) (k : Kept noBlock A C) : Col w5 Bd cs t L O C := by
  obtain ⟨P, c, h1, h2, h3⟩ := h.at_
  exact ⟨⟨P, c, k.blk h1 (fun h => h), own_keep h2 k (fun _ _ h => h), h3⟩, h.kept.trans k (fun _ _ h => h.elim)⟩
theorem Col.bd (h : Col w5 Bd cs t L O A) (k : Nat) (ho : O k) : k < A.heap.size := by
  obtain ⟨P, c, _, h2, h3⟩ := h.at_
  exact (h2.lt k ((h3 k).1 ho)).2
theorem um_ap {k : Nat} (hB : B ≤ k) (ho : O k) : ¬ UM B O k 68 := by
  rintro (hu | hu | hu | hu)
  · exact not_uo_ap hB hu
  · exact absurd hu (by decide)
  · exact absurd hu (by decide)
  · exact hu.2 ho
/-- A pair comes into the row. -/
theorem Col.next {W0 w1 : World} {q : Nat} {P A' : Option Addr} {c c' m : Nat} {x : ByteArray × (ByteArray × Bool)} (hB : B ≤ w5.heap.size) (hBd : B ≤ Bd) (hd : Bd < w5.heap.size) (ht : t ≠ 68) (hu : ∀ O k, B ≤ k → ¬ UM B O k t) (hset : ∀ (W : World) (a b : Value), W.heap[Bd]? = some (.cells (cs a) t (0, 0)) → (W.setCell ⟨Bd, q, none⟩ b).heap[Bd]? = some (.cells (cs b) t (0, 0)))
    (h : Col w5 Bd cs t L O A) (h1 : A.heap[Bd]? = some (.cells (cs (.slice P L.length c)) t (0, 0))) (h2 : A.ownsRow w5.heap.size 68 3 (.slice P L.length c) L.length (PR.cells L)) (h3 : ∀ k, O k ↔ (Value.slice P L.length c).ownBlock = some k)
    (k0 : Kept noBlock A W0) (o1 : w1.ownsRow 0 68 3 (.slice A' (L.length + 1) c') (L.length + 1) (PR.cells (L ++ [x]))) (g1 : Grew W0 w1 (.slice P L.length c) (.slice A' (L.length + 1) c')) :
    w1.heap[Bd]? = some (.cells (cs (.slice P L.length c)) t (0, 0)) ∧
    ∃ O', Went (UM B) m O A O' (w1.setCell ⟨Bd, q, none⟩ (.slice A' (L.length + 1) c')) ∧ Col w5 Bd cs t (L ++ [x]) O' (w1.setCell ⟨Bd, q, none⟩ (.slice A' (L.length + 1) c')) := by
  have g2 := Grew.after k0 g1
  have n3 : (Value.slice P L.length c).ownBlock ≠ some Bd := fun e => by have := (h2.lt _ e).1; omega
  have b3 := g2.kept.blk h1 n3
  refine ⟨b3, fun k => (Value.slice A' (L.length + 1) c').ownBlock = some k, ?_, ?_⟩
  · have kk : Kept (fun k => (Value.slice P L.length c).ownBlock = some k ∨ k = Bd) A (w1.setCell ⟨Bd, q, none⟩ (.slice A' (L.length + 1) c')) := (g2.kept.mono (fun _ _ h => .inl h)).step (Kept.setCell w1 (.inr rfl) _)
    have hS : ∀ k, ((Value.slice P L.length c).ownBlock = some k ∨ k = Bd) → ∃ cs t fr, A.heap[k]? = some (.cells cs t fr) ∧ ¬ UM B O k t := by
      rintro k (hk | rfl)
      · have hge := (h2.lt k hk).1
        rcases h2.2 with ⟨e, _⟩ | ⟨g, cap, cur, e, _, hgg, _⟩
        · rw [e] at hk; cases hk
        · rw [e] at hk
          have : g = k := by simpa [Value.ownBlock] using hk
          subst this
          exact ⟨_, _, _, hgg, um_ap (Nat.le_trans hB hge) ((h3 g).2 (by rw [e]; exact hk))⟩
      · exact ⟨_, _, _, h1, hu O k hBd⟩
    refine ⟨Spares.of kk hS, keepsFrom_kept kk (fun i _ hi => by obtain ⟨cs, t, fr, e, _⟩ := hS i hi; exact ⟨cs, t, fr, e⟩), fun k hk => ?_⟩
    rcases g2.at_ k hk with h4 | h4
    · exact .inl ((h3 k).2 h4)
    · exact .inr ⟨h4.1, by have := h4.2; simpa [World.setCell] using this⟩
  · have o3 : (Value.slice A' (L.length + 1) c').ownBlock ≠ some Bd := own_ne o1 b3 (fun e => ht e.symm)
    refine ⟨⟨A', c', ?_, ?_, fun k => ?_⟩, ?_⟩
    · rw [List.length_append, List.length_singleton]
      exact hset _ _ _ b3
    · rw [List.length_append, List.length_singleton]
      refine own_base (own_keep o1 (Kept.setCell (S := fun i => i = Bd) w1 (by rfl) _) (fun i hi e => o3 (e ▸ hi))) (fun i hi => ?_)
      rcases g2.at_ i hi with h4 | h4
      · exact (h2.lt i h4).1
      · exact Nat.le_trans h.kept.size h4.1
    · rw [List.length_append, List.length_singleton]
    · refine h.kept.trans ((g2.kept.mono (T := fun k => (Value.slice P L.length c).ownBlock = some k ∨ k = Bd) (fun _ _ h => .inl h)).step (Kept.setCell w1 (.inr rfl) _)) (fun i hi hs => ?_)
      rcases hs with hs | hs
      · have := (h2.lt i hs).1; omega
      · exact hs
end
theorem um_delta (B : Nat) (O : Nat → Prop) (k : Nat) (hk : B ≤ k) : ¬ UM B O k 31 := by
  rintro ((hu | hu | hu) | hu | hu | hu)
  · omega
  · exact absurd hu (by decide)
  · exact absurd hu (by decide)
  · exact absurd hu (by decide)
  · exact absurd hu (by decide)
  · exact absurd hu.1 (by decide)
theorem um_state (B : Nat) (O : Nat → Prop) (k : Nat) (hk : B ≤ k) : ¬ UM B O k 27 := by
  rintro ((hu | hu | hu) | hu | hu | hu)
  · omega
  · exact absurd hu (by decide)
  · exact absurd hu (by decide)
  · exact absurd hu (by decide)
  · exact absurd hu (by decide)
  · exact absurd hu.1 (by decide)
end KP
/-- A delta as its box has it. -/
def dcells (f t m : Int) (v : Value) (B : Option Addr) (k d : Nat) : Array Value := #[.int .i64 f, .int .i64 t, .int .i64 m, v, .slice B k d]
theorem dcells_set {f t m : Int} {B : Option Addr} {k d X : Nat} (W : World) (a b : Value) (h : W.heap[X]? = some (.cells (dcells f t m a B k d) 31 (0, 0))) : (W.setCell ⟨X, 3, none⟩ b).heap[X]? = some (.cells (dcells f t m b B k d) 31 (0, 0)) := by
  unfold dcells at h ⊢
  rw [heap_setCell_same W X 3 _ 31 b h]
  simp

/-- Three boxes at a call's beginning: two deltas, and a place. -/
theorem box3 (w : World) (a b c : Array Value) (t u x : TypeId) : Kept noBlock w (((w.alloc (.cells a t)).alloc (.cells b u)).alloc (.cells c x)) ∧ (((w.alloc (.cells a t)).alloc (.cells b u)).alloc (.cells c x)).heap.size = w.heap.size + 3 ∧
    (((w.alloc (.cells a t)).alloc (.cells b u)).alloc (.cells c x)).heap[w.heap.size]? = some (.cells a t (0, 0)) ∧ (((w.alloc (.cells a t)).alloc (.cells b u)).alloc (.cells c x)).heap[w.heap.size + 1]? = some (.cells b u (0, 0)) ∧ (((w.alloc (.cells a t)).alloc (.cells b u)).alloc (.cells c x)).heap[w.heap.size + 2]? = some (.cells c x (0, 0)) :=
  ⟨((Kept.alloc _ _ _).step (Kept.alloc _ _ _)).step (Kept.alloc _ _ _), by simp, ((Kept.alloc noBlock _ _).step (Kept.alloc _ _ _)).blk (heap_alloc_new w _) (fun h => h), (Kept.alloc noBlock _ _).blk (heap_alloc_at (by simp)) (fun h => h), heap_alloc_at (by simp)⟩
/-- A state as its box has it. -/
def scells2 (f t : Int) (v : Value) (B : Option Addr) (k d : Nat) : Array Value := #[.int .i64 f, .int .i64 t, v, .slice B k d]
theorem scells2_set {f t : Int} {B : Option Addr} {k d X : Nat} (W : World) (a b : Value) (h : W.heap[X]? = some (.cells (scells2 f t a B k d) 27 (0, 0))) : (W.setCell ⟨X, 2, none⟩ b).heap[X]? = some (.cells (scells2 f t b B k d) 27 (0, 0)) := by
  unfold scells2 at h ⊢
  rw [heap_setCell_same W X 2 _ 27 b h]
  simp
end Go.Proofs.YthmjjhjblokjeaaGreat
