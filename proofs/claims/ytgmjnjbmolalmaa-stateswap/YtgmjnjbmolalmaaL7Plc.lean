/-
  Places for a state and for what is told, that come in whatever order. No statement is proved here.
-/
import Derived.Test.YtgmjnjbmolalmaaL7Fold
namespace Go.Proofs.Ytgmjnjbmolalmaa
open Go.RowKit Tot

/-- A place for what is told, at a step of a region that draws its order. -/
theorem step_allocR {w : World} {ops : Array Oper} {d : Nat} {ty : TypeId} {pos : String} {aft : Array Edge} {act : Act} {K : Act → World → Prop} {Q : Exit → Act → World → Prop} {E : Prop}
    (hK : ∀ X u, Kept noBlock w u → w.heap.size ≤ X → u.heap[X]? = some (.cells #[.int .i64 0, .string ⟨#[]⟩] 44 (0, 0)) → K (act.put (some d) (.pointer (some ⟨X, 0, none⟩))) u) :
    if Region.wanted ⟨some d, .alloc 44, ty, pos, aft, none⟩ (yielded ops act.tmps) = true then Oper.wp Try.prog ⟨some d, .alloc 44, ty, pos, aft, none⟩ act w K Q else E := by
  rw [if_pos (by simp [Region.wanted])]
  have hk := hK _ _ (Kept.alloc noBlock w _) (Nat.le_refl _) (heap_alloc_new w _)
  clear hK
  go_simp
  exact hk
/-- Since w0 only new blocks came; places for a state and for what is told, each that is there is new; a state that is there lies in none of them. -/
structure Plc (w0 u : World) (x y : Option Nat) (v : Option (StV × Option Addr × Nat × Option Addr × Nat)) : Prop where
  kept : Kept noBlock w0 u
  hasX : ∀ X, x = some X → w0.heap.size ≤ X ∧ u.heap[X]? = some (.cells #[.int .i64 0, .int .i64 0, .slice none 0 0, .slice none 0 0] 33 (0, 0))
  hasY : ∀ Y, y = some Y → w0.heap.size ≤ Y ∧ u.heap[Y]? = some (.cells #[.int .i64 0, .string ⟨#[]⟩] 44 (0, 0))
  hasV : ∀ s A c B d, v = some (s, A, c, B, d) → Sv u (fun i => x ≠ some i ∧ y ≠ some i) s A c B d
section
variable {w0 w w' : World} {x y : Option Nat} {v : Option (StV × Option Addr × Nat × Option Addr × Nat)}
theorem Plc.start (k : Kept noBlock w0 w) : Plc w0 w none none none := ⟨k, fun _ h => (by cases h), fun _ h => (by cases h), fun _ _ _ _ _ h => (by cases h)⟩
theorem Plc.step (h : Plc w0 w x y v) (k : Kept noBlock w w') : Plc w0 w' x y v :=
  ⟨h.kept.step k, fun X e => ⟨(h.hasX X e).1, k.blk (h.hasX X e).2 (fun h => h)⟩, fun Y e => ⟨(h.hasY Y e).1, k.blk (h.hasY Y e).2 (fun h => h)⟩, fun s A c B d e => (h.hasV s A c B d e).kept k⟩
theorem Plc.putX (h : Plc w0 w none y v) (k : Kept noBlock w w') {X : Nat} (hX : w.heap.size ≤ X) (hb : w'.heap[X]? = some (.cells #[.int .i64 0, .int .i64 0, .slice none 0 0, .slice none 0 0] 33 (0, 0))) : Plc w0 w' (some X) y v :=
  ⟨h.kept.step k, fun X' e => (by injection e with e; subst e; exact ⟨Nat.le_trans h.kept.size hX, hb⟩), fun Y e => ⟨(h.hasY Y e).1, k.blk (h.hasY Y e).2 (fun h => h)⟩, fun s A c B d e => by
    have h1 := h.hasV s A c B d e
    refine ⟨fun hx => ?_, fun hx => ?_, h1.cp, h1.cs⟩
    · obtain ⟨ad, e1, hf, hc⟩ := h1.lp hx
      obtain ⟨ad', e2, hf2, _⟩ := h1.lp.lt hx
      rw [e1] at e2
      injection e2 with e2
      subst e2
      exact ⟨ad, e1, ⟨fun e => by injection e with e; omega, hf.2⟩, fun j u hu => k.cell (hc j u hu) (fun h => h)⟩
    · obtain ⟨ad, e1, hf, hc⟩ := h1.ls hx
      obtain ⟨ad', e2, hf2, _⟩ := h1.ls.lt hx
      rw [e1] at e2
      injection e2 with e2
      subst e2
      exact ⟨ad, e1, ⟨fun e => by injection e with e; omega, hf.2⟩, fun j u hu => k.cell (hc j u hu) (fun h => h)⟩⟩
theorem Plc.putY (h : Plc w0 w x none v) (k : Kept noBlock w w') {Y : Nat} (hY : w.heap.size ≤ Y) (hb : w'.heap[Y]? = some (.cells #[.int .i64 0, .string ⟨#[]⟩] 44 (0, 0))) : Plc w0 w' x (some Y) v :=
  ⟨h.kept.step k, fun X e => ⟨(h.hasX X e).1, k.blk (h.hasX X e).2 (fun h => h)⟩, fun Y' e => (by injection e with e; subst e; exact ⟨Nat.le_trans h.kept.size hY, hb⟩), fun s A c B d e => by
    have h1 := h.hasV s A c B d e
    refine ⟨fun hx => ?_, fun hx => ?_, h1.cp, h1.cs⟩
    · obtain ⟨ad, e1, hf, hc⟩ := h1.lp hx
      obtain ⟨ad', e2, hf2, _⟩ := h1.lp.lt hx
      rw [e1] at e2
      injection e2 with e2
      subst e2
      exact ⟨ad, e1, ⟨hf.1, fun e => by injection e with e; omega⟩, fun j u hu => k.cell (hc j u hu) (fun h => h)⟩
    · obtain ⟨ad, e1, hf, hc⟩ := h1.ls hx
      obtain ⟨ad', e2, hf2, _⟩ := h1.ls.lt hx
      rw [e1] at e2
      injection e2 with e2
      subst e2
      exact ⟨ad, e1, ⟨hf.1, fun e => by injection e with e; omega⟩, fun j u hu => k.cell (hc j u hu) (fun h => h)⟩⟩
theorem Plc.putV {s : StV} {A B : Option Addr} {c d : Nat} (h : Plc w0 w x y none) (k : Kept noBlock w w') (sv : Sv w' (fresh w w') s A c B d) : Plc w0 w' x y (some (s, A, c, B, d)) :=
  ⟨h.kept.step k, fun X e => ⟨(h.hasX X e).1, k.blk (h.hasX X e).2 (fun h => h)⟩, fun Y e => ⟨(h.hasY Y e).1, k.blk (h.hasY Y e).2 (fun h => h)⟩, fun s' A' c' B' d' e => by
    injection e with e
    injection e with e1 e
    injection e with e2 e
    injection e with e3 e
    injection e with e4 e5
    subst e1 e2 e3 e4 e5
    exact sv.mono (fun i hi => ⟨fun e => by have h1 := hi.1; have h2 := lt_of_blk (h.hasX i e).2; omega, fun e => by have h1 := hi.1; have h2 := lt_of_blk (h.hasY i e).2; omega⟩)⟩
theorem Plc.keptT {s : StV} {A B : Option Addr} {c d X : Nat} (h : Plc w0 w (some X) y v) : Kept noBlock w0 (setT w X s A c B d) :=
  ((h.kept.mono (T := fun i => w0.heap.size ≤ i) (fun _ _ h => h.elim)).trans (setT_kept w X s A c B d) (fun i _ e => by have := (h.hasX X rfl).1; omega)).mono (fun i hi h => by omega)
theorem Plc.repT {s : StV} {A B : Option Addr} {c d X Y : Nat} (h : Plc w0 w (some X) (some Y) v) : (setT w X s A c B d).heap[Y]? = some (.cells #[.int .i64 0, .string ⟨#[]⟩] 44 (0, 0)) := by
  have bX := (h.hasX X rfl).2
  have bY := (h.hasY Y rfl).2
  have hne : Y ≠ X := fun e => by rw [e, bX] at bY; injection bY with bY; injection bY with _ bY; revert bY; decide
  exact (setT_kept w X s A c B d).blk bY hne
theorem Plc.keptR {s : StV} {A B : Option Addr} {c d X Y : Nat} {r : RepV} (h : Plc w0 w (some X) (some Y) v) : Kept noBlock w0 (setR (setT w X s A c B d) Y r) :=
  (((h.keptT (s := s) (A := A) (B := B) (c := c) (d := d)).mono (T := fun i => w0.heap.size ≤ i) (fun _ _ h => h.elim)).trans (setR_kept _ Y r) (fun i _ e => by have := (h.hasY Y rfl).1; omega)).mono (fun i hi h => by omega)
/-- Both stored at their places. -/
theorem Plc.done {s : StV} {A B : Option Addr} {c d X Y : Nat} (h : Plc w0 w (some X) (some Y) (some (s, A, c, B, d))) (r : RepV) :
    ∃ X' Y' A' c' B' d', Value.pointer (some ⟨X, 0, none⟩) = Value.pointer (some ⟨X', 0, none⟩) ∧ Value.pointer (some ⟨Y, 0, none⟩) = Value.pointer (some ⟨Y', 0, none⟩) ∧ Hid ((setR (setT w X s A c B d) Y r).heap[X']? = some (.cells #[.int .i64 s.index, .int .i64 s.term, .slice A' s.pairs.length c', .slice B' s.sess.length d'] 33 (0, 0))) ∧ Hid ((setR (setT w X s A c B d) Y r).heap[Y']? = some (.cells #[.int .i64 r.err, .string r.value] 44 (0, 0))) ∧
      Hid (Sv (setR (setT w X s A c B d) Y r) (fun _ => True) s A' c' B' d') ∧ Hid (Kept noBlock w0 (setR (setT w X s A c B d) Y r)) := by
  have kt := setT_kept w X s A c B d
  have kr := setR_kept (setT w X s A c B d) Y r
  obtain ⟨hX, bX⟩ := h.hasX X rfl
  obtain ⟨hY, bY⟩ := h.hasY Y rfl
  have hne : Y ≠ X := fun e => by rw [e, bX] at bY; injection bY with bY; injection bY with _ bY; revert bY; decide
  refine ⟨X, Y, A, c, B, d, rfl, rfl, kr.blk (setT_block bX) (fun e => hne e.symm), setR_block (x := told 0) (kt.blk bY hne), ?_, ?_⟩
  · exact (((h.hasV s A c B d rfl).keep kt (fun i hi e => hi.1 (by rw [e]))).keep kr (fun i hi e => hi.2 (by rw [e]))).mono (fun _ _ => trivial)
  · exact (((h.kept.mono (T := fun i => w0.heap.size ≤ i) (fun _ _ h => h.elim)).trans kt (fun i _ e => by omega)).trans kr (fun i _ e => by omega)).mono (fun i hi h => by omega)
/-- A state, or what is told, stored at its place, at a step of a region that draws its order. -/
theorem step_storeT {ops : Array Oper} {ty : TypeId} {pos : String} {aft : Array Edge} {p q : Nat} {act : Act} {K : Act → World → Prop} {Q : Exit → Act → World → Prop} {E : Prop} {X : Nat} {x0 x1 x2 x3 : Value} (s : StV) (A : Option Addr) (c : Nat) (B : Option Addr) (d : Nat)
    (hp : act.tmps[p]?.getD undef = .pointer (some ⟨X, 0, none⟩)) (hv : act.tmps[q]?.getD undef = .agg #[.int .i64 s.index, .int .i64 s.term, .slice A s.pairs.length c, .slice B s.sess.length d]) (hb : w.heap[X]? = some (.cells #[x0, x1, x2, x3] 33 (0, 0)))
    (hK : K act (setT w X s A c B d)) :
    if Region.wanted ⟨none, .store 33 (.tmp p) (.tmp q), ty, pos, aft, none⟩ (yielded ops act.tmps) = true then Oper.wp Try.prog ⟨none, .store 33 (.tmp p) (.tmp q), ty, pos, aft, none⟩ act w K Q else E := by
  rw [if_pos (by simp [Region.wanted])]
  unfold setT at hK
  obtain ⟨d0, d1, d2, d3⟩ := st_cells hb
  have fz : ∀ j, w.frozen? ⟨X, j, none⟩ = false := fun j => frozen_of_row _ _ _ _ _ hb
  have f0 := fz 0
  have f1 := fz 1
  have f2 := fz 2
  have f3 := fz 3
  clear fz
  go_simp
  exact hK
theorem step_storeR {ops : Array Oper} {ty : TypeId} {pos : String} {aft : Array Edge} {p q : Nat} {act : Act} {K : Act → World → Prop} {Q : Exit → Act → World → Prop} {E : Prop} {Y : Nat} {x0 x1 : Value} (r : RepV)
    (hp : act.tmps[p]?.getD undef = .pointer (some ⟨Y, 0, none⟩)) (hv : act.tmps[q]?.getD undef = .agg #[.int .i64 r.err, .string r.value]) (hb : w.heap[Y]? = some (.cells #[x0, x1] 44 (0, 0)))
    (hK : K act (setR w Y r)) :
    if Region.wanted ⟨none, .store 44 (.tmp p) (.tmp q), ty, pos, aft, none⟩ (yielded ops act.tmps) = true then Oper.wp Try.prog ⟨none, .store 44 (.tmp p) (.tmp q), ty, pos, aft, none⟩ act w K Q else E := by
  rw [if_pos (by simp [Region.wanted])]
  unfold setR at hK
  obtain ⟨d0, d1⟩ := re_cells hb
  have f0 : w.frozen? ⟨Y, 0, none⟩ = false := frozen_of_row _ _ _ _ _ hb
  have f1 : w.frozen? ⟨Y, 1, none⟩ = false := frozen_of_row _ _ _ _ _ hb
  go_simp
  exact hK
end
end Go.Proofs.Ytgmjnjbmolalmaa
