/-
  Boxes beside two maps: what a law has on its heap while it goes over maps. No statement is proved here.
-/
import Derived.Test.YtohanlhfbfodlaaL5Self
namespace Go.Proofs.Ytohanlhfbfodlaa
open Go.RowKit Go.Shelf

def Plain (t : TypeId) : Prop := t ≠ 25 ∧ t ≠ 73 ∧ t ≠ 43
abbrev Box := Nat × Value × TypeId
/-- Boxes Bs and two maps, apart; Ds: loops that are done. -/
structure Sit (w : World) (Bs : List Box) (x y : Nat) (Lx Ly : List (Int × Int)) (Ds : List Nat) (F G : Nat → Prop) (W : World) : Prop where
  nd : (Bs.map Prod.fst).Nodup
  low : ∀ p ∈ Bs, w.heap.size ≤ p.1
  ty : ∀ p ∈ Bs, Plain p.2.2
  box : ∀ p ∈ Bs, W.heap[p.1]? = some (.cells #[p.2.1] p.2.2 (0, 0))
  two : TwoR w W x y Lx Ly (Bs.map Prod.fst) F G
  defs : ∀ D ∈ Ds, W.heap[D]? = some (.deferred (some []))
section
variable {w A B W : World} {x y m0 : Nat} {Bs : List Box} {Lx Ly : List (Int × Int)} {Ds : List Nat} {F G : Nat → Prop}
theorem Sit.abide (h : Sit w Bs x y Lx Ly Ds F G A) (k : Abide II.TT m0 A B) (hF : ∀ i, F i → i < m0) (hG : ∀ i, G i → i < m0) (hw : w.heap.size ≤ m0) (hD : ∀ D ∈ Ds, D < m0) : Sit w Bs x y Lx Ly Ds F G B :=
  ⟨h.nd, h.low, h.ty, fun p hp => k.blk (h.box p hp) (.inr (h.ty p hp).1), h.two.abide k hF hG hw, fun D hd => (k.low D (hD D hd) (lt_of_blk (h.defs D hd))).trans (h.defs D hd)⟩
theorem Sit.kept (h : Sit w Bs x y Lx Ly Ds F G A) (k : Kept noBlock A B) : Sit w Bs x y Lx Ly Ds F G B :=
  ⟨h.nd, h.low, h.ty, fun p hp => k.blk (h.box p hp) (fun h => h), h.two.kept k, fun D hd => k.blk (h.defs D hd) (fun h => h)⟩
theorem Sit.more {D : Nat} (h : Sit w Bs x y Lx Ly Ds F G W) (hD : W.heap[D]? = some (.deferred (some []))) : Sit w Bs x y Lx Ly (D :: Ds) F G W :=
  ⟨h.nd, h.low, h.ty, h.box, h.two, fun e he => by rcases List.mem_cons.1 he with rfl | he; exact hD; exact h.defs e he⟩
theorem TwoR.alloc {E : List Nat} (o : Obj) (h : TwoR w W x y Lx Ly E F G) : TwoR w (W.alloc o) x y Lx Ly (W.heap.size :: E) F G := by
  obtain ⟨m1, m2, a1, a2, a3, h4, h5⟩ := h
  have k := Kept.alloc noBlock W o
  refine ⟨m1.kept k, m2.kept k, a1, a2, a3, h4.step k, fun e he => ?_⟩
  rcases List.mem_cons.1 he with rfl | he
  · exact ⟨by simp, fun hf => by have := m1.lt _ hf; omega, fun hg => by have := m2.lt _ hg; omega⟩
  · exact ⟨Nat.lt_of_lt_of_le (h5 e he).1 k.size, (h5 e he).2⟩
theorem Sit.alloc (v : Value) (t : TypeId) (h : Sit w Bs x y Lx Ly Ds F G W) (ht : Plain t) : Sit w ((W.heap.size, v, t) :: Bs) x y Lx Ly Ds F G (W.alloc (.cells #[v] t)) := by
  have k := Kept.alloc noBlock W (.cells #[v] t)
  refine ⟨?_, ?_, ?_, ?_, ?_, fun D hd => k.blk (h.defs D hd) (fun h => h)⟩
  · rw [List.map_cons, List.nodup_cons]
    refine ⟨fun hm => ?_, h.nd⟩
    obtain ⟨p, hp, e⟩ := List.mem_map.1 hm
    have := lt_of_blk (h.box p hp)
    simp at e
    omega
  · intro p hp
    rcases List.mem_cons.1 hp with rfl | hp
    · exact h.two.two.world.size
    · exact h.low p hp
  · intro p hp
    rcases List.mem_cons.1 hp with rfl | hp
    · exact ht
    · exact h.ty p hp
  · intro p hp
    rcases List.mem_cons.1 hp with rfl | hp
    · exact heap_alloc_new _ _
    · exact k.blk (h.box p hp) (fun h => h)
  · exact h.two.alloc _
/-- A box is written. -/
theorem Sit.put (pre post : List Box) (b : Nat) (v u : Value) (t : TypeId) (h : Sit w (pre ++ (b, v, t) :: post) x y Lx Ly Ds F G W) :
    KeepsFrom m0 W (W.setCell ⟨b, 0, none⟩ u) ∧ Spares II.UU W (W.setCell ⟨b, 0, none⟩ u) ∧ Sit w (pre ++ (b, u, t) :: post) x y Lx Ly Ds F G (W.setCell ⟨b, 0, none⟩ u) := by
  have hb := h.box (b, v, t) (by simp)
  have k : Kept (fun i => i = b) W (W.setCell ⟨b, 0, none⟩ u) := Kept.setCell W (by rfl) _
  have ht := h.ty (b, v, t) (by simp)
  have hkeys : (pre ++ (b, u, t) :: post).map Prod.fst = (pre ++ (b, v, t) :: post).map Prod.fst := by simp
  have hnd := h.nd
  rw [List.map_append, List.map_cons, List.nodup_append] at hnd
  obtain ⟨_, n2, n3⟩ := hnd
  have n4 := (List.nodup_cons.1 n2).1
  have hne : ∀ p : Box, p ∈ pre ∨ p ∈ post → ¬ p.1 = b := by
    rintro p (hp | hp) e
    · exact n3 p.1 (List.mem_map_of_mem hp) b (by simp) e
    · exact n4 (by simp only; rw [← e]; exact List.mem_map_of_mem hp)
  refine ⟨keepsFrom_kept k (fun i _ e => by subst e; exact ⟨_, _, _, hb⟩), Spares.of k (fun i e => by subst e; exact ⟨_, _, _, hb, fun hu => hu.elim ht.2.1 (fun hu => hu.elim ht.1 ht.2.2)⟩), ⟨by rw [hkeys]; exact h.nd, ?_, ?_, ?_, ?_, ?_⟩⟩
  · intro p hp
    rcases List.mem_append.1 hp with hp | hp
    · exact h.low p (by simp [hp])
    · rcases List.mem_cons.1 hp with rfl | hp
      · exact h.low (b, v, t) (by simp)
      · exact h.low p (by simp [hp])
  · intro p hp
    rcases List.mem_append.1 hp with hp | hp
    · exact h.ty p (by simp [hp])
    · rcases List.mem_cons.1 hp with rfl | hp
      · exact ht
      · exact h.ty p (by simp [hp])
  · intro p hp
    rcases List.mem_append.1 hp with hp | hp
    · exact k.blk (h.box p (by simp [hp])) (hne p (.inl hp))
    · rcases List.mem_cons.1 hp with rfl | hp
      · exact setB (u := u) hb
      · exact k.blk (h.box p (by simp [hp])) (hne p (.inr hp))
  · rw [hkeys]
    exact h.two.keep k (fun i e => by subst e; exact ⟨by simp, h.low (i, v, t) (by simp)⟩)
  · exact fun D hd => k.blk (h.defs D hd) (fun e => by have h1 := h.defs D hd; rw [e, hb] at h1; cases h1)
/-- What lies in a box. -/
theorem Sit.cell (h : Sit w Bs x y Lx Ly Ds F G W) {b : Nat} {v : Value} {t : TypeId} (hm : (b, v, t) ∈ Bs) : W.cell? ⟨b, 0, none⟩ = some v := cell_of_row _ _ _ _ _ _ (h.box _ hm)
theorem Sit.froz (h : Sit w Bs x y Lx Ly Ds F G W) {b : Nat} {v : Value} {t : TypeId} (hm : (b, v, t) ∈ Bs) : W.frozen? ⟨b, 0, none⟩ = false := frozen_of_row _ _ _ _ _ (h.box _ hm)
end

section
open Srt
theorem mrg_len_eq {A R : List (Int × Int)} (hA : Up A) (hR : Up R) : (mrg A R).length = R.length + (A.filter fun p => !has R p.1).length := by
  induction A generalizing R with
  | nil => simp [mrg]
  | cons p A ih =>
    have h1 := ih hA.tail (up_past hR p.1)
    have h2 : (A.filter fun q => !has (past R p.1) q.1) = A.filter fun q => !has R q.1 := by
      refine List.filter_congr fun q hq => ?_
      unfold has
      rw [look_past hR (hA.head q hq)]
    rw [h2] at h1
    have h3 : (past R p.1).length = R.length - (pos R p.1 + if has R p.1 = true then 1 else 0) := by unfold past; rw [List.length_drop]
    have h4 := pos_le R p.1
    simp only [mrg, List.length_append, List.length_cons, List.length_take, List.filter_cons]
    cases hh : has R p.1 with
    | true =>
      have := has_lt hR hh
      rw [hh] at h3
      simp at h3 ⊢
      omega
    | false =>
      rw [hh] at h3
      simp at h3 ⊢
      omega
end
end Go.Proofs.Ytohanlhfbfodlaa
