/-
  Boxes beside one map and a row of numbers. No statement is proved here.
-/
import Derived.Test.YtohanlhfbfodlaaL5Sit
import Derived.Test.YtohanlhfbfodlaaL5Grow
namespace Go.Proofs.Ytohanlhfbfodlaa
open Go.RowKit Go.Shelf

/-- Boxes Bs, a map and the row v of numbers KS, apart; Ds: loops that are done. -/
structure One (w : World) (Bs : List Box) (v0 : Value) (KS : List Int) (m : Nat) (L : List (Int × Int)) (Ds : List Nat) (F : Nat → Prop) (W : World) : Prop where
  nd : (Bs.map Prod.fst).Nodup
  low : ∀ p ∈ Bs, w.heap.size ≤ p.1
  ty : ∀ p ∈ Bs, Plain p.2.2
  box : ∀ p ∈ Bs, W.heap[p.1]? = some (.cells #[p.2.1] p.2.2 (0, 0))
  row : W.ownsRow 0 3 1 v0 KS.length (ints KS)
  off : ∀ g, v0.ownBlock = some g → ∀ p ∈ Bs, p.1 ≠ g
  map : II.Mp W F m L
  moff : ∀ p ∈ Bs, ¬ F p.1
  world : Kept noBlock w W
  defs : ∀ D ∈ Ds, W.heap[D]? = some (.deferred (some []))
section
variable {w A B W : World} {m m0 : Nat} {Bs : List Box} {v0 : Value} {KS : List Int} {L : List (Int × Int)} {Ds : List Nat} {F : Nat → Prop}
theorem One.abide (h : One w Bs v0 KS m L Ds F A) (k : Abide II.TT m0 A B) (hF : ∀ i, F i → i < m0) (hw : w.heap.size ≤ m0) (hD : ∀ D ∈ Ds, D < m0) : One w Bs v0 KS m L Ds F B :=
  ⟨h.nd, h.low, h.ty, fun p hp => k.blk (h.box p hp) (.inr (h.ty p hp).1), k.own h.row (.inr (fun _ => by unfold II.TT; decide)), h.off, h.map.keep k.keptLow (fun i hi => by have := hF i hi; omega), h.moff, Abide.kept h.world k hw, fun D hd => (k.low D (hD D hd) (lt_of_blk (h.defs D hd))).trans (h.defs D hd)⟩
theorem One.kept (h : One w Bs v0 KS m L Ds F A) (k : Kept noBlock A B) : One w Bs v0 KS m L Ds F B :=
  ⟨h.nd, h.low, h.ty, fun p hp => k.blk (h.box p hp) (fun h => h), own_keep h.row k (fun _ _ h => h), h.off, h.map.kept k, h.moff, h.world.step k, fun D hd => k.blk (h.defs D hd) (fun h => h)⟩
theorem One.more {D : Nat} (h : One w Bs v0 KS m L Ds F W) (hD : W.heap[D]? = some (.deferred (some []))) : One w Bs v0 KS m L (D :: Ds) F W :=
  ⟨h.nd, h.low, h.ty, h.box, h.row, h.off, h.map, h.moff, h.world, fun e he => by rcases List.mem_cons.1 he with rfl | he; exact hD; exact h.defs e he⟩
theorem One.alloc (v : Value) (t : TypeId) (h : One w Bs v0 KS m L Ds F W) (ht : Plain t) : One w ((W.heap.size, v, t) :: Bs) v0 KS m L Ds F (W.alloc (.cells #[v] t)) := by
  have k := Kept.alloc noBlock W (.cells #[v] t)
  refine ⟨?_, ?_, ?_, ?_, own_keep h.row k (fun _ _ h => h), ?_, h.map.kept k, ?_, h.world.step k, fun D hd => k.blk (h.defs D hd) (fun h => h)⟩
  · rw [List.map_cons, List.nodup_cons]
    refine ⟨fun hm => ?_, h.nd⟩
    obtain ⟨p, hp, e⟩ := List.mem_map.1 hm
    have := lt_of_blk (h.box p hp)
    simp at e
    omega
  · intro p hp
    rcases List.mem_cons.1 hp with rfl | hp
    · exact h.world.size
    · exact h.low p hp
  · intro p hp
    rcases List.mem_cons.1 hp with rfl | hp
    · exact ht
    · exact h.ty p hp
  · intro p hp
    rcases List.mem_cons.1 hp with rfl | hp
    · exact heap_alloc_new _ _
    · exact k.blk (h.box p hp) (fun h => h)
  · intro g hg p hp
    rcases List.mem_cons.1 hp with rfl | hp
    · have := own_lt h.row g hg
      show W.heap.size ≠ g
      omega
    · exact h.off g hg p hp
  · intro p hp
    rcases List.mem_cons.1 hp with rfl | hp
    · intro hf
      have := h.map.lt _ hf
      simp at this
    · exact h.moff p hp
/-- A box is written. -/
theorem One.put (pre post : List Box) (b : Nat) (v u : Value) (t : TypeId) (h : One w (pre ++ (b, v, t) :: post) v0 KS m L Ds F W) :
    KeepsFrom m0 W (W.setCell ⟨b, 0, none⟩ u) ∧ Spares II.UU W (W.setCell ⟨b, 0, none⟩ u) ∧ One w (pre ++ (b, u, t) :: post) v0 KS m L Ds F (W.setCell ⟨b, 0, none⟩ u) := by
  have hb := h.box (b, v, t) (by simp)
  have k : Kept (fun i => i = b) W (W.setCell ⟨b, 0, none⟩ u) := Kept.setCell W (by rfl) _
  have ht := h.ty (b, v, t) (by simp)
  have hkeys : (pre ++ (b, u, t) :: post).map Prod.fst = (pre ++ (b, v, t) :: post).map Prod.fst := by simp
  have hnd := h.nd
  rw [List.map_append, List.map_cons, List.nodup_append] at hnd
  obtain ⟨_, n2, n3⟩ := hnd
  have n4 := (List.nodup_cons.1 n2).1
  have hne : ∀ p : Box, p ∈ pre ∨ p ∈ post → ¬ p.1 = b := by
    rintro p (hp | hp) e
    · exact n3 p.1 (List.mem_map_of_mem hp) b (by simp) e
    · exact n4 (by simp only; rw [← e]; exact List.mem_map_of_mem hp)
  refine ⟨keepsFrom_kept k (fun i _ e => by subst e; exact ⟨_, _, _, hb⟩), Spares.of k (fun i e => by subst e; exact ⟨_, _, _, hb, fun hu => hu.elim ht.2.1 (fun hu => hu.elim ht.1 ht.2.2)⟩), ⟨by rw [hkeys]; exact h.nd, ?_, ?_, ?_, own_keep h.row k (fun g hg e => h.off g hg (b, v, t) (by simp) e.symm), ?_, h.map.keep k (fun i hi e => by subst e; exact h.moff (i, v, t) (by simp) hi), ?_, h.world.trans k (fun i hi e => by have := h.low (b, v, t) (by simp); simp at this; omega), ?_⟩⟩
  · intro p hp
    rcases List.mem_append.1 hp with hp | hp
    · exact h.low p (by simp [hp])
    · rcases List.mem_cons.1 hp with rfl | hp
      · exact h.low (b, v, t) (by simp)
      · exact h.low p (by simp [hp])
  · intro p hp
    rcases List.mem_append.1 hp with hp | hp
    · exact h.ty p (by simp [hp])
    · rcases List.mem_cons.1 hp with rfl | hp
      · exact ht
      · exact h.ty p (by simp [hp])
  · intro p hp
    rcases List.mem_append.1 hp with hp | hp
    · exact k.blk (h.box p (by simp [hp])) (hne p (.inl hp))
    · rcases List.mem_cons.1 hp with rfl | hp
      · exact setB (u := u) hb
      · exact k.blk (h.box p (by simp [hp])) (hne p (.inr hp))
  · intro g hg p hp
    rcases List.mem_append.1 hp with hp | hp
    · exact h.off g hg p (by simp [hp])
    · rcases List.mem_cons.1 hp with rfl | hp
      · exact h.off g hg (b, v, t) (by simp)
      · exact h.off g hg p (by simp [hp])
  · intro p hp
    rcases List.mem_append.1 hp with hp | hp
    · exact h.moff p (by simp [hp])
    · rcases List.mem_cons.1 hp with rfl | hp
      · exact h.moff (b, v, t) (by simp)
      · exact h.moff p (by simp [hp])
  · exact fun D hd => k.blk (h.defs D hd) (fun e => by have h1 := h.defs D hd; rw [e, hb] at h1; cases h1)
/-- What lies in a box. -/
theorem One.cell (h : One w Bs v0 KS m L Ds F W) {b : Nat} {v : Value} {t : TypeId} (hm : (b, v, t) ∈ Bs) : W.cell? ⟨b, 0, none⟩ = some v := cell_of_row _ _ _ _ _ _ (h.box _ hm)
theorem One.froz (h : One w Bs v0 KS m L Ds F W) {b : Nat} {v : Value} {t : TypeId} (hm : (b, v, t) ∈ Bs) : W.frozen? ⟨b, 0, none⟩ = false := frozen_of_row _ _ _ _ _ (h.box _ hm)
end
end Go.Proofs.Ytohanlhfbfodlaa
