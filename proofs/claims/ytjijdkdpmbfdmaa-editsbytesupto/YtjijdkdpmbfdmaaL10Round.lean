/-
  A list that goes from edit to edit. No statement is proved here.
-/
import Derived.Test.YtjijdkdpmbfdmaaL10Edit
import Derived.Test.YtjijdkdpmbfdmaaL10Open
import Derived.Test.YtjijdkdpmbfdmaaL10Awake
namespace Go.Proofs.Ytjijdkdpmbfdmaa
open Go.RowKit Tot

theorem editOf_add (x : StepV) : (editOf x).add.length ≤ 5 := by
  unfold editOf
  simp only [List.length_append, List.length_map, List.length_take]
  split <;> simp <;> omega
theorem editOf_drop (x : StepV) : (editOf x).drop.length ≤ 4 := by
  unfold editOf
  simp only [List.length_map, List.length_take]
  omega
theorem editOf_size (x : StepV) : ∀ k ∈ (editOf x).drop, k.size ≤ maxLen := fun k hk => by
  unfold editOf at hk
  simp only [List.mem_map] at hk
  obtain ⟨n, _, rfl⟩ := hk
  rw [nmE_size]
  decide
theorem editOf_floor (x : StepV) : 0 ≤ (editOf x).floor ∧ (editOf x).floor ≤ 15 := by
  unfold editOf
  simp only
  omega
/-- The edit that does nothing but to the floor. -/
theorem doE_only {N : Fls} {f g : Int} (hg : g ≤ 1048576) : doE N f ⟨[], [], g⟩ = if f ≤ g then (N, 0) else ([], 8) := by
  unfold doE
  simp only [dropV, addV]
  by_cases h : f ≤ g <;> simp [h, hg]

/-- A list's box, while edits are done to it: N are its files, f is its floor, k edits there were. -/
structure LstS (w wr : World) (S : Nat) (N : Fls) (f : Int) (A : Option Addr) (c k : Nat) : Prop where
  blk : wr.heap[S]? = some (.cells #[.slice A N.length c, .int .i64 f] 26 (0, 0))
  sw : Sw wr (fun i => i ≠ S) N A c
  good : Good N
  len : N.length ≤ 5 * k
  f0 : 0 ≤ f
  f1 : f ≤ 1048576
  kept : Kept noBlock w wr
theorem LstS.keep {w wr u : World} {S : Nat} {N : Fls} {f : Int} {A : Option Addr} {c k : Nat} (h : LstS w wr S N f A c k) (q : Kept noBlock wr u) : LstS w u S N f A c k := ⟨q.blk h.blk (fun h => h), h.sw.kept q, h.good, h.len, h.f0, h.f1, h.kept.step q⟩
theorem LstS.more {w wr : World} {S : Nat} {N : Fls} {f : Int} {A : Option Addr} {c k k' : Nat} (h : LstS w wr S N f A c k) (q : k ≤ k') : LstS w wr S N f A c k' := ⟨h.blk, h.sw, h.good, by have := h.len; omega, h.f0, h.f1, h.kept⟩

/-- A list stored at its place. -/
def setE (w : World) (X n : Nat) (A : Option Addr) (c : Nat) (f : Int) : World := (w.setCell ⟨X, 0, none⟩ (.slice A n c)).setCell ⟨X, 1, none⟩ (.int .i64 f)
theorem setE_two {w : World} {X n c : Nat} {A : Option Addr} {f : Int} {y0 y1 : Value} {t : TypeId} (h : w.heap[X]? = some (.cells #[y0, y1] t (0, 0))) : (setE w X n A c f).heap[X]? = some (.cells #[.slice A n c, .int .i64 f] t (0, 0)) ∧ Kept (fun i => i = X) w (setE w X n A c f) := two_set h
theorem LstS.store {w wr : World} {S : Nat} {N M : Fls} {f g : Int} {A B : Option Addr} {c d k k' : Nat} (h : LstS w wr S N f A c k) (hw : w.heap.size ≤ S) (hm : Sw wr (fun i => i ≠ S) M B d) (hg : Good M) (hl : M.length ≤ 5 * k') (g0 : 0 ≤ g) (g1 : g ≤ 1048576) : LstS w (setE wr S M.length B d g) S M g B d k' := by
  obtain ⟨hz, kz⟩ := setE_two (n := M.length) (A := B) (c := d) (f := g) h.blk
  exact ⟨hz, hm.keep kz (fun i hi e => hi e), hg, hl, g0, g1, h.kept.trans kz (fun i hi e => by omega)⟩
/-- A place for a list, at a step of a region that draws its order; and a list stored there. -/
theorem step_allocE {w : World} {ops : Array Oper} {d : Nat} {ty : TypeId} {pos : String} {aft : Array Edge} {act : Act} {K : Act → World → Prop} {Q : Exit → Act → World → Prop} {E : Prop}
    (hK : ∀ X u, Kept noBlock w u → w.heap.size ≤ X → u.heap[X]? = some (.cells #[.slice none 0 0, .int .i64 0] 26 (0, 0)) → K (act.put (some d) (.pointer (some ⟨X, 0, none⟩))) u) :
    if Region.wanted ⟨some d, .alloc 26, ty, pos, aft, none⟩ (yielded ops act.tmps) = true then Oper.wp Try.prog ⟨some d, .alloc 26, ty, pos, aft, none⟩ act w K Q else E := by
  rw [if_pos (by simp [Region.wanted])]
  have hk := hK _ _ (Kept.alloc noBlock w _) (Nat.le_refl _) (heap_alloc_new w _)
  clear hK
  go_simp
  exact hk
theorem step_storeE {w : World} {ops : Array Oper} {ty : TypeId} {pos : String} {aft : Array Edge} {p q : Nat} {act : Act} {K : Act → World → Prop} {Q : Exit → Act → World → Prop} {E : Prop} {X n c : Nat} {x0 x1 : Value} {A : Option Addr} {f : Int}
    (hp : act.tmps[p]?.getD undef = .pointer (some ⟨X, 0, none⟩)) (hv : act.tmps[q]?.getD undef = .agg #[.slice A n c, .int .i64 f]) (hb : w.heap[X]? = some (.cells #[x0, x1] 26 (0, 0)))
    (hK : K act (setE w X n A c f)) :
    if Region.wanted ⟨none, .store 26 (.tmp p) (.tmp q), ty, pos, aft, none⟩ (yielded ops act.tmps) = true then Oper.wp Try.prog ⟨none, .store 26 (.tmp p) (.tmp q), ty, pos, aft, none⟩ act w K Q else E := by
  rw [if_pos (by simp [Region.wanted])]
  unfold setE at hK
  obtain ⟨d0, d1⟩ := two_cells hb
  have fz : ∀ j, w.frozen? ⟨X, j, none⟩ = false := fun j => frozen_of_row _ _ _ _ _ hb
  have f0 := fz 0
  have f1 := fz 1
  clear fz
  go_simp
  exact hK
/-- A list that was stored at its place. -/
theorem do_end {w2 u : World} {X S : Nat} {M : Fls} {f : Int} {A : Option Addr} {c : Nat} {y0 y1 : Value} (hx : u.heap[X]? = some (.cells #[y0, y1] 26 (0, 0))) (sv : Sw u (fun i => i ≠ X ∧ i ≠ S) M A c) (k : Kept noBlock w2 u) (hX : w2.heap.size ≤ X) (hS : S < w2.heap.size) :
    ∃ X' A' c', Value.pointer (some ⟨X, 0, none⟩) = Value.pointer (some ⟨X', 0, none⟩) ∧ X' ≠ S ∧ Hid ((setE u X M.length A c f).heap[X']? = some (.cells #[.slice A' M.length c', .int .i64 f] 26 (0, 0))) ∧ Hid (Sw (setE u X M.length A c f) (fun i => i ≠ S) M A' c') ∧ Hid (Kept noBlock w2 (setE u X M.length A c f)) := by
  obtain ⟨hz, kz⟩ := setE_two (n := M.length) (A := A) (c := c) (f := f) hx
  exact ⟨X, A, c, rfl, by omega, hz, (sv.keep kz (fun i hi e => hi.1 e)).mono (fun i hi => hi.2), k.trans kz (fun i hi e => by omega)⟩

/-- An edit done to a list. -/
theorem do_step {N : Fls} {f : Int} {e : EditV} (hg : Good N) (hN : N.length ≤ 1000) (hB : e.add.length ≤ 1000) (hD : e.drop.length ≤ 1000) (hk : ∀ k ∈ e.drop, k.size ≤ maxLen) :
    ∀ u A c A2 a2 D2 d2 G1 G2, Sw u G1 N A c → Ev u G2 e A2 a2 D2 d2 → Calls Try.prog 13 #[.agg #[.slice A N.length c, .int .i64 f], .agg #[.slice A2 e.add.length a2, .slice D2 e.drop.length d2, .int .i64 e.floor]] u fun en w' => ∃ A' c', en = .returned (.tuple #[.agg #[.slice A' (doE N f e).1.length c', .int .i64 (doF N f e)], .int .i64 (doE N f e).2]) ∧ Sw w' (fresh u w') (doE N f e).1 A' c' ∧ Kept noBlock u w' := fun u A c A2 a2 D2 d2 G1 G2 h1 h2 => by
  refine (edo_any G1 G2 N f A c e A2 a2 D2 d2 u h1 hg (by omega) h2 (by omega) (by omega) hk).mono ?_
  rintro en w' ⟨A', c', rfl, o, k⟩
  exact ⟨A', c', rfl, Sw.of_own o rfl (fun i hi => o.lt i hi), k⟩
theorem edit_step {F : Nat → Prop} {x : StepV} {w : World} (h : x.lies F w) : ∀ u, Kept noBlock w u → Calls Try.prog 12 #[.agg #[.slice x.A x.add.length x.ca, .slice x.D x.drop.length x.cd, .int .u8 (x.floor.toNat : Int), .bool x.odd, .string x.any.name, .int .i64 x.any.kind, .int .i64 x.any.from_, .int .i64 x.any.to_]] u fun en w' => ∃ A a D d, en = .returned (.agg #[.slice A (editOf x).add.length a, .slice D (editOf x).drop.length d, .int .i64 (editOf x).floor]) ∧ Ev w' (fun _ => True) (editOf x) A a D d ∧ Kept noBlock u w' := fun u k => by
  refine (ledit_any F x u (h.keep k (fun _ _ h => h))).mono ?_
  rintro en w' ⟨A, a, D, d, rfl, ev, k⟩
  exact ⟨A, a, D, d, rfl, ev.mono (fun _ _ => trivial), k⟩
end Go.Proofs.Ytjijdkdpmbfdmaa
