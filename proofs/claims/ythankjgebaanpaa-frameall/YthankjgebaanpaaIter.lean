/-
  A loop over a function whose body is told what lies in memory: a contract for the function, and a law for the loop. No statement is proved here.
-/
import Derived.Test.YthankjgebaanpaaMem
import Derived.RangeFuncNested
import Derived.RangeFuncLeaves
import Derived.ControlIn
namespace Go.Proofs.Ythankjgebaanpaa
open Go.RowKit

/-- All that w had is as it was, but for blocks from m on that hold no cells. -/
def Steady (m : Nat) (w w' : World) : Prop := Kept (fun k => m ≤ k ∧ ∃ o, w.heap[k]? = some o ∧ o.isCells = false) w w'
theorem Steady.of_kept {m : Nat} {w w' : World} (h : Kept noBlock w w') : Steady m w w' := h.mono (fun _ _ h => h.elim)
theorem kept_putObj (W : World) (l : Nat) (o' : Obj) : Kept (fun k => k = l) W (W.putObj l o') := Kept.grown (grownBy_putObj' W l o') (fun k h => by injection h with h; exact h.symm)
theorem Steady.putObj {m l : Nat} {W : World} {o : Obj} (o' : Obj) (hm : m ≤ l) (h : W.heap[l]? = some o) (ho : o.isCells = false) : Steady m W (W.putObj l o') :=
  (kept_putObj W l o').mono (fun i _ e => by subst e; exact ⟨hm, o, h, ho⟩)

/-- A function that goes over things: for whatever is done with them ('J': between two of them; 'Jx': behind one at which it was left). 'Px': what is known of a thing that is handed over; 'Kp': what the one who takes it leaves as it was. -/
def Goes {α : Type} (F : Fence) (n : Nat) (P : Program) (g : Nat) (lb : Array Value) (enc : α → Array Value) (Px : List α → α → World → Prop) (Kp : World → World → Prop) (S Sp : List α → Prop) (w : World) : Prop :=
  ∀ (l : Nat) (J Jx : List α → World → Prop) (W : World), Kept noBlock w W → (∀ s A B, J s A → Kept noBlock A B → J s B) → (∀ s A B, Jx s A → Kept noBlock A B → Jx s B) →
    (∀ pre x W1, J pre W1 → Px pre x W1 → YieldAt F (n - 1) P l (enc x) W1 fun e W' =>
      (e = .returned (.bool true) ∧ J (pre ++ [x]) W' ∧ Kp W1 W') ∨ (e = .returned (.bool false) ∧ Jx (pre ++ [x]) W')) →
    J [] W →
    CallsIn F n P g (#[.func (.yield l) #[] #[]] ++ lb) W fun e W' => (∃ v, e = .returned v) ∧ ((∃ xs, S xs ∧ J xs W') ∨ (∃ pre, Sp pre ∧ Jx pre W'))

/-- The loop. 'I': what holds between two rounds; 'Ix': behind a round that left by a jump. -/
theorem wpIn_goes {F : Fence} {n : Nat} {P : Program} {α : Type} {g : Operand} {ps : Array Tmp} {assign body : Code} {Q : Exit → Act → World → Prop} {a : Act} {w : World}
    (hro : F.round = none) (h1 : 1 ≤ n) {gf : Nat} {lb : Array Value} (hg : a.eval g = .func (.func gf) #[] lb) (hFg : F.fn gf) (eg : ∀ args w, (callFunc gf args).run P w = .ok (.enter gf args) w)
    {enc : α → Array Value} {Px : List α → α → World → Prop} {Kp : World → World → Prop} {S Sp : List α → Prop} {w0 : World} (hgo : Goes F (n - 1) P gf lb enc Px Kp S Sp w0) (hb0 : Kept noBlock w0 w) (hps : ∀ x, (enc x).size = ps.size)
    (hKt : ∀ {A B C : World}, Kp A B → Kp B C → Kp A C) (hKb : ∀ (W : World) (l : Nat) (o o' : Obj), W.heap[l]? = some o → o.isCells = false → Kp W (W.putObj l o'))
    (hPx : ∀ pre x A B, Px pre x A → Steady w.heap.size A B → Px pre x B)
    (I : List α → World → Prop) (Ix : Code → List α → World → Prop) (hI : ∀ s A B, I s A → Steady w.heap.size A B → I s B) (hIx : ∀ c s A B, Ix c s A → Steady w.heap.size A B → Ix c s B) (h0 : I [] w) (a₁ : α → Act)
    (hassign : ∀ (l : Nat) (x : α) (W : World) (K : Act → World → Prop), K (a₁ x) W →
      assign.wpIn (F.inRound l) (n - 1 - 1) P (Exit.then K (fun _ _ _ => False)) { tmps := (ps.zip (enc x)).foldl (fun t (p, v) => t.setIfInBounds p v) a.tmps, defers := [] } W)
    (hbody : ∀ (l : Nat) (pre : List α) (x : α) (W : World), I pre W → Px pre x W → body.wpIn (F.inRound l) (n - 1 - 1) P (ownPostG w.heap.size Kp I Ix (pre ++ [x]) W) (a₁ x) W)
    (hdone : ∀ (D : Nat) (xs : List α) (W : World), w.heap.size ≤ D → S xs → I xs W → W.heap[D]? = some (.deferred (some [])) → Q .normal { a with defers := { target := .collected D, args := #[] } :: a.defers } W)
    (hstop : ∀ (D : Nat) (c : Code) (pre : List α) (W : World), w.heap.size ≤ D → Sp pre → Ix c pre W → W.heap[D]? = some (.deferred (some [])) → c.wpIn F n P Q { a with defers := { target := .collected D, args := #[] } :: a.defers } W) :
    (Code.rangeFunc g ps assign body).wpIn F n P Q a w := by
  refine wpIn_rangeFunc fun fn hfn => ?_
  rw [hro]
  let r : LoopState → Option Code → Loop := fun st pe => { state := st, pending := pe, fn, tmps := a.tmps, params := ps, assign, body, defers := w.heap.size }
  let L := w.heap.size + 1
  let At : LoopState → Option Code → World → Prop := fun st pe W => W.heap[L]? = some (.loop (r st pe)) ∧ W.heap[w.heap.size]? = some (.deferred (some []))
  have turn : ∀ {st pe} (st' pe') {W : World}, At st pe W → At st' pe' (W.putObj L (.loop (r st' pe'))) := fun st' pe' W h =>
    ⟨World.putObj_heap_same (lt_of_blk h.1), (World.putObj_heap_other (by show w.heap.size ≠ w.heap.size + 1; omega)).trans h.2⟩
  have quiet : ∀ {st pe} (o' : Obj) {W : World}, At st pe W → Steady w.heap.size W (W.putObj L o') := fun o' W h => Steady.putObj o' (Nat.le_succ _) h.1 rfl
  have held : ∀ {st pe} {W W' : World}, At st pe W → Kept noBlock W W' → At st pe W' := fun h k => ⟨k.blk h.1 (fun h => h), k.blk h.2 (fun h => h)⟩
  have held2 : ∀ {st pe} {W W' : World}, At st pe W → KeepsFrom w.heap.size W W' → At st pe W' := fun h k => ⟨k.same _ _ (Nat.le_succ _) h.1 rfl, k.same _ _ (Nat.le_refl _) h.2 rfl⟩
  obtain ⟨W1, hW1⟩ : ∃ W1, W1 = (w.alloc (.deferred (some []))).alloc (.loop (r .ready none)) := ⟨_, rfl⟩
  have kW1 : Kept noBlock w W1 := by rw [hW1]; exact (Kept.alloc _ _ _).step (Kept.alloc _ _ _)
  have at1 : At .ready none W1 := by
    rw [hW1]
    refine ⟨?_, (Below.heap_alloc _ _ _ (by simp)).trans (heap_alloc_new w _)⟩
    have := heap_alloc_new (w.alloc (.deferred (some []))) (.loop (r .ready none))
    rwa [World.size_alloc] at this
  have he : (Instr.enterLoop fn a.tmps ps assign body none).run P w = .ok (L, [{ target := .collected w.heap.size, args := #[] }]) W1 := by rw [hW1]; exact run_enterLoop_outer _ _ _ _ _
  refine ⟨L, [{ target := .collected w.heap.size, args := #[] }], W1, { target := .fn (.func gf) lb, args := #[.func (.yield L) #[] #[]] }, W1, gf, #[.func (.yield L) #[] #[]] ++ lb, W1, he, ?_, ?_, ?_, fun _ => h1, ?_⟩
  · simp only [resolve, hg]
    simp [go_sem]
  · intro f' hf'
    simp [Target.leads] at hf'
    subst hf'
    exact hFg
  · simp [invoke, go_sem, eg]
  · refine (hgo L (fun pre W => I pre W ∧ At .ready none W) (fun pre W => ∃ c, Ix c pre W ∧ At .done (some c) W) W1 (hb0.step kW1) (fun s A B h k => ⟨hI s A B h.1 (Steady.of_kept k), held h.2 k⟩)
      (fun s A B h k => by obtain ⟨c, hc, ha⟩ := h; exact ⟨c, hIx c s A B hc (Steady.of_kept k), held ha k⟩) ?_ ⟨hI _ _ _ h0 (Steady.of_kept kW1), at1⟩).mono ?_
    · rintro pre x W ⟨hi, hat⟩ hpx
      refine ⟨fn, _, assign, body, run_yield (P := P) (args := enc x) hat.1 (hps x), roundIn_of_wpIn hfn (hassign L x W _ ⟨_, run_beginRound hat.1 rfl, ?_⟩)⟩
      have hatB : At .busy none (W.putObj L (.loop (r .busy none))) := turn .busy none hat
      refine wpIn_mono (hbody L pre x (W.putObj L (.loop (r .busy none))) (hI _ _ _ hi (quiet _ hat)) (hPx _ _ _ _ hpx (quiet _ hat))) ?_
      have fin : ∀ (j : Option Code) (W3 : World), KeepsFrom w.heap.size (W.putObj L (.loop (r .busy none))) W3 →
          (Instr.endRound L j).run P W3 = .ok (.bool j.isNone) (W3.putObj L (.loop (r (if j.isNone then .ready else .done) j))) ∧ At .busy none W3 := fun j W3 k =>
        ⟨run_endRound (P := P) j (held2 hatB k).1, held2 hatB k⟩
      rintro e a3 W3 hp
      cases e with
      | normal =>
        obtain ⟨k3, hkp, hi3⟩ := hp
        obtain ⟨hr, ha3⟩ := fin none W3 k3
        exact ⟨_, _, hr, .inl ⟨rfl, ⟨hI _ _ _ hi3 (quiet _ ha3), turn .ready none ha3⟩, hKt (hKt (hKb _ _ _ _ hat.1 rfl) hkp) (hKb _ _ _ _ ha3.1 rfl)⟩⟩
      | ret =>
        obtain ⟨k3, hi3⟩ := hp
        obtain ⟨hr, ha3⟩ := fin (some .ret) W3 k3
        exact ⟨_, _, hr, .inr ⟨rfl, .ret, hIx _ _ _ _ hi3 (quiet _ ha3), turn .done (some .ret) ha3⟩⟩
      | exit id =>
        obtain ⟨k3, hi3⟩ := hp
        obtain ⟨hr, ha3⟩ := fin (some (.exit id)) W3 k3
        exact ⟨_, _, hr, .inr ⟨rfl, .exit id, hIx _ _ _ _ hi3 (quiet _ ha3), turn .done (some (.exit id)) ha3⟩⟩
      | goto t =>
        obtain ⟨k3, hi3⟩ := hp
        obtain ⟨hr, ha3⟩ := fin (some (.goto t)) W3 k3
        exact ⟨_, _, hr, .inr ⟨rfl, .goto t, hIx _ _ _ _ hi3 (quiet _ ha3), turn .done (some (.goto t)) ha3⟩⟩
      | panic ch => exact hp.elim
      | outgrown => exact hp.elim
    · rintro e W2 ⟨⟨v, rfl⟩, (⟨xs, hS, hi, ha⟩ | ⟨pre, hSp, c, hi, ha⟩)⟩
      · exact ⟨none, _, run_endLoop (P := P) ha.1 (by simp [r]), hdone _ xs _ (Nat.le_refl _) hS (hI _ _ _ hi (quiet _ ha)) ((World.putObj_heap_other (by show w.heap.size ≠ w.heap.size + 1; omega)).trans ha.2)⟩
      · exact ⟨some c, _, run_endLoop (P := P) ha.1 (by simp [r]), hstop _ c pre _ (Nat.le_refl _) hSp (hIx _ _ _ _ hi (quiet _ ha)) ((World.putObj_heap_other (by show w.heap.size ≠ w.heap.size + 1; omega)).trans ha.2)⟩

end Go.Proofs.Ythankjgebaanpaa
