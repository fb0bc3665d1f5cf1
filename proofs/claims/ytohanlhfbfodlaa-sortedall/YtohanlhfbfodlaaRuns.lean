/-
  Functions that go over things, and loops over them, where both the function and the loop's body have cells of their own that they change: each leaves the other's. No statement is proved here.
-/
import Derived.Test.YtohanlhfbfodlaaMem
import Derived.RangeFuncNested
import Derived.RangeFuncLeaves
import Derived.ControlIn
namespace Go.Proofs.Ytohanlhfbfodlaa
open Go.RowKit

/-- A box that was written. -/
theorem setB {W : World} {B : Nat} {v u : Value} {t : TypeId} (h : W.heap[B]? = some (.cells #[v] t (0, 0))) : (W.setCell ⟨B, 0, none⟩ u).heap[B]? = some (.cells #[u] t (0, 0)) := by
  have := heap_setCell_same W B 0 _ t u h
  simpa using this

/-- What one who goes over things may do between two of them: what lies below m is as it was, and all cells but those of T (a block, and its type). -/
structure Abide (T : Nat → TypeId → Prop) (m : Nat) (A B : World) : Prop where
  os : B.os = A.os
  tape : B.tape = A.tape
  output : B.output = A.output
  size : A.heap.size ≤ B.heap.size
  low : ∀ k, k < m → k < A.heap.size → B.heap[k]? = A.heap[k]?
  same : ∀ (k : Nat) cs t fr, A.heap[k]? = some (.cells cs t fr) → ¬ T k t → B.heap[k]? = some (.cells cs t fr)
section
variable {T : Nat → TypeId → Prop} {m m' : Nat} {A B C w : World}
theorem Abide.refl (T : Nat → TypeId → Prop) (m : Nat) (A : World) : Abide T m A A := ⟨rfl, rfl, rfl, Nat.le_refl _, fun _ _ _ => rfl, fun _ _ _ _ h _ => h⟩
theorem Abide.trans (h : Abide T m A B) (k : Abide T m B C) : Abide T m A C :=
  ⟨k.os.trans h.os, k.tape.trans h.tape, k.output.trans h.output, Nat.le_trans h.size k.size, fun i h1 h2 => (k.low i h1 (Nat.lt_of_lt_of_le h2 h.size)).trans (h.low i h1 h2), fun i cs t fr h1 h2 => k.same i cs t fr (h.same i cs t fr h1 h2) h2⟩
theorem Abide.mono (h : Abide T m A B) (hm : m' ≤ m) : Abide T m' A B := ⟨h.os, h.tape, h.output, h.size, fun k h1 h2 => h.low k (Nat.lt_of_lt_of_le h1 hm) h2, h.same⟩
theorem Abide.of_kept (h : Kept noBlock A B) : Abide T m A B := ⟨h.os, h.tape, h.output, h.size, fun k _ h2 => h.block k h2 (fun h => h), fun _ _ _ _ h1 _ => h.blk h1 (fun h => h)⟩
theorem Abide.more {T' : Nat → TypeId → Prop} (h : Abide T m A B) (hT : ∀ k t, T k t → T' k t) : Abide T' m A B := ⟨h.os, h.tape, h.output, h.size, h.low, fun k cs t fr h1 h2 => h.same k cs t fr h1 (fun h3 => h2 (hT k t h3))⟩
theorem Abide.putObj {l : Nat} {o : Obj} (o' : Obj) (hl : m ≤ l) (h : A.heap[l]? = some o) (ho : o.isCells = false) : Abide T m A (A.putObj l o') := by
  refine ⟨rfl, rfl, rfl, by simp, fun k hk _ => World.putObj_heap_other (by omega), fun k cs t fr hk _ => (World.putObj_heap_other (fun e => ?_)).trans hk⟩
  subst e
  rw [hk] at h
  injection h with h
  subst h
  cases ho
/-- A cell of its own that it writes. -/
theorem Abide.setCell {p : Addr} {cs : Array Value} {t : TypeId} {fr : Nat × Nat} (u : Value) (hp : m ≤ p.block) (hb : A.heap[p.block]? = some (.cells cs t fr)) (ht : T p.block t) : Abide T m A (A.setCell p u) := by
  refine ⟨rfl, rfl, rfl, by simp [World.setCell], fun k hk _ => Below.heap_setCell A p u k (by omega), fun k cs' t' fr' hk hn => (Below.heap_setCell A p u k (fun e => ?_)).trans hk⟩
  subst e
  rw [hk] at hb
  injection hb with hb
  injection hb with _ e2
  subst e2
  exact hn ht
theorem Abide.blk (h : Abide T m A B) {k : Nat} {cs : Array Value} {t : TypeId} {fr : Nat × Nat} (hk : A.heap[k]? = some (.cells cs t fr)) (hn : k < m ∨ ¬ T k t) : B.heap[k]? = some (.cells cs t fr) :=
  hn.elim (fun h1 => (h.low k h1 (lt_of_blk hk)).trans hk) (fun h1 => h.same k cs t fr hk h1)
/-- What was kept since is kept. -/
theorem Abide.kept {S : Nat → Prop} (k : Kept S w A) (h : Abide T m A B) (hm : w.heap.size ≤ m) : Kept S w B :=
  ⟨h.os.trans k.os, h.tape.trans k.tape, h.output.trans k.output, Nat.le_trans k.size h.size, fun i hi hn => (h.low i (by omega) (Nat.lt_of_lt_of_le hi k.size)).trans (k.block i hi hn)⟩
theorem Abide.own (h : Abide T m A B) {base e size n : Nat} {v : Value} {xs : List Value} (ho : A.ownsRow base e size v n xs) (hn : (∀ b, v.ownBlock = some b → b < m) ∨ ∀ b, ¬ T b e) : B.ownsRow base e size v n xs := by
  refine ⟨ho.1, ?_⟩
  rcases ho.2 with h1 | ⟨g, cap, cur, rfl, hb, hgg, rest⟩
  · exact .inl h1
  · exact .inr ⟨g, cap, cur, rfl, hb, h.blk hgg (hn.imp (fun h => h g rfl) (fun h => h g)), rest⟩
end

/-- What a round leaves as it was: cells of types of U. -/
def Spares (U : Nat → TypeId → Prop) (W W' : World) : Prop := ∀ (k : Nat) cs t fr, W.heap[k]? = some (.cells cs t fr) → U k t → W'.heap[k]? = some (.cells cs t fr)
theorem Spares.refl (U : Nat → TypeId → Prop) (W : World) : Spares U W W := fun _ _ _ _ h _ => h
theorem Spares.trans {U : Nat → TypeId → Prop} {A B C : World} (h : Spares U A B) (k : Spares U B C) : Spares U A C := fun i cs t fr h1 h2 => k i cs t fr (h i cs t fr h1 h2) h2
theorem Spares.of_kept {U : Nat → TypeId → Prop} {A B : World} (h : Kept noBlock A B) : Spares U A B := fun _ _ _ _ h1 _ => h.blk h1 (fun h => h)
theorem Spares.putObj {U : Nat → TypeId → Prop} {A : World} {l : Nat} {o : Obj} (o' : Obj) (h : A.heap[l]? = some o) (ho : o.isCells = false) : Spares U A (A.putObj l o') :=
  fun k cs t fr h1 _ => (Abide.putObj (T := fun _ _ => False) (m := 0) o' (Nat.zero_le _) h ho).same k cs t fr h1 (fun h => h)
theorem Spares.mono {U V : Nat → TypeId → Prop} {A B : World} (h : Spares U A B) (hV : ∀ k t, V k t → U k t) : Spares V A B := fun k cs t fr h1 h2 => h k cs t fr h1 (hV k t h2)
/-- .. of blocks that are not of these types. -/
theorem Spares.of {U : Nat → TypeId → Prop} {S : Nat → Prop} {A B : World} (h : Kept S A B) (hS : ∀ k, S k → ∃ cs t fr, A.heap[k]? = some (.cells cs t fr) ∧ ¬ U k t) : Spares U A B := fun k cs t fr h1 h2 => h.blk h1 (fun hs => by
  obtain ⟨cs', t', fr', h3, h4⟩ := hS k hs
  rw [h1] at h3
  injection h3 with h3
  injection h3 with _ e
  exact h4 (e ▸ h2))
theorem keepsFrom_kept {B : Nat} {S : Nat → Prop} {A C : World} (h : Kept S A C) (hS : ∀ k, B ≤ k → S k → ∃ cs t fr, A.heap[k]? = some (.cells cs t fr)) : KeepsFrom B A C :=
  ⟨h.size, fun k o hB hk ho => h.blk hk (fun hs => by
    obtain ⟨cs, t, fr, h3⟩ := hS k hB hs
    rw [hk] at h3
    injection h3 with h3
    subst h3
    cases ho)⟩
theorem keepsFrom_mono {B B' : Nat} {A C : World} (h : KeepsFrom B A C) (hB : B ≤ B') : KeepsFrom B' A C := ⟨h.size, fun k o h1 h2 h3 => h.same k o (Nat.le_trans hB h1) h2 h3⟩

theorem yieldAt_any {n n' : Nat} {P : Program} {l : Nat} {args : Array Value} {W : World} {R : Ending → World → Prop} (h : YieldAt Fence.wide n P l args W R) : YieldAt Fence.wide n' P l args W R := by
  obtain ⟨fn, tmps, assign, body, hy, hR⟩ := h
  exact ⟨fn, tmps, assign, body, hy, hR.1, fun c cs _ => hR.2 c cs (fun d h => by cases h)⟩
theorem yieldAt_round {n l0 : Nat} {P : Program} {l : Nat} {args : Array Value} {W : World} {R : Ending → World → Prop} (h : YieldAt Fence.wide n P l args W R) : YieldAt (Fence.wide.inRound l0) n P l args W R := h

/-- What a round tells. -/
def Told {α : Type} (U : Nat → TypeId → Prop) (m : Nat) (J Jx : List α → World → Prop) (xs : List α) (W : World) (e : Ending) (W' : World) : Prop :=
  (e = .returned (.bool true) ∧ J xs W' ∧ Spares U W W' ∧ KeepsFrom m W W') ∨ (e = .returned (.bool false) ∧ Jx xs W' ∧ Spares U W W' ∧ KeepsFrom m W W')

/-- A function that goes over L, for whatever is done with it ('J': between two things; 'Jx': behind one at which it was left). -/
def Runs {α : Type} (P : Program) (g : Nat) (lb : Array Value) (enc : α → Array Value) (T U : Nat → TypeId → Prop) (L : List α) (w : World) : Prop :=
  ∀ (l : Nat) (J Jx : List α → World → Prop) (W : World), Kept noBlock w W → (∀ s A B, J s A → Abide T W.heap.size A B → J s B) → (∀ s A B, Jx s A → Abide T W.heap.size A B → Jx s B) →
    (∀ pre x rest W1, L = pre ++ x :: rest → J pre W1 → YieldAt Fence.wide 0 P l (enc x) W1 (Told U W.heap.size J Jx (pre ++ [x]) W1)) → J [] W →
    Calls P g (#[.func (.yield l) #[] #[]] ++ lb) W fun e W' => (∃ v, e = .returned v) ∧ (J L W' ∨ ∃ pre, pre <+: L ∧ Jx pre W')
theorem Runs.later {α : Type} {P : Program} {g : Nat} {lb : Array Value} {enc : α → Array Value} {T U : Nat → TypeId → Prop} {L : List α} {w w' : World} (h : Runs P g lb enc T U L w) (k : Kept noBlock w w') : Runs P g lb enc T U L w' :=
  fun l J Jx W hW => h l J Jx W (k.step hW)

/-- How a round may be left. -/
def ownPostS {α : Type} (B : Nat) (U : Nat → TypeId → Prop) (I : List α → World → Prop) (Ix : Code → List α → World → Prop) (xs : List α) (W : World) : Exit → Act → World → Prop
  | .normal, _, W' => KeepsFrom B W W' ∧ Spares U W W' ∧ I xs W'
  | .ret, _, W' => KeepsFrom B W W' ∧ Spares U W W' ∧ Ix .ret xs W'
  | .exit id, _, W' => KeepsFrom B W W' ∧ Spares U W W' ∧ Ix (.exit id) xs W'
  | .goto t, _, W' => KeepsFrom B W W' ∧ Spares U W W' ∧ Ix (.goto t) xs W'
  | .panic _, _, _ => False
  | .outgrown, _, _ => False

/-- The loop. 'I': what holds between two rounds; 'Ix': behind a round that left by a jump; 'Ax': the temporaries behind the assignment. -/
theorem wpIn_runs {n : Nat} {P : Program} {α : Type} {g : Operand} {ps : Array Tmp} {assign body : Code} {Q : Exit → Act → World → Prop} {a : Act} {w : World}
    {gf : Nat} {lb : Array Value} (hg : a.eval g = .func (.func gf) #[] lb) (eg : ∀ args w, (callFunc gf args).run P w = .ok (.enter gf args) w)
    {enc : α → Array Value} {T U : Nat → TypeId → Prop} {L : List α} {w0 : World} (hgo : Runs P gf lb enc T U L w0) (hb0 : Kept noBlock w0 w) (hps : ∀ x, (enc x).size = ps.size)
    (I : List α → World → Prop) (Ix : Code → List α → World → Prop) (hI : ∀ s A B, I s A → Abide T w.heap.size A B → I s B) (hIx : ∀ c s A B, Ix c s A → Abide T w.heap.size A B → Ix c s B) (h0 : I [] w)
    (Ax : α → Act → World → Prop) (hAx : ∀ x a' A B, Ax x a' A → Abide T w.heap.size A B → Ax x a' B)
    (hassign : ∀ (l : Nat) (pre : List α) (x : α) (W : World) (K : Act → World → Prop), I pre W → (∀ a' W', Kept noBlock W W' → Ax x a' W' → K a' W') →
      assign.wpIn (Fence.wide.inRound l) (n - 1 - 1) P (Exit.then K (fun _ _ _ => False)) { tmps := (ps.zip (enc x)).foldl (fun t (p, v) => t.setIfInBounds p v) a.tmps, defers := [] } W)
    (hbody : ∀ (l : Nat) (pre : List α) (x : α) (rest : List α) (a' : Act) (W : World), L = pre ++ x :: rest → I pre W → Ax x a' W → body.wpIn (Fence.wide.inRound l) (n - 1 - 1) P (ownPostS w.heap.size U I Ix (pre ++ [x]) W) a' W)
    (hdone : ∀ (D : Nat) (W : World), w.heap.size ≤ D → I L W → W.heap[D]? = some (.deferred (some [])) → Q .normal { a with defers := { target := .collected D, args := #[] } :: a.defers } W)
    (hstop : ∀ (D : Nat) (c : Code) (pre : List α) (W : World), w.heap.size ≤ D → pre <+: L → Ix c pre W → W.heap[D]? = some (.deferred (some [])) → c.wpIn Fence.wide n P Q { a with defers := { target := .collected D, args := #[] } :: a.defers } W) :
    (Code.rangeFunc g ps assign body).wpIn Fence.wide n P Q a w := by
  refine wpIn_rangeFunc fun fn hfn => ?_
  let r : LoopState → Option Code → Loop := fun st pe => { state := st, pending := pe, fn, tmps := a.tmps, params := ps, assign, body, defers := w.heap.size }
  let Lr := w.heap.size + 1
  let At : LoopState → Option Code → World → Prop := fun st pe W => W.heap[Lr]? = some (.loop (r st pe)) ∧ W.heap[w.heap.size]? = some (.deferred (some []))
  have turn : ∀ {st pe} (st' pe') {W : World}, At st pe W → At st' pe' (W.putObj Lr (.loop (r st' pe'))) := fun st' pe' W h =>
    ⟨World.putObj_heap_same (lt_of_blk h.1), (World.putObj_heap_other (by show w.heap.size ≠ w.heap.size + 1; omega)).trans h.2⟩
  have quiet : ∀ {st pe} (o' : Obj) {W : World}, At st pe W → Abide T w.heap.size W (W.putObj Lr o') := fun o' W h => Abide.putObj o' (Nat.le_succ _) h.1 rfl
  have held : ∀ {st pe} {W W' : World}, At st pe W → Abide T (w.heap.size + 2) W W' → At st pe W' := fun h k =>
    ⟨(k.low _ (by show w.heap.size + 1 < _; omega) (lt_of_blk h.1)).trans h.1, (k.low _ (by omega) (lt_of_blk h.2)).trans h.2⟩
  have held2 : ∀ {st pe} {W W' : World}, At st pe W → KeepsFrom w.heap.size W W' → At st pe W' := fun h k => ⟨k.same _ _ (Nat.le_succ _) h.1 rfl, k.same _ _ (Nat.le_refl _) h.2 rfl⟩
  have put2 : ∀ {st pe} (o' : Obj) {W : World}, At st pe W → KeepsFrom (w.heap.size + 2) W (W.putObj Lr o') := fun o' W _ =>
    ⟨by simp, fun k o hk ho _ => (World.putObj_heap_other (by show k ≠ w.heap.size + 1; omega)).trans ho⟩
  obtain ⟨W1, hW1⟩ : ∃ W1, W1 = (w.alloc (.deferred (some []))).alloc (.loop (r .ready none)) := ⟨_, rfl⟩
  have kW1 : Kept noBlock w W1 := by rw [hW1]; exact (Kept.alloc _ _ _).step (Kept.alloc _ _ _)
  have sz1 : W1.heap.size = w.heap.size + 2 := by rw [hW1]; simp
  have at1 : At .ready none W1 := by
    rw [hW1]
    refine ⟨?_, (Below.heap_alloc _ _ _ (by simp)).trans (heap_alloc_new w _)⟩
    have := heap_alloc_new (w.alloc (.deferred (some []))) (.loop (r .ready none))
    rwa [World.size_alloc] at this
  have he : (Instr.enterLoop fn a.tmps ps assign body none).run P w = .ok (Lr, [{ target := .collected w.heap.size, args := #[] }]) W1 := by rw [hW1]; exact run_enterLoop_outer _ _ _ _ _
  refine ⟨Lr, [{ target := .collected w.heap.size, args := #[] }], W1, { target := .fn (.func gf) lb, args := #[.func (.yield Lr) #[] #[]] }, W1, gf, #[.func (.yield Lr) #[] #[]] ++ lb, W1, he, ?_, ?_, ?_, fun h => by simp [Fence.wide] at h, ?_⟩
  · simp only [resolve, hg]
    simp [go_sem]
  · intro f' _
    trivial
  · simp [invoke, go_sem, eg]
  · refine callsIn_wide.2 ((hgo Lr (fun pre W => I pre W ∧ At .ready none W) (fun pre W => ∃ c, Ix c pre W ∧ At .done (some c) W) W1 (hb0.step kW1) (fun s A B h k => ?_) (fun s A B h k => ?_) ?_ ⟨hI _ _ _ h0 (Abide.of_kept kW1), at1⟩).mono ?_)
    · rw [sz1] at k
      exact ⟨hI s A B h.1 (k.mono (by omega)), held h.2 k⟩
    · rw [sz1] at k
      obtain ⟨c, hc, ha⟩ := h
      exact ⟨c, hIx c s A B hc (k.mono (by omega)), held ha k⟩
    · rintro pre x rest W hL ⟨hi, hat⟩
      rw [sz1]
      refine yieldAt_any (n := n - 1 - 1) ⟨fn, _, assign, body, run_yield (P := P) (args := enc x) hat.1 (hps x), roundIn_of_wpIn hfn (hassign Lr pre x W _ hi fun a' W' kW' hx => ?_)⟩
      have hat' : At .ready none W' := held hat (Abide.of_kept kW')
      refine ⟨_, run_beginRound hat'.1 rfl, ?_⟩
      have hatB : At .busy none (W'.putObj Lr (.loop (r .busy none))) := turn .busy none hat'
      have kf0 : KeepsFrom (w.heap.size + 2) W (W'.putObj Lr (.loop (r .busy none))) := (keepsFrom_kept kW' (fun _ _ h => h.elim)).trans (put2 _ hat')
      have sp0 : Spares U W (W'.putObj Lr (.loop (r .busy none))) := (Spares.of_kept kW').trans (Spares.putObj _ hat'.1 rfl)
      refine wpIn_mono (hbody Lr pre x rest a' (W'.putObj Lr (.loop (r .busy none))) hL (hI _ _ _ (hI _ _ _ hi (Abide.of_kept kW')) (quiet _ hat')) (hAx _ _ _ _ hx (quiet _ hat'))) ?_
      have fin : ∀ (j : Option Code) (W3 : World), KeepsFrom w.heap.size (W'.putObj Lr (.loop (r .busy none))) W3 →
          (Instr.endRound Lr j).run P W3 = .ok (.bool j.isNone) (W3.putObj Lr (.loop (r (if j.isNone then .ready else .done) j))) ∧ At .busy none W3 := fun j W3 k =>
        ⟨run_endRound (P := P) j (held2 hatB k).1, held2 hatB k⟩
      have kf : ∀ (o' : Obj) (W3 : World), KeepsFrom w.heap.size (W'.putObj Lr (.loop (r .busy none))) W3 → KeepsFrom (w.heap.size + 2) W (W3.putObj Lr o') := fun o' W3 k =>
        (kf0.trans (keepsFrom_mono k (by omega))).trans (put2 _ (held2 hatB k))
      rintro e a3 W3 hp
      cases e with
      | normal =>
        obtain ⟨k3, hkp, hi3⟩ := hp
        obtain ⟨hr, ha3⟩ := fin none W3 k3
        exact ⟨_, _, hr, .inl ⟨rfl, ⟨hI _ _ _ hi3 (quiet _ ha3), turn .ready none ha3⟩, (sp0.trans hkp).trans (Spares.putObj _ ha3.1 rfl), kf _ _ k3⟩⟩
      | ret =>
        obtain ⟨k3, hkp, hi3⟩ := hp
        obtain ⟨hr, ha3⟩ := fin (some .ret) W3 k3
        exact ⟨_, _, hr, .inr ⟨rfl, ⟨.ret, hIx _ _ _ _ hi3 (quiet _ ha3), turn .done (some .ret) ha3⟩, (sp0.trans hkp).trans (Spares.putObj _ ha3.1 rfl), kf _ _ k3⟩⟩
      | exit id =>
        obtain ⟨k3, hkp, hi3⟩ := hp
        obtain ⟨hr, ha3⟩ := fin (some (.exit id)) W3 k3
        exact ⟨_, _, hr, .inr ⟨rfl, ⟨.exit id, hIx _ _ _ _ hi3 (quiet _ ha3), turn .done (some (.exit id)) ha3⟩, (sp0.trans hkp).trans (Spares.putObj _ ha3.1 rfl), kf _ _ k3⟩⟩
      | goto t =>
        obtain ⟨k3, hkp, hi3⟩ := hp
        obtain ⟨hr, ha3⟩ := fin (some (.goto t)) W3 k3
        exact ⟨_, _, hr, .inr ⟨rfl, ⟨.goto t, hIx _ _ _ _ hi3 (quiet _ ha3), turn .done (some (.goto t)) ha3⟩, (sp0.trans hkp).trans (Spares.putObj _ ha3.1 rfl), kf _ _ k3⟩⟩
      | panic ch => exact hp.elim
      | outgrown => exact hp.elim
    · rintro e W2 ⟨⟨v, rfl⟩, (⟨hi, ha⟩ | ⟨pre, hSp, c, hi, ha⟩)⟩
      · exact ⟨none, _, run_endLoop (P := P) ha.1 (by simp [r]), hdone _ _ (Nat.le_refl _) (hI _ _ _ hi (quiet _ ha)) ((World.putObj_heap_other (by show w.heap.size ≠ w.heap.size + 1; omega)).trans ha.2)⟩
      · exact ⟨some c, _, run_endLoop (P := P) ha.1 (by simp [r]), hstop _ c pre _ (Nat.le_refl _) hSp (hIx _ _ _ _ hi (quiet _ ha)) ((World.putObj_heap_other (by show w.heap.size ≠ w.heap.size + 1; omega)).trans ha.2)⟩

/-- The temporaries of a round, behind the assignment: what came lies in the function's parameters, and in the loop's variables (slots, with what lies in them). -/
def landed (tmps : Array Value) (ps : Array Tmp) (vs : Array Value) (qs : List (Tmp × Value)) : Act :=
  { tmps := qs.foldl (fun t q => t.setIfInBounds q.1 q.2) ((ps.zip vs).foldl (fun t (p, v) => t.setIfInBounds p v) tmps), defers := [] }

/-- The loop, where the assignment only lays values into temporaries. -/
theorem wpIn_runs_to {n : Nat} {P : Program} {α : Type} {g : Operand} {ps : Array Tmp} {assign body : Code} {Q : Exit → Act → World → Prop} {a : Act} {w : World}
    {gf : Nat} {lb : Array Value} (hg : a.eval g = .func (.func gf) #[] lb) (eg : ∀ args w, (callFunc gf args).run P w = .ok (.enter gf args) w)
    {enc : α → Array Value} {T U : Nat → TypeId → Prop} {L : List α} {w0 : World} (hgo : Runs P gf lb enc T U L w0) (hb0 : Kept noBlock w0 w) (hps : ∀ x, (enc x).size = ps.size) (qs : α → List (Tmp × Value))
    (I : List α → World → Prop) (Ix : Code → List α → World → Prop) (hI : ∀ s A B, I s A → Abide T w.heap.size A B → I s B) (hIx : ∀ c s A B, Ix c s A → Abide T w.heap.size A B → Ix c s B) (h0 : I [] w)
    (hassign : ∀ (l : Nat) (x : α) (W : World) (K : Act → World → Prop), K (landed a.tmps ps (enc x) (qs x)) W →
      assign.wpIn (Fence.wide.inRound l) (n - 1 - 1) P (Exit.then K (fun _ _ _ => False)) { tmps := (ps.zip (enc x)).foldl (fun t (p, v) => t.setIfInBounds p v) a.tmps, defers := [] } W)
    (hbody : ∀ (l : Nat) (pre : List α) (x : α) (rest : List α) (W : World), L = pre ++ x :: rest → I pre W → body.wpIn (Fence.wide.inRound l) (n - 1 - 1) P (ownPostS w.heap.size U I Ix (pre ++ [x]) W) (landed a.tmps ps (enc x) (qs x)) W)
    (hdone : ∀ (D : Nat) (W : World), w.heap.size ≤ D → I L W → W.heap[D]? = some (.deferred (some [])) → Q .normal { a with defers := { target := .collected D, args := #[] } :: a.defers } W)
    (hstop : ∀ (D : Nat) (c : Code) (pre : List α) (W : World), w.heap.size ≤ D → pre <+: L → Ix c pre W → W.heap[D]? = some (.deferred (some [])) → c.wpIn Fence.wide n P Q { a with defers := { target := .collected D, args := #[] } :: a.defers } W) :
    (Code.rangeFunc g ps assign body).wpIn Fence.wide n P Q a w :=
  wpIn_runs hg eg hgo hb0 hps I Ix hI hIx h0 (fun x a' _ => a' = landed a.tmps ps (enc x) (qs x)) (fun _ _ _ _ h _ => h)
    (fun l _ x W K _ hK => hassign l x W K (hK _ W (Kept.refl _ _) rfl)) (fun l pre x rest a' W hL hi ha => by subst ha; exact hbody l pre x rest W hL hi) hdone hstop

/-- The loop, where the assignment lays what came into a block of its own. -/
theorem wpIn_runs_box {n : Nat} {P : Program} {α : Type} {g : Operand} {ps : Array Tmp} {assign body : Code} {Q : Exit → Act → World → Prop} {a : Act} {w : World}
    {gf : Nat} {lb : Array Value} (hg : a.eval g = .func (.func gf) #[] lb) (eg : ∀ args w, (callFunc gf args).run P w = .ok (.enter gf args) w)
    {enc : α → Array Value} {T U : Nat → TypeId → Prop} {L : List α} {w0 : World} (hgo : Runs P gf lb enc T U L w0) (hb0 : Kept noBlock w0 w) (hps : ∀ x, (enc x).size = ps.size) (q : Tmp) (t : TypeId) (ht : ∀ k, ¬ T k t) (cs : α → Array Value)
    (I : List α → World → Prop) (Ix : Code → List α → World → Prop) (hI : ∀ s A B, I s A → Abide T w.heap.size A B → I s B) (hIx : ∀ c s A B, Ix c s A → Abide T w.heap.size A B → Ix c s B) (h0 : I [] w)
    (hassign : ∀ (l : Nat) (x : α) (W : World) (K : Act → World → Prop), K (landed a.tmps ps (enc x) [(q, .pointer (some ⟨W.heap.size, 0, none⟩))]) (W.alloc (.cells (cs x) t)) →
      assign.wpIn (Fence.wide.inRound l) (n - 1 - 1) P (Exit.then K (fun _ _ _ => False)) { tmps := (ps.zip (enc x)).foldl (fun t (p, v) => t.setIfInBounds p v) a.tmps, defers := [] } W)
    (hbody : ∀ (l : Nat) (pre : List α) (x : α) (rest : List α) (Bx : Nat) (W : World), L = pre ++ x :: rest → I pre W → W.heap[Bx]? = some (.cells (cs x) t (0, 0)) →
      body.wpIn (Fence.wide.inRound l) (n - 1 - 1) P (ownPostS w.heap.size U I Ix (pre ++ [x]) W) (landed a.tmps ps (enc x) [(q, .pointer (some ⟨Bx, 0, none⟩))]) W)
    (hdone : ∀ (D : Nat) (W : World), w.heap.size ≤ D → I L W → W.heap[D]? = some (.deferred (some [])) → Q .normal { a with defers := { target := .collected D, args := #[] } :: a.defers } W)
    (hstop : ∀ (D : Nat) (c : Code) (pre : List α) (W : World), w.heap.size ≤ D → pre <+: L → Ix c pre W → W.heap[D]? = some (.deferred (some [])) → c.wpIn Fence.wide n P Q { a with defers := { target := .collected D, args := #[] } :: a.defers } W) :
    (Code.rangeFunc g ps assign body).wpIn Fence.wide n P Q a w :=
  wpIn_runs hg eg hgo hb0 hps I Ix hI hIx h0 (fun x a' W => ∃ Bx, W.heap[Bx]? = some (.cells (cs x) t (0, 0)) ∧ a' = landed a.tmps ps (enc x) [(q, .pointer (some ⟨Bx, 0, none⟩))])
    (fun x a' A B h k => by obtain ⟨Bx, h1, h2⟩ := h; exact ⟨Bx, k.blk h1 (.inr (ht Bx)), h2⟩)
    (fun l _ x W K _ hK => hassign l x W K (hK _ _ (Kept.alloc _ _ _) ⟨W.heap.size, heap_alloc_new _ _, rfl⟩)) (fun l pre x rest a' W hL hi ha => by obtain ⟨Bx, h1, rfl⟩ := ha; exact hbody l pre x rest Bx W hL hi h1) hdone hstop

end Go.Proofs.Ytohanlhfbfodlaa
