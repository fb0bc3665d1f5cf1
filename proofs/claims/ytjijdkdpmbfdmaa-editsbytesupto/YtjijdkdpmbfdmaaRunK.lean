/-
  Several texts, one behind the other. No statement is proved here.
-/
import Derived.Test.YtjijdkdpmbfdmaaMem
import Derived.RangeFuncNested
import Derived.RangeFuncLeaves
import Derived.ControlIn
import Derived.RangeFuncBound
import Derived.OrdersIn
import Derived.Test.YtjijdkdpmbfdmaaSayK
import Derived.OwnWalkIn
/-
  Functions that go over things, and loops over them, where both the function and the loop's body have cells of their own that they change: each leaves the other's. No statement is proved here.
-/
namespace Go.Proofs.Ytjijdkdpmbfdmaa
open Go.RowKit

/-- A box that was written. -/
theorem setB {W : World} {B : Nat} {v u : Value} {t : TypeId} (h : W.heap[B]? = some (.cells #[v] t (0, 0))) : (W.setCell ⟨B, 0, none⟩ u).heap[B]? = some (.cells #[u] t (0, 0)) := by
  have := heap_setCell_same W B 0 _ t u h
  simpa using this

/-- What one who goes over things may do between two of them: what lies below m is as it was, and all cells but those of T (a block, and its type). -/
structure Abide (T : Nat → TypeId → Prop) (m : Nat) (A B : World) : Prop where
  os : B.os = A.os
  tape : B.tape = A.tape
  output : B.output = A.output
  size : A.heap.size ≤ B.heap.size
  low : ∀ k, k < m → k < A.heap.size → B.heap[k]? = A.heap[k]?
  same : ∀ (k : Nat) cs t fr, A.heap[k]? = some (.cells cs t fr) → ¬ T k t → B.heap[k]? = some (.cells cs t fr)
section
variable {T : Nat → TypeId → Prop} {m m' : Nat} {A B C w : World}
theorem Abide.refl (T : Nat → TypeId → Prop) (m : Nat) (A : World) : Abide T m A A := ⟨rfl, rfl, rfl, Nat.le_refl _, fun _ _ _ => rfl, fun _ _ _ _ h _ => h⟩
theorem Abide.trans (h : Abide T m A B) (k : Abide T m B C) : Abide T m A C :=
  ⟨k.os.trans h.os, k.tape.trans h.tape, k.output.trans h.output, Nat.le_trans h.size k.size, fun i h1 h2 => (k.low i h1 (Nat.lt_of_lt_of_le h2 h.size)).trans (h.low i h1 h2), fun i cs t fr h1 h2 => k.same i cs t fr (h.same i cs t fr h1 h2) h2⟩
theorem Abide.mono (h : Abide T m A B) (hm : m' ≤ m) : Abide T m' A B := ⟨h.os, h.tape, h.output, h.size, fun k h1 h2 => h.low k (Nat.lt_of_lt_of_le h1 hm) h2, h.same⟩
theorem Abide.of_kept (h : Kept noBlock A B) : Abide T m A B := ⟨h.os, h.tape, h.output, h.size, fun k _ h2 => h.block k h2 (fun h => h), fun _ _ _ _ h1 _ => h.blk h1 (fun h => h)⟩
theorem Abide.more {T' : Nat → TypeId → Prop} (h : Abide T m A B) (hT : ∀ k t, T k t → T' k t) : Abide T' m A B := ⟨h.os, h.tape, h.output, h.size, h.low, fun k cs t fr h1 h2 => h.same k cs t fr h1 (fun h3 => h2 (hT k t h3))⟩
theorem Abide.putObj {l : Nat} {o : Obj} (o' : Obj) (hl : m ≤ l) (h : A.heap[l]? = some o) (ho : o.isCells = false) : Abide T m A (A.putObj l o') := by
  refine ⟨rfl, rfl, rfl, by simp, fun k hk _ => World.putObj_heap_other (by omega), fun k cs t fr hk _ => (World.putObj_heap_other (fun e => ?_)).trans hk⟩
  subst e
  rw [hk] at h
  injection h with h
  subst h
  cases ho
/-- A cell of its own that it writes. -/
theorem Abide.setCell {p : Addr} {cs : Array Value} {t : TypeId} {fr : Nat × Nat} (u : Value) (hp : m ≤ p.block) (hb : A.heap[p.block]? = some (.cells cs t fr)) (ht : T p.block t) : Abide T m A (A.setCell p u) := by
  refine ⟨rfl, rfl, rfl, by simp [World.setCell], fun k hk _ => Below.heap_setCell A p u k (by omega), fun k cs' t' fr' hk hn => (Below.heap_setCell A p u k (fun e => ?_)).trans hk⟩
  subst e
  rw [hk] at hb
  injection hb with hb
  injection hb with _ e2
  subst e2
  exact hn ht
theorem Abide.blk (h : Abide T m A B) {k : Nat} {cs : Array Value} {t : TypeId} {fr : Nat × Nat} (hk : A.heap[k]? = some (.cells cs t fr)) (hn : k < m ∨ ¬ T k t) : B.heap[k]? = some (.cells cs t fr) :=
  hn.elim (fun h1 => (h.low k h1 (lt_of_blk hk)).trans hk) (fun h1 => h.same k cs t fr hk h1)
/-- What was kept since is kept. -/
theorem Abide.kept {S : Nat → Prop} (k : Kept S w A) (h : Abide T m A B) (hm : w.heap.size ≤ m) : Kept S w B :=
  ⟨h.os.trans k.os, h.tape.trans k.tape, h.output.trans k.output, Nat.le_trans k.size h.size, fun i hi hn => (h.low i (by omega) (Nat.lt_of_lt_of_le hi k.size)).trans (k.block i hi hn)⟩
theorem Abide.own (h : Abide T m A B) {base e size n : Nat} {v : Value} {xs : List Value} (ho : A.ownsRow base e size v n xs) (hn : (∀ b, v.ownBlock = some b → b < m) ∨ ∀ b, ¬ T b e) : B.ownsRow base e size v n xs := by
  refine ⟨ho.1, ?_⟩
  rcases ho.2 with h1 | ⟨g, cap, cur, rfl, hb, hgg, rest⟩
  · exact .inl h1
  · exact .inr ⟨g, cap, cur, rfl, hb, h.blk hgg (hn.imp (fun h => h g rfl) (fun h => h g)), rest⟩
end

/-- What a round leaves as it was: cells of types of U. -/
def Spares (U : Nat → TypeId → Prop) (W W' : World) : Prop := ∀ (k : Nat) cs t fr, W.heap[k]? = some (.cells cs t fr) → U k t → W'.heap[k]? = some (.cells cs t fr)
theorem Spares.refl (U : Nat → TypeId → Prop) (W : World) : Spares U W W := fun _ _ _ _ h _ => h
theorem Spares.trans {U : Nat → TypeId → Prop} {A B C : World} (h : Spares U A B) (k : Spares U B C) : Spares U A C := fun i cs t fr h1 h2 => k i cs t fr (h i cs t fr h1 h2) h2
theorem Spares.of_kept {U : Nat → TypeId → Prop} {A B : World} (h : Kept noBlock A B) : Spares U A B := fun _ _ _ _ h1 _ => h.blk h1 (fun h => h)
theorem Spares.putObj {U : Nat → TypeId → Prop} {A : World} {l : Nat} {o : Obj} (o' : Obj) (h : A.heap[l]? = some o) (ho : o.isCells = false) : Spares U A (A.putObj l o') :=
  fun k cs t fr h1 _ => (Abide.putObj (T := fun _ _ => False) (m := 0) o' (Nat.zero_le _) h ho).same k cs t fr h1 (fun h => h)
theorem Spares.mono {U V : Nat → TypeId → Prop} {A B : World} (h : Spares U A B) (hV : ∀ k t, V k t → U k t) : Spares V A B := fun k cs t fr h1 h2 => h k cs t fr h1 (hV k t h2)
/-- .. of blocks that are not of these types. -/
theorem Spares.of {U : Nat → TypeId → Prop} {S : Nat → Prop} {A B : World} (h : Kept S A B) (hS : ∀ k, S k → ∃ cs t fr, A.heap[k]? = some (.cells cs t fr) ∧ ¬ U k t) : Spares U A B := fun k cs t fr h1 h2 => h.blk h1 (fun hs => by
  obtain ⟨cs', t', fr', h3, h4⟩ := hS k hs
  rw [h1] at h3
  injection h3 with h3
  injection h3 with _ e
  exact h4 (e ▸ h2))
theorem keepsFrom_kept {B : Nat} {S : Nat → Prop} {A C : World} (h : Kept S A C) (hS : ∀ k, B ≤ k → S k → ∃ cs t fr, A.heap[k]? = some (.cells cs t fr)) : KeepsFrom B A C :=
  ⟨h.size, fun k o hB hk ho => h.blk hk (fun hs => by
    obtain ⟨cs, t, fr, h3⟩ := hS k hB hs
    rw [hk] at h3
    injection h3 with h3
    subst h3
    cases ho)⟩
theorem keepsFrom_mono {B B' : Nat} {A C : World} (h : KeepsFrom B A C) (hB : B ≤ B') : KeepsFrom B' A C := ⟨h.size, fun k o h1 h2 h3 => h.same k o (Nat.le_trans hB h1) h2 h3⟩

theorem yieldAt_any {n n' : Nat} {P : Program} {l : Nat} {args : Array Value} {W : World} {R : Ending → World → Prop} (h : YieldAt Fence.wide n P l args W R) : YieldAt Fence.wide n' P l args W R := by
  obtain ⟨fn, tmps, assign, body, hy, hR⟩ := h
  exact ⟨fn, tmps, assign, body, hy, hR.1, fun c cs _ => hR.2 c cs (fun d h => by cases h)⟩
theorem yieldAt_round {n l0 : Nat} {P : Program} {l : Nat} {args : Array Value} {W : World} {R : Ending → World → Prop} (h : YieldAt Fence.wide n P l args W R) : YieldAt (Fence.wide.inRound l0) n P l args W R := h

/-- What a round tells. -/
def Told {α : Type} (U : Nat → TypeId → Prop) (m : Nat) (J Jx : List α → World → Prop) (xs : List α) (W : World) (e : Ending) (W' : World) : Prop :=
  (e = .returned (.bool true) ∧ J xs W' ∧ Spares U W W' ∧ KeepsFrom m W W') ∨ (e = .returned (.bool false) ∧ Jx xs W' ∧ Spares U W W' ∧ KeepsFrom m W W')

/-- A function that goes over L, for whatever is done with it ('J': between two things; 'Jx': behind one at which it was left). -/
def Runs {α : Type} (P : Program) (g : Nat) (lb : Array Value) (enc : α → Array Value) (T U : Nat → TypeId → Prop) (L : List α) (w : World) : Prop :=
  ∀ (l : Nat) (J Jx : List α → World → Prop) (W : World), Kept noBlock w W → (∀ s A B, J s A → Abide T W.heap.size A B → J s B) → (∀ s A B, Jx s A → Abide T W.heap.size A B → Jx s B) →
    (∀ pre x rest W1, L = pre ++ x :: rest → J pre W1 → YieldAt Fence.wide 0 P l (enc x) W1 (Told U W.heap.size J Jx (pre ++ [x]) W1)) → J [] W →
    Calls P g (#[.func (.yield l) #[] #[]] ++ lb) W fun e W' => (∃ v, e = .returned v) ∧ (J L W' ∨ ∃ pre, pre <+: L ∧ Jx pre W')
theorem Runs.later {α : Type} {P : Program} {g : Nat} {lb : Array Value} {enc : α → Array Value} {T U : Nat → TypeId → Prop} {L : List α} {w w' : World} (h : Runs P g lb enc T U L w) (k : Kept noBlock w w') : Runs P g lb enc T U L w' :=
  fun l J Jx W hW => h l J Jx W (k.step hW)

/-- How a round may be left. -/
def ownPostS {α : Type} (B : Nat) (U : Nat → TypeId → Prop) (I : List α → World → Prop) (Ix : Code → List α → World → Prop) (xs : List α) (W : World) : Exit → Act → World → Prop
  | .normal, _, W' => KeepsFrom B W W' ∧ Spares U W W' ∧ I xs W'
  | .ret, _, W' => KeepsFrom B W W' ∧ Spares U W W' ∧ Ix .ret xs W'
  | .exit id, _, W' => KeepsFrom B W W' ∧ Spares U W W' ∧ Ix (.exit id) xs W'
  | .goto t, _, W' => KeepsFrom B W W' ∧ Spares U W W' ∧ Ix (.goto t) xs W'
  | .panic _, _, _ => False
  | .outgrown, _, _ => False

/-- The loop. 'I': what holds between two rounds; 'Ix': behind a round that left by a jump; 'Ax': the temporaries behind the assignment. -/
theorem wpIn_runs {n : Nat} {P : Program} {α : Type} {g : Operand} {ps : Array Tmp} {assign body : Code} {Q : Exit → Act → World → Prop} {a : Act} {w : World}
    {gf : Nat} {lb : Array Value} (hg : a.eval g = .func (.func gf) #[] lb) (eg : ∀ args w, (callFunc gf args).run P w = .ok (.enter gf args) w)
    {enc : α → Array Value} {T U : Nat → TypeId → Prop} {L : List α} {w0 : World} (hgo : Runs P gf lb enc T U L w0) (hb0 : Kept noBlock w0 w) (hps : ∀ x, (enc x).size = ps.size)
    (I : List α → World → Prop) (Ix : Code → List α → World → Prop) (hI : ∀ s A B, I s A → Abide T w.heap.size A B → I s B) (hIx : ∀ c s A B, Ix c s A → Abide T w.heap.size A B → Ix c s B) (h0 : I [] w)
    (Ax : α → Act → World → Prop) (hAx : ∀ x a' A B, Ax x a' A → Abide T w.heap.size A B → Ax x a' B)
    (hassign : ∀ (l : Nat) (pre : List α) (x : α) (W : World) (K : Act → World → Prop), I pre W → (∀ a' W', Kept noBlock W W' → Ax x a' W' → K a' W') →
      assign.wpIn (Fence.wide.inRound l) (n - 1 - 1) P (Exit.then K (fun _ _ _ => False)) { tmps := (ps.zip (enc x)).foldl (fun t (p, v) => t.setIfInBounds p v) a.tmps, defers := [] } W)
    (hbody : ∀ (l : Nat) (pre : List α) (x : α) (rest : List α) (a' : Act) (W : World), L = pre ++ x :: rest → I pre W → Ax x a' W → body.wpIn (Fence.wide.inRound l) (n - 1 - 1) P (ownPostS w.heap.size U I Ix (pre ++ [x]) W) a' W)
    (hdone : ∀ (D : Nat) (W : World), w.heap.size ≤ D → I L W → W.heap[D]? = some (.deferred (some [])) → Q .normal { a with defers := { target := .collected D, args := #[] } :: a.defers } W)
    (hstop : ∀ (D : Nat) (c : Code) (pre : List α) (W : World), w.heap.size ≤ D → pre <+: L → Ix c pre W → W.heap[D]? = some (.deferred (some [])) → c.wpIn Fence.wide n P Q { a with defers := { target := .collected D, args := #[] } :: a.defers } W) :
    (Code.rangeFunc g ps assign body).wpIn Fence.wide n P Q a w := by
  refine wpIn_rangeFunc fun fn hfn => ?_
  let r : LoopState → Option Code → Loop := fun st pe => { state := st, pending := pe, fn, tmps := a.tmps, params := ps, assign, body, defers := w.heap.size }
  let Lr := w.heap.size + 1
  let At : LoopState → Option Code → World → Prop := fun st pe W => W.heap[Lr]? = some (.loop (r st pe)) ∧ W.heap[w.heap.size]? = some (.deferred (some []))
  have turn : ∀ {st pe} (st' pe') {W : World}, At st pe W → At st' pe' (W.putObj Lr (.loop (r st' pe'))) := fun st' pe' W h =>
    ⟨World.putObj_heap_same (lt_of_blk h.1), (World.putObj_heap_other (by show w.heap.size ≠ w.heap.size + 1; omega)).trans h.2⟩
  have quiet : ∀ {st pe} (o' : Obj) {W : World}, At st pe W → Abide T w.heap.size W (W.putObj Lr o') := fun o' W h => Abide.putObj o' (Nat.le_succ _) h.1 rfl
  have held : ∀ {st pe} {W W' : World}, At st pe W → Abide T (w.heap.size + 2) W W' → At st pe W' := fun h k =>
    ⟨(k.low _ (by show w.heap.size + 1 < _; omega) (lt_of_blk h.1)).trans h.1, (k.low _ (by omega) (lt_of_blk h.2)).trans h.2⟩
  have held2 : ∀ {st pe} {W W' : World}, At st pe W → KeepsFrom w.heap.size W W' → At st pe W' := fun h k => ⟨k.same _ _ (Nat.le_succ _) h.1 rfl, k.same _ _ (Nat.le_refl _) h.2 rfl⟩
  have put2 : ∀ {st pe} (o' : Obj) {W : World}, At st pe W → KeepsFrom (w.heap.size + 2) W (W.putObj Lr o') := fun o' W _ =>
    ⟨by simp, fun k o hk ho _ => (World.putObj_heap_other (by show k ≠ w.heap.size + 1; omega)).trans ho⟩
  obtain ⟨W1, hW1⟩ : ∃ W1, W1 = (w.alloc (.deferred (some []))).alloc (.loop (r .ready none)) := ⟨_, rfl⟩
  have kW1 : Kept noBlock w W1 := by rw [hW1]; exact (Kept.alloc _ _ _).step (Kept.alloc _ _ _)
  have sz1 : W1.heap.size = w.heap.size + 2 := by rw [hW1]; simp
  have at1 : At .ready none W1 := by
    rw [hW1]
    refine ⟨?_, (Below.heap_alloc _ _ _ (by simp)).trans (heap_alloc_new w _)⟩
    have := heap_alloc_new (w.alloc (.deferred (some []))) (.loop (r .ready none))
    rwa [World.size_alloc] at this
  have he : (Instr.enterLoop fn a.tmps ps assign body none).run P w = .ok (Lr, [{ target := .collected w.heap.size, args := #[] }]) W1 := by rw [hW1]; exact run_enterLoop_outer _ _ _ _ _
  refine ⟨Lr, [{ target := .collected w.heap.size, args := #[] }], W1, { target := .fn (.func gf) lb, args := #[.func (.yield Lr) #[] #[]] }, W1, gf, #[.func (.yield Lr) #[] #[]] ++ lb, W1, he, ?_, ?_, ?_, fun h => by simp [Fence.wide] at h, ?_⟩
  · simp only [resolve, hg]
    simp [go_sem]
  · intro f' _
    trivial
  · simp [invoke, go_sem, eg]
  · refine callsIn_wide.2 ((hgo Lr (fun pre W => I pre W ∧ At .ready none W) (fun pre W => ∃ c, Ix c pre W ∧ At .done (some c) W) W1 (hb0.step kW1) (fun s A B h k => ?_) (fun s A B h k => ?_) ?_ ⟨hI _ _ _ h0 (Abide.of_kept kW1), at1⟩).mono ?_)
    · rw [sz1] at k
      exact ⟨hI s A B h.1 (k.mono (by omega)), held h.2 k⟩
    · rw [sz1] at k
      obtain ⟨c, hc, ha⟩ := h
      exact ⟨c, hIx c s A B hc (k.mono (by omega)), held ha k⟩
    · rintro pre x rest W hL ⟨hi, hat⟩
      rw [sz1]
      refine yieldAt_any (n := n - 1 - 1) ⟨fn, _, assign, body, run_yield (P := P) (args := enc x) hat.1 (hps x), roundIn_of_wpIn hfn (hassign Lr pre x W _ hi fun a' W' kW' hx => ?_)⟩
      have hat' : At .ready none W' := held hat (Abide.of_kept kW')
      refine ⟨_, run_beginRound hat'.1 rfl, ?_⟩
      have hatB : At .busy none (W'.putObj Lr (.loop (r .busy none))) := turn .busy none hat'
      have kf0 : KeepsFrom (w.heap.size + 2) W (W'.putObj Lr (.loop (r .busy none))) := (keepsFrom_kept kW' (fun _ _ h => h.elim)).trans (put2 _ hat')
      have sp0 : Spares U W (W'.putObj Lr (.loop (r .busy none))) := (Spares.of_kept kW').trans (Spares.putObj _ hat'.1 rfl)
      refine wpIn_mono (hbody Lr pre x rest a' (W'.putObj Lr (.loop (r .busy none))) hL (hI _ _ _ (hI _ _ _ hi (Abide.of_kept kW')) (quiet _ hat')) (hAx _ _ _ _ hx (quiet _ hat'))) ?_
      have fin : ∀ (j : Option Code) (W3 : World), KeepsFrom w.heap.size (W'.putObj Lr (.loop (r .busy none))) W3 →
          (Instr.endRound Lr j).run P W3 = .ok (.bool j.isNone) (W3.putObj Lr (.loop (r (if j.isNone then .ready else .done) j))) ∧ At .busy none W3 := fun j W3 k =>
        ⟨run_endRound (P := P) j (held2 hatB k).1, held2 hatB k⟩
      have kf : ∀ (o' : Obj) (W3 : World), KeepsFrom w.heap.size (W'.putObj Lr (.loop (r .busy none))) W3 → KeepsFrom (w.heap.size + 2) W (W3.putObj Lr o') := fun o' W3 k =>
        (kf0.trans (keepsFrom_mono k (by omega))).trans (put2 _ (held2 hatB k))
      rintro e a3 W3 hp
      cases e with
      | normal =>
        obtain ⟨k3, hkp, hi3⟩ := hp
        obtain ⟨hr, ha3⟩ := fin none W3 k3
        exact ⟨_, _, hr, .inl ⟨rfl, ⟨hI _ _ _ hi3 (quiet _ ha3), turn .ready none ha3⟩, (sp0.trans hkp).trans (Spares.putObj _ ha3.1 rfl), kf _ _ k3⟩⟩
      | ret =>
        obtain ⟨k3, hkp, hi3⟩ := hp
        obtain ⟨hr, ha3⟩ := fin (some .ret) W3 k3
        exact ⟨_, _, hr, .inr ⟨rfl, ⟨.ret, hIx _ _ _ _ hi3 (quiet _ ha3), turn .done (some .ret) ha3⟩, (sp0.trans hkp).trans (Spares.putObj _ ha3.1 rfl), kf _ _ k3⟩⟩
      | exit id =>
        obtain ⟨k3, hkp, hi3⟩ := hp
        obtain ⟨hr, ha3⟩ := fin (some (.exit id)) W3 k3
        exact ⟨_, _, hr, .inr ⟨rfl, ⟨.exit id, hIx _ _ _ _ hi3 (quiet _ ha3), turn .done (some (.exit id)) ha3⟩, (sp0.trans hkp).trans (Spares.putObj _ ha3.1 rfl), kf _ _ k3⟩⟩
      | goto t =>
        obtain ⟨k3, hkp, hi3⟩ := hp
        obtain ⟨hr, ha3⟩ := fin (some (.goto t)) W3 k3
        exact ⟨_, _, hr, .inr ⟨rfl, ⟨.goto t, hIx _ _ _ _ hi3 (quiet _ ha3), turn .done (some (.goto t)) ha3⟩, (sp0.trans hkp).trans (Spares.putObj _ ha3.1 rfl), kf _ _ k3⟩⟩
      | panic ch => exact hp.elim
      | outgrown => exact hp.elim
    · rintro e W2 ⟨⟨v, rfl⟩, (⟨hi, ha⟩ | ⟨pre, hSp, c, hi, ha⟩)⟩
      · exact ⟨none, _, run_endLoop (P := P) ha.1 (by simp [r]), hdone _ _ (Nat.le_refl _) (hI _ _ _ hi (quiet _ ha)) ((World.putObj_heap_other (by show w.heap.size ≠ w.heap.size + 1; omega)).trans ha.2)⟩
      · exact ⟨some c, _, run_endLoop (P := P) ha.1 (by simp [r]), hstop _ c pre _ (Nat.le_refl _) hSp (hIx _ _ _ _ hi (quiet _ ha)) ((World.putObj_heap_other (by show w.heap.size ≠ w.heap.size + 1; omega)).trans ha.2)⟩

/-- The temporaries of a round, behind the assignment: what came lies in the function's parameters, and in the loop's variables (slots, with what lies in them). -/
def landed (tmps : Array Value) (ps : Array Tmp) (vs : Array Value) (qs : List (Tmp × Value)) : Act :=
  { tmps := qs.foldl (fun t q => t.setIfInBounds q.1 q.2) ((ps.zip vs).foldl (fun t (p, v) => t.setIfInBounds p v) tmps), defers := [] }

/-- The loop, where the assignment only lays values into temporaries. -/
theorem wpIn_runs_to {n : Nat} {P : Program} {α : Type} {g : Operand} {ps : Array Tmp} {assign body : Code} {Q : Exit → Act → World → Prop} {a : Act} {w : World}
    {gf : Nat} {lb : Array Value} (hg : a.eval g = .func (.func gf) #[] lb) (eg : ∀ args w, (callFunc gf args).run P w = .ok (.enter gf args) w)
    {enc : α → Array Value} {T U : Nat → TypeId → Prop} {L : List α} {w0 : World} (hgo : Runs P gf lb enc T U L w0) (hb0 : Kept noBlock w0 w) (hps : ∀ x, (enc x).size = ps.size) (qs : α → List (Tmp × Value))
    (I : List α → World → Prop) (Ix : Code → List α → World → Prop) (hI : ∀ s A B, I s A → Abide T w.heap.size A B → I s B) (hIx : ∀ c s A B, Ix c s A → Abide T w.heap.size A B → Ix c s B) (h0 : I [] w)
    (hassign : ∀ (l : Nat) (x : α) (W : World) (K : Act → World → Prop), K (landed a.tmps ps (enc x) (qs x)) W →
      assign.wpIn (Fence.wide.inRound l) (n - 1 - 1) P (Exit.then K (fun _ _ _ => False)) { tmps := (ps.zip (enc x)).foldl (fun t (p, v) => t.setIfInBounds p v) a.tmps, defers := [] } W)
    (hbody : ∀ (l : Nat) (pre : List α) (x : α) (rest : List α) (W : World), L = pre ++ x :: rest → I pre W → body.wpIn (Fence.wide.inRound l) (n - 1 - 1) P (ownPostS w.heap.size U I Ix (pre ++ [x]) W) (landed a.tmps ps (enc x) (qs x)) W)
    (hdone : ∀ (D : Nat) (W : World), w.heap.size ≤ D → I L W → W.heap[D]? = some (.deferred (some [])) → Q .normal { a with defers := { target := .collected D, args := #[] } :: a.defers } W)
    (hstop : ∀ (D : Nat) (c : Code) (pre : List α) (W : World), w.heap.size ≤ D → pre <+: L → Ix c pre W → W.heap[D]? = some (.deferred (some [])) → c.wpIn Fence.wide n P Q { a with defers := { target := .collected D, args := #[] } :: a.defers } W) :
    (Code.rangeFunc g ps assign body).wpIn Fence.wide n P Q a w :=
  wpIn_runs hg eg hgo hb0 hps I Ix hI hIx h0 (fun x a' _ => a' = landed a.tmps ps (enc x) (qs x)) (fun _ _ _ _ h _ => h)
    (fun l _ x W K _ hK => hassign l x W K (hK _ W (Kept.refl _ _) rfl)) (fun l pre x rest a' W hL hi ha => by subst ha; exact hbody l pre x rest W hL hi) hdone hstop

/-- The loop, where the assignment lays what came into a block of its own. -/
theorem wpIn_runs_box {n : Nat} {P : Program} {α : Type} {g : Operand} {ps : Array Tmp} {assign body : Code} {Q : Exit → Act → World → Prop} {a : Act} {w : World}
    {gf : Nat} {lb : Array Value} (hg : a.eval g = .func (.func gf) #[] lb) (eg : ∀ args w, (callFunc gf args).run P w = .ok (.enter gf args) w)
    {enc : α → Array Value} {T U : Nat → TypeId → Prop} {L : List α} {w0 : World} (hgo : Runs P gf lb enc T U L w0) (hb0 : Kept noBlock w0 w) (hps : ∀ x, (enc x).size = ps.size) (q : Tmp) (t : TypeId) (ht : ∀ k, ¬ T k t) (cs : α → Array Value)
    (I : List α → World → Prop) (Ix : Code → List α → World → Prop) (hI : ∀ s A B, I s A → Abide T w.heap.size A B → I s B) (hIx : ∀ c s A B, Ix c s A → Abide T w.heap.size A B → Ix c s B) (h0 : I [] w)
    (hassign : ∀ (l : Nat) (x : α) (W : World) (K : Act → World → Prop), K (landed a.tmps ps (enc x) [(q, .pointer (some ⟨W.heap.size, 0, none⟩))]) (W.alloc (.cells (cs x) t)) →
      assign.wpIn (Fence.wide.inRound l) (n - 1 - 1) P (Exit.then K (fun _ _ _ => False)) { tmps := (ps.zip (enc x)).foldl (fun t (p, v) => t.setIfInBounds p v) a.tmps, defers := [] } W)
    (hbody : ∀ (l : Nat) (pre : List α) (x : α) (rest : List α) (Bx : Nat) (W : World), L = pre ++ x :: rest → I pre W → W.heap[Bx]? = some (.cells (cs x) t (0, 0)) →
      body.wpIn (Fence.wide.inRound l) (n - 1 - 1) P (ownPostS w.heap.size U I Ix (pre ++ [x]) W) (landed a.tmps ps (enc x) [(q, .pointer (some ⟨Bx, 0, none⟩))]) W)
    (hdone : ∀ (D : Nat) (W : World), w.heap.size ≤ D → I L W → W.heap[D]? = some (.deferred (some [])) → Q .normal { a with defers := { target := .collected D, args := #[] } :: a.defers } W)
    (hstop : ∀ (D : Nat) (c : Code) (pre : List α) (W : World), w.heap.size ≤ D → pre <+: L → Ix c pre W → W.heap[D]? = some (.deferred (some [])) → c.wpIn Fence.wide n P Q { a with defers := { target := .collected D, args := #[] } :: a.defers } W) :
    (Code.rangeFunc g ps assign body).wpIn Fence.wide n P Q a w :=
  wpIn_runs hg eg hgo hb0 hps I Ix hI hIx h0 (fun x a' W => ∃ Bx, W.heap[Bx]? = some (.cells (cs x) t (0, 0)) ∧ a' = landed a.tmps ps (enc x) [(q, .pointer (some ⟨Bx, 0, none⟩))])
    (fun x a' A B h k => by obtain ⟨Bx, h1, h2⟩ := h; exact ⟨Bx, k.blk h1 (.inr (ht Bx)), h2⟩)
    (fun l _ x W K _ hK => hassign l x W K (hK _ _ (Kept.alloc _ _ _) ⟨W.heap.size, heap_alloc_new _ _, rfl⟩)) (fun l pre x rest a' W hL hi ha => by obtain ⟨Bx, h1, rfl⟩ := ha; exact hbody l pre x rest Bx W hL hi h1) hdone hstop

end Go.Proofs.Ytjijdkdpmbfdmaa

/-
  Functions that go over things, and loops over them, where the rounds own blocks that come and go: what rounds leave, and what the function may change, hangs on which these are. No statement is proved here.
-/
namespace Go.Proofs.Ytjijdkdpmbfdmaa
open Go.RowKit

/-- What rounds did, that owned O and own O' now: cells of U were left; what is no cells was, from m on. -/
structure Went (U : (Nat → Prop) → Nat → TypeId → Prop) (m : Nat) (O : Nat → Prop) (W : World) (O' : Nat → Prop) (W' : World) : Prop where
  sp : Spares (U O) W W'
  kf : KeepsFrom m W W'
  own : ∀ k, O' k → O k ∨ fresh W W' k
/-- The less is owned, the more is left. -/
def Anti (U : (Nat → Prop) → Nat → TypeId → Prop) : Prop := ∀ (O O' : Nat → Prop) k t, (O' k → O k) → U O k t → U O' k t
section
variable {U V : (Nat → Prop) → Nat → TypeId → Prop} {m m' : Nat} {O O1 O2 : Nat → Prop} {A B C : World}
theorem Went.of_kept (h : Kept noBlock A B) : Went U m O A O B := ⟨Spares.of_kept h, keepsFrom_kept h (fun _ _ h => h.elim), fun _ h => .inl h⟩
theorem Went.refl : Went U m O A O A := Went.of_kept (Kept.refl _ _)
theorem Went.trans (hU : Anti U) (h : Went U m O A O1 B) (k : Went U m O1 B O2 C) : Went U m O A O2 C := by
  refine ⟨fun i cs t fr h1 h2 => k.sp i cs t fr (h.sp i cs t fr h1 h2) (hU O O1 i t (fun ho => ?_) h2), h.kf.trans k.kf, fun i hi => ?_⟩
  · rcases h.own i ho with h3 | h3
    · exact h3
    · exact absurd h3.1 (by have := lt_of_blk h1; omega)
  · rcases k.own i hi with h3 | h3
    · exact (h.own i h3).imp id (fun h4 => ⟨h4.1, Nat.lt_of_lt_of_le h4.2 k.kf.size⟩)
    · exact .inr ⟨Nat.le_trans h.kf.size h3.1, h3.2⟩
theorem Went.mono (h : Went U m O A O1 B) (hm : m ≤ m') : Went U m' O A O1 B := ⟨h.sp, keepsFrom_mono h.kf hm, h.own⟩
theorem Went.less (h : Went U m O A O1 B) (hV : ∀ k t, V O k t → U O k t) : Went V m O A O1 B := ⟨h.sp.mono hV, h.kf, h.own⟩
end
/-- What a round tells. -/
def Told2 {α : Type} (U : (Nat → Prop) → Nat → TypeId → Prop) (m : Nat) (J Jx : List α → (Nat → Prop) → World → Prop) (xs : List α) (O : Nat → Prop) (W : World) (e : Ending) (W' : World) : Prop :=
  ∃ O', Went U m O W O' W' ∧ ((e = .returned (.bool true) ∧ J xs O' W') ∨ (e = .returned (.bool false) ∧ Jx xs O' W'))
/-- A function that goes over L, for whatever is done with it ('J': between two things, and what is owned; 'Jx': behind one at which it was left). -/
def Runs2 {α : Type} (P : Program) (g : Nat) (lb : Array Value) (enc : α → Array Value) (T U : (Nat → Prop) → Nat → TypeId → Prop) (L : List α) (w : World) : Prop :=
  ∀ (l : Nat) (J Jx : List α → (Nat → Prop) → World → Prop) (W : World) (O0 : Nat → Prop), Kept noBlock w W → (∀ s O A B, J s O A → Abide (T O) W.heap.size A B → J s O B) → (∀ s O A B, Jx s O A → Abide (T O) W.heap.size A B → Jx s O B) → (∀ s O A k, J s O A → O k → k < A.heap.size) →
    (∀ pre x rest O W1, L = pre ++ x :: rest → J pre O W1 → YieldAt Fence.wide 0 P l (enc x) W1 (Told2 U W.heap.size J Jx (pre ++ [x]) O W1)) → J [] O0 W →
    Calls P g (#[.func (.yield l) #[] #[]] ++ lb) W fun e W' => (∃ v, e = .returned v) ∧ ((∃ O, J L O W') ∨ ∃ pre O, pre <+: L ∧ Jx pre O W')
theorem Runs2.later {α : Type} {P : Program} {g : Nat} {lb : Array Value} {enc : α → Array Value} {T U : (Nat → Prop) → Nat → TypeId → Prop} {L : List α} {w w' : World} (h : Runs2 P g lb enc T U L w) (k : Kept noBlock w w') : Runs2 P g lb enc T U L w' :=
  fun l J Jx W O0 hW => h l J Jx W O0 (k.step hW)
/-- One that minds nothing of what is owned. -/
theorem Runs.two {α : Type} {P : Program} {g : Nat} {lb : Array Value} {enc : α → Array Value} {T U : Nat → TypeId → Prop} {L : List α} {w : World} (h : Runs P g lb enc T U L w) : Runs2 P g lb enc (fun _ => T) (fun _ => U) L w :=
  fun l J Jx W O0 hW hJ hJx _ hY h0 => by
    refine (h l (fun s A => ∃ O, J s O A) (fun s A => ∃ O, Jx s O A) W hW (fun s A B ⟨O, h1⟩ k => ⟨O, hJ s O A B h1 k⟩) (fun s A B ⟨O, h1⟩ k => ⟨O, hJx s O A B h1 k⟩) (fun pre x rest W1 hL ⟨O, h1⟩ => ?_) ⟨O0, h0⟩).mono fun e W' ⟨h1, h2⟩ => ⟨h1, h2.imp id (fun ⟨pre, h3, O, h4⟩ => ⟨pre, O, h3, h4⟩)⟩
    refine YieldAt.mono (hY pre x rest O W1 hL h1) ?_
    rintro e W2 ⟨O2, w2, h2⟩
    exact h2.imp (fun h3 => ⟨h3.1, ⟨O2, h3.2⟩, w2.sp, w2.kf⟩) (fun h3 => ⟨h3.1, ⟨O2, h3.2⟩, w2.sp, w2.kf⟩)

/-- How a round may be left. -/
def ownPost2 {α : Type} (B : Nat) (U : (Nat → Prop) → Nat → TypeId → Prop) (I : List α → (Nat → Prop) → World → Prop) (Ix : Code → List α → (Nat → Prop) → World → Prop) (xs : List α) (O : Nat → Prop) (W : World) : Exit → Act → World → Prop
  | .normal, _, W' => ∃ O', Went U B O W O' W' ∧ I xs O' W'
  | .ret, _, W' => ∃ O', Went U B O W O' W' ∧ Ix .ret xs O' W'
  | .exit id, _, W' => ∃ O', Went U B O W O' W' ∧ Ix (.exit id) xs O' W'
  | .goto t, _, W' => ∃ O', Went U B O W O' W' ∧ Ix (.goto t) xs O' W'
  | .panic _, _, _ => False
  | .outgrown, _, _ => False

/-- The loop. 'I': what holds between two rounds, and which blocks its rounds own; 'Ix': behind a round that left by a jump; 'Ax': the temporaries behind the assignment. -/
theorem wpIn_runs2 {n : Nat} {P : Program} {α : Type} {g : Operand} {ps : Array Tmp} {assign body : Code} {Q : Exit → Act → World → Prop} {a : Act} {w : World}
    {gf : Nat} {lb : Array Value} (hg : a.eval g = .func (.func gf) #[] lb) (eg : ∀ args w, (callFunc gf args).run P w = .ok (.enter gf args) w)
    {enc : α → Array Value} {T U : (Nat → Prop) → Nat → TypeId → Prop} {L : List α} {w0 : World} (hgo : Runs2 P gf lb enc T U L w0) (hb0 : Kept noBlock w0 w) (hps : ∀ x, (enc x).size = ps.size)
    (I : List α → (Nat → Prop) → World → Prop) (Ix : Code → List α → (Nat → Prop) → World → Prop) (hI : ∀ s O A B, I s O A → Abide (T O) w.heap.size A B → I s O B) (hIx : ∀ c s O A B, Ix c s O A → Abide (T O) w.heap.size A B → Ix c s O B)
    (hbd : ∀ s O A k, I s O A → O k → k < A.heap.size) {O0 : Nat → Prop} (h0 : I [] O0 w)
    (Ax : List α → (Nat → Prop) → α → Act → World → Prop) (hAx : ∀ s O x a' A B, Ax s O x a' A → Abide (fun _ _ => False) w.heap.size A B → Ax s O x a' B)
    (hassign : ∀ (l : Nat) (pre : List α) (O : Nat → Prop) (x : α) (W : World) (K : Act → World → Prop), I pre O W → (∀ a' W', Kept noBlock W W' → Ax pre O x a' W' → K a' W') →
      assign.wpIn (Fence.wide.inRound l) (n - 1 - 1) P (Exit.then K (fun _ _ _ => False)) { tmps := (ps.zip (enc x)).foldl (fun t (p, v) => t.setIfInBounds p v) a.tmps, defers := [] } W)
    (hbody : ∀ (l : Nat) (pre : List α) (x : α) (rest : List α) (O : Nat → Prop) (a' : Act) (W : World), L = pre ++ x :: rest → I pre O W → Ax pre O x a' W → body.wpIn (Fence.wide.inRound l) (n - 1 - 1) P (ownPost2 w.heap.size U I Ix (pre ++ [x]) O W) a' W)
    (hdone : ∀ (D : Nat) (O : Nat → Prop) (W : World), w.heap.size ≤ D → I L O W → W.heap[D]? = some (.deferred (some [])) → Q .normal { a with defers := { target := .collected D, args := #[] } :: a.defers } W)
    (hstop : ∀ (D : Nat) (c : Code) (pre : List α) (O : Nat → Prop) (W : World), w.heap.size ≤ D → pre <+: L → Ix c pre O W → W.heap[D]? = some (.deferred (some [])) → c.wpIn Fence.wide n P Q { a with defers := { target := .collected D, args := #[] } :: a.defers } W) :
    (Code.rangeFunc g ps assign body).wpIn Fence.wide n P Q a w := by
  refine wpIn_rangeFunc fun fn hfn => ?_
  let r : LoopState → Option Code → Loop := fun st pe => { state := st, pending := pe, fn, tmps := a.tmps, params := ps, assign, body, defers := w.heap.size }
  let Lr := w.heap.size + 1
  let At : LoopState → Option Code → World → Prop := fun st pe W => W.heap[Lr]? = some (.loop (r st pe)) ∧ W.heap[w.heap.size]? = some (.deferred (some []))
  have turn : ∀ {st pe} (st' pe') {W : World}, At st pe W → At st' pe' (W.putObj Lr (.loop (r st' pe'))) := fun st' pe' W h =>
    ⟨World.putObj_heap_same (lt_of_blk h.1), (World.putObj_heap_other (by show w.heap.size ≠ w.heap.size + 1; omega)).trans h.2⟩
  have quiet : ∀ {T : Nat → TypeId → Prop} {st pe} (o' : Obj) {W : World}, At st pe W → Abide T w.heap.size W (W.putObj Lr o') := fun o' W h => Abide.putObj o' (Nat.le_succ _) h.1 rfl
  have held : ∀ {T : Nat → TypeId → Prop} {st pe} {W W' : World}, At st pe W → Abide T (w.heap.size + 2) W W' → At st pe W' := fun h k =>
    ⟨(k.low _ (by show w.heap.size + 1 < _; omega) (lt_of_blk h.1)).trans h.1, (k.low _ (by omega) (lt_of_blk h.2)).trans h.2⟩
  have held2 : ∀ {st pe} {W W' : World}, At st pe W → KeepsFrom w.heap.size W W' → At st pe W' := fun h k => ⟨k.same _ _ (Nat.le_succ _) h.1 rfl, k.same _ _ (Nat.le_refl _) h.2 rfl⟩
  have put2 : ∀ {st pe} (o' : Obj) {W : World}, At st pe W → KeepsFrom (w.heap.size + 2) W (W.putObj Lr o') := fun o' W _ =>
    ⟨by simp, fun k o hk ho _ => (World.putObj_heap_other (by show k ≠ w.heap.size + 1; omega)).trans ho⟩
  obtain ⟨W1, hW1⟩ : ∃ W1, W1 = (w.alloc (.deferred (some []))).alloc (.loop (r .ready none)) := ⟨_, rfl⟩
  have kW1 : Kept noBlock w W1 := by rw [hW1]; exact (Kept.alloc _ _ _).step (Kept.alloc _ _ _)
  have sz1 : W1.heap.size = w.heap.size + 2 := by rw [hW1]; simp
  have at1 : At .ready none W1 := by
    rw [hW1]
    refine ⟨?_, (Below.heap_alloc _ _ _ (by simp)).trans (heap_alloc_new w _)⟩
    have := heap_alloc_new (w.alloc (.deferred (some []))) (.loop (r .ready none))
    rwa [World.size_alloc] at this
  have he : (Instr.enterLoop fn a.tmps ps assign body none).run P w = .ok (Lr, [{ target := .collected w.heap.size, args := #[] }]) W1 := by rw [hW1]; exact run_enterLoop_outer _ _ _ _ _
  refine ⟨Lr, [{ target := .collected w.heap.size, args := #[] }], W1, { target := .fn (.func gf) lb, args := #[.func (.yield Lr) #[] #[]] }, W1, gf, #[.func (.yield Lr) #[] #[]] ++ lb, W1, he, ?_, ?_, ?_, fun h => by simp [Fence.wide] at h, ?_⟩
  · simp only [resolve, hg]
    simp [go_sem]
  · intro f' _
    trivial
  · simp [invoke, go_sem, eg]
  · refine callsIn_wide.2 ((hgo Lr (fun pre O W => I pre O W ∧ At .ready none W) (fun pre O W => ∃ c, Ix c pre O W ∧ At .done (some c) W) W1 O0 (hb0.step kW1) (fun s O A B h k => ?_) (fun s O A B h k => ?_) (fun s O A k h => hbd s O A k h.1) ?_ ⟨hI _ _ _ _ h0 (Abide.of_kept kW1), at1⟩).mono ?_)
    · rw [sz1] at k
      exact ⟨hI s O A B h.1 (k.mono (by omega)), held h.2 k⟩
    · rw [sz1] at k
      obtain ⟨c, hc, ha⟩ := h
      exact ⟨c, hIx c s O A B hc (k.mono (by omega)), held ha k⟩
    · rintro pre x rest O W hL ⟨hi, hat⟩
      rw [sz1]
      refine yieldAt_any (n := n - 1 - 1) ⟨fn, _, assign, body, run_yield (P := P) (args := enc x) hat.1 (hps x), roundIn_of_wpIn hfn (hassign Lr pre O x W _ hi fun a' W' kW' hx => ?_)⟩
      have hat' : At .ready none W' := held (T := fun _ _ => False) hat (Abide.of_kept kW')
      refine ⟨_, run_beginRound hat'.1 rfl, ?_⟩
      have hatB : At .busy none (W'.putObj Lr (.loop (r .busy none))) := turn .busy none hat'
      have kf0 : KeepsFrom (w.heap.size + 2) W (W'.putObj Lr (.loop (r .busy none))) := (keepsFrom_kept kW' (fun _ _ h => h.elim)).trans (put2 _ hat')
      have sp0 : Spares (U O) W (W'.putObj Lr (.loop (r .busy none))) := (Spares.of_kept kW').trans (Spares.putObj _ hat'.1 rfl)
      have sz0 : W.heap.size ≤ (W'.putObj Lr (.loop (r .busy none))).heap.size := by have := kW'.size; simpa using this
      refine wpIn_mono (hbody Lr pre x rest O a' (W'.putObj Lr (.loop (r .busy none))) hL (hI _ _ _ _ (hI _ _ _ _ hi (Abide.of_kept kW')) (quiet _ hat')) (hAx _ _ _ _ _ _ hx (quiet _ hat'))) ?_
      have fin : ∀ (j : Option Code) (W3 : World), KeepsFrom w.heap.size (W'.putObj Lr (.loop (r .busy none))) W3 →
          (Instr.endRound Lr j).run P W3 = .ok (.bool j.isNone) (W3.putObj Lr (.loop (r (if j.isNone then .ready else .done) j))) ∧ At .busy none W3 := fun j W3 k =>
        ⟨run_endRound (P := P) j (held2 hatB k).1, held2 hatB k⟩
      have went : ∀ {O' : Nat → Prop} (o' : Obj) (W3 : World), Went U w.heap.size O (W'.putObj Lr (.loop (r .busy none))) O' W3 → Went U (w.heap.size + 2) O W O' (W3.putObj Lr o') := fun o' W3 k =>
        ⟨(sp0.trans k.sp).trans (Spares.putObj _ (held2 hatB k.kf).1 rfl), (kf0.trans (keepsFrom_mono k.kf (by omega))).trans (put2 _ (held2 hatB k.kf)), fun i hi => (k.own i hi).imp id (fun h => ⟨Nat.le_trans sz0 h.1, by have := h.2; simpa using this⟩)⟩
      rintro e a3 W3 hp
      cases e with
      | normal =>
        obtain ⟨O', k3, hi3⟩ := hp
        obtain ⟨hr, ha3⟩ := fin none W3 k3.kf
        exact ⟨_, _, hr, O', went _ _ k3, .inl ⟨rfl, hI _ _ _ _ hi3 (quiet _ ha3), turn .ready none ha3⟩⟩
      | ret =>
        obtain ⟨O', k3, hi3⟩ := hp
        obtain ⟨hr, ha3⟩ := fin (some .ret) W3 k3.kf
        exact ⟨_, _, hr, O', went _ _ k3, .inr ⟨rfl, .ret, hIx _ _ _ _ _ hi3 (quiet _ ha3), turn .done (some .ret) ha3⟩⟩
      | exit id =>
        obtain ⟨O', k3, hi3⟩ := hp
        obtain ⟨hr, ha3⟩ := fin (some (.exit id)) W3 k3.kf
        exact ⟨_, _, hr, O', went _ _ k3, .inr ⟨rfl, .exit id, hIx _ _ _ _ _ hi3 (quiet _ ha3), turn .done (some (.exit id)) ha3⟩⟩
      | goto t =>
        obtain ⟨O', k3, hi3⟩ := hp
        obtain ⟨hr, ha3⟩ := fin (some (.goto t)) W3 k3.kf
        exact ⟨_, _, hr, O', went _ _ k3, .inr ⟨rfl, .goto t, hIx _ _ _ _ _ hi3 (quiet _ ha3), turn .done (some (.goto t)) ha3⟩⟩
      | panic ch => exact hp.elim
      | outgrown => exact hp.elim
    · rintro e W2 ⟨⟨v, rfl⟩, (⟨O, hi, ha⟩ | ⟨pre, O, hSp, c, hi, ha⟩)⟩
      · exact ⟨none, _, run_endLoop (P := P) ha.1 (by simp [r]), hdone _ O _ (Nat.le_refl _) (hI _ _ _ _ hi (quiet _ ha)) ((World.putObj_heap_other (by show w.heap.size ≠ w.heap.size + 1; omega)).trans ha.2)⟩
      · exact ⟨some c, _, run_endLoop (P := P) ha.1 (by simp [r]), hstop _ c pre O _ (Nat.le_refl _) hSp (hIx _ _ _ _ _ hi (quiet _ ha)) ((World.putObj_heap_other (by show w.heap.size ≠ w.heap.size + 1; omega)).trans ha.2)⟩

/-- The loop, where the assignment lays what came into slots, and into a block of its own, which comes from m on and which rounds do not own. -/
theorem wpIn_runs2_box {n : Nat} {P : Program} {α : Type} {g : Operand} {ps : Array Tmp} {assign body : Code} {Q : Exit → Act → World → Prop} {a : Act} {w : World}
    {gf : Nat} {lb : Array Value} (hg : a.eval g = .func (.func gf) #[] lb) (eg : ∀ args w, (callFunc gf args).run P w = .ok (.enter gf args) w)
    {enc : α → Array Value} {T U : (Nat → Prop) → Nat → TypeId → Prop} {L : List α} {w0 : World} (hgo : Runs2 P gf lb enc T U L w0) (hb0 : Kept noBlock w0 w) (hps : ∀ x, (enc x).size = ps.size) (q : Tmp) (t : TypeId) (cs : α → Array Value) (qs : α → List (Tmp × Value)) (m : Nat)
    (I : List α → (Nat → Prop) → World → Prop) (Ix : Code → List α → (Nat → Prop) → World → Prop) (hI : ∀ s O A B, I s O A → Abide (T O) w.heap.size A B → I s O B) (hIx : ∀ c s O A B, Ix c s O A → Abide (T O) w.heap.size A B → Ix c s O B)
    (hbd : ∀ s O A k, I s O A → O k → k < A.heap.size) (hm : ∀ s O A, I s O A → m ≤ A.heap.size) {O0 : Nat → Prop} (h0 : I [] O0 w)
    (hassign : ∀ (l : Nat) (x : α) (W : World) (K : Act → World → Prop), K (landed a.tmps ps (enc x) (qs x ++ [(q, .pointer (some ⟨W.heap.size, 0, none⟩))])) (W.alloc (.cells (cs x) t)) →
      assign.wpIn (Fence.wide.inRound l) (n - 1 - 1) P (Exit.then K (fun _ _ _ => False)) { tmps := (ps.zip (enc x)).foldl (fun t (p, v) => t.setIfInBounds p v) a.tmps, defers := [] } W)
    (hbody : ∀ (l : Nat) (pre : List α) (x : α) (rest : List α) (O : Nat → Prop) (Bx : Nat) (W : World), L = pre ++ x :: rest → I pre O W → m ≤ Bx → ¬ O Bx → W.heap[Bx]? = some (.cells (cs x) t (0, 0)) →
      body.wpIn (Fence.wide.inRound l) (n - 1 - 1) P (ownPost2 w.heap.size U I Ix (pre ++ [x]) O W) (landed a.tmps ps (enc x) (qs x ++ [(q, .pointer (some ⟨Bx, 0, none⟩))])) W)
    (hdone : ∀ (D : Nat) (O : Nat → Prop) (W : World), w.heap.size ≤ D → I L O W → W.heap[D]? = some (.deferred (some [])) → Q .normal { a with defers := { target := .collected D, args := #[] } :: a.defers } W)
    (hstop : ∀ (D : Nat) (c : Code) (pre : List α) (O : Nat → Prop) (W : World), w.heap.size ≤ D → pre <+: L → Ix c pre O W → W.heap[D]? = some (.deferred (some [])) → c.wpIn Fence.wide n P Q { a with defers := { target := .collected D, args := #[] } :: a.defers } W) :
    (Code.rangeFunc g ps assign body).wpIn Fence.wide n P Q a w :=
  wpIn_runs2 hg eg hgo hb0 hps I Ix hI hIx hbd h0 (fun _ O x a' W => ∃ Bx, m ≤ Bx ∧ ¬ O Bx ∧ W.heap[Bx]? = some (.cells (cs x) t (0, 0)) ∧ a' = landed a.tmps ps (enc x) (qs x ++ [(q, .pointer (some ⟨Bx, 0, none⟩))]))
    (fun s O x a' A B h k => by obtain ⟨Bx, h0, h1, h2, h3⟩ := h; exact ⟨Bx, h0, h1, k.blk h2 (.inr (fun h => h)), h3⟩)
    (fun l pre O x W K hi hK => hassign l x W K (hK _ _ (Kept.alloc _ _ _) ⟨W.heap.size, hm pre O W hi, fun ho => absurd (hbd pre O W _ hi ho) (Nat.lt_irrefl _), heap_alloc_new _ _, rfl⟩))
    (fun l pre x rest O a' W hL hi ha => by obtain ⟨Bx, h0, h1, h2, rfl⟩ := ha; exact hbody l pre x rest O Bx W hL hi h0 h1 h2) hdone hstop
end Go.Proofs.Ytjijdkdpmbfdmaa

/-
  A region that draws its order, within a round of a loop over a function: walked as elsewhere. No statement is proved here.
-/
namespace Go.Proofs.Ytjijdkdpmbfdmaa
open Go.RowKit

/-- It ends as it should, and no otherwise. -/
def Ends (R : Act → World → Prop) : Exit → Act → World → Prop := NoPanic (fun e a w => e = .normal ∧ R a w)
theorem Ends.no_out {R : Act → World → Prop} : ¬ LetsOut (Ends R) := fun ⟨_, _, h⟩ => by cases h.1
theorem Ends.of {R : Act → World → Prop} {a : Act} {w : World} (h : R a w) : Ends R .normal a w := ⟨rfl, h⟩

theorem wpOpIn_of_plain {l n : Nat} {P : Program} {ops : Array Oper} {Q : Exit → Act → World → Prop} (hQ : ¬ LetsOut Q) {i : Nat} (hd : ∀ o, ops[i]? = some o → ∀ c, o.op ≠ .defer c) {K : Act → World → Prop} {a : Act} {w : World}
    (h : wpOp P ops Q i K a w) : wpOpIn (Fence.wide.inRound l) n P ops Q i K a w := by
  unfold wpOp at h
  unfold wpOpIn
  cases ho : ops[i]? with
  | none => simpa only [ho] using h
  | some o =>
    simp only [ho] at h ⊢
    by_cases hw : Region.wanted o (yielded ops a.tmps) = true
    · simp only [hw, if_true] at h ⊢
      refine ⟨fun _ _ => trivial, ?_⟩
      rcases h with h | ⟨_, h⟩
      · rw [Oper.semAt_eq _ _ _ (hd o ho)]
        unfold Oper.wp at h
        generalize (execOp a.eval o).run P w = r at h ⊢
        cases r with
        | ok x w' =>
          cases x with
          | enter f args => exact ⟨fun h => by simp [Fence.wide, Fence.inRound] at h, callsIn_wide.2 h⟩
          | row row args =>
            refine ⟨fun h => by simp [Fence.wide, Fence.inRound] at h, fun c cs _ => ?_⟩
            obtain ⟨v, w'', hr, hs⟩ := h c cs
            exact ⟨v, w'', hr, stepsIn_wide.2 hs⟩
          | value v => exact h
          | skip => exact h
          | defer d => exact h
          | round l f tmps assign body => exact h.elim
          | _ => exact h.elim
        | halt x w' => cases x <;> first | exact h | exact h.elim
      · exact absurd h hQ
    · simp only [hw] at h ⊢
      exact ⟨fun _ _ => trivial, h⟩

theorem wpAnyIn_of_plain {l n : Nat} {P : Program} {md : Region.Mode} {ops : Array Oper} {Q : Exit → Act → World → Prop} (hQ : ¬ LetsOut Q) (hd : ∀ (i : Nat) o, ops[i]? = some o → ∀ c, o.op ≠ .defer c) :
    ∀ (fuel : Nat) (listed : Array Bool) (a : Act) (w : World), wpAny P md ops Q fuel listed a w → wpAnyIn (Fence.wide.inRound l) n P md ops Q fuel listed a w
  | 0, _, _, _, h => h
  | fuel + 1, _, _, _, h => ⟨h.1, fun i hi => wpOpIn_mono (fun a w h => wpAnyIn_of_plain hQ hd fuel _ a w h) (wpOpIn_of_plain hQ (hd i) (h.2 i hi))⟩

def plainOps (ops : Array Oper) : Bool := ops.all fun o => match o.op with
  | .defer _ => false
  | _ => true
theorem plainOps_spec {ops : Array Oper} (h : plainOps ops = true) (i : Nat) (o : Oper) (ho : ops[i]? = some o) (c : Call) : o.op ≠ .defer c := by
  intro e
  unfold plainOps at h
  rw [Array.all_eq_true_iff_forall_mem] at h
  have := h o (Array.mem_of_getElem? ho)
  rw [e] at this
  cases this

/-- The region, by a walk that says what holds of the world between two operations. -/
theorem wpIn_region_round {l n : Nat} {P : Program} {ops : Array Oper} {id : Nat} {Q : Exit → Act → World → Prop} {S : World → Prop} {a : Act} {w : World} (hm : P.follows .mixedOrders = true) (hd : plainOps ops = true) (hS : S w.drew)
    (h : S w.drew → wpAnyH P .any ops (Ends (Q .normal)) S ops.size (Array.replicate ops.size false) a w.drew) : (Code.region id ops true).wpIn (Fence.wide.inRound l) n P Q a w := by
  refine wpIn_mono (wpIn_region_any (Q := Ends (Q .normal)) hm (wpAnyIn_of_plain Ends.no_out (plainOps_spec hd) _ _ _ _ (wpAny_of_held _ _ _ _ (h hS)))) ?_
  intro e a w he
  cases e with
  | normal => exact he.2
  | panic c => exact he.elim
  | _ => cases he.1

end Go.Proofs.Ytjijdkdpmbfdmaa

/-
  append within a round of a loop over a function. No statement is proved here.
-/
namespace Go.Proofs.Ytjijdkdpmbfdmaa
open Go.RowKit
attribute [local go_sem] Oper.semAt_some

/-- append within a round of a loop over a function. -/
theorem wpListIn_append_src {F : Fence} {n0 : Nat} {P : Program} {w : World} {ops : Array Oper} {rest : List Oper} {o : Oper} {a : Act} {Q : Exit → Act → World → Prop} (hgd : o.guard = none) (s x : Operand) (t tx : TypeId)
    (ho : o.op = .call { callee := .builtin .append, args := #[s, x], argTypes := #[t, tx] })
    (e : TypeId) (z : Value) (size bytes : Nat) (ht : P.underlying t = some (.slice e)) (hinfo : (P.info? e).map (fun i => (i.zero, i.size, i.bytes)) = some (some z, size, bytes)) (hzs : z.cells.size = size)
    (v : Value) (n : Nat) (xs : List Value) (hv : a.eval s = v) (hown : w.ownsRow 0 e size v n xs)
    (xv : Value) (m : Nat) (news : List Value) (hx : a.eval x = xv) (hs : Src P size tx xv m news w) (h63 : n + m ≤ maxLen) (hbytes : (n + m) * bytes ≤ 140737488355328 ∨ (n + m + (n + m) / 4 + 192) * bytes ≤ 281474976710656)
    (h : ∀ A c w', w'.ownsRow 0 e size (.slice A (n + m) c) (n + m) (xs ++ news) → Grew w w' v (.slice A (n + m) c) → wpListIn F n0 P ops Q rest (a.put o.dst (.slice A (n + m) c)) w') : wpListIn F n0 P ops Q (o :: rest) a w := by
  refine wpListIn_plain hgd fun K hK => ?_
  obtain ⟨i, hi, hz, h1, h2⟩ := info_parts hinfo
  obtain ⟨v', w', hr, g1, g2, g3⟩ := run_append_src (P := P) w 0 t tx o.type e i z size bytes ht hi hz h1 h2 hzs v n xs hown xv m news hs h63 hbytes (Nat.zero_le _)
  obtain ⟨A, c, rfl, _⟩ := own_form g1
  unfold Oper.wpIn
  refine ⟨?_, ?_⟩
  · simp [Oper.about, ho, resolve, Target.leads, Sem.run_pure]
  · rw [Oper.semAt_plain F _ _ (by rw [ho]; intro c hc'; cases hc')]
    simp [execOp, ho, resolve, invoke, builtin, hv, hx, hr, Result.andThen]
    refine hK _ _ (h A c w' g1 ⟨Kept.grown g2 fun k hk => hk, fun k hk => ?_⟩)
    rcases g3 with g3 | g3
    · exact .inl (g3 ▸ hk)
    · have hlt := own_lt g1 k hk
      have : k = w.heap.size := by rw [g3] at hk; injection hk with hk; exact hk.symm
      exact .inr ⟨by omega, hlt⟩

end Go.Proofs.Ytjijdkdpmbfdmaa
