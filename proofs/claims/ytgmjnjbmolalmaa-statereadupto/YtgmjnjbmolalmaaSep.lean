/-
  Rows that a call owns, told apart by a number each. No statement is proved here.
-/
import Derived.Test.YtgmjnjbmolalmaaMem
import Derived.Laws.OwnMore
import Derived.Great.BuildSlice
namespace Go.Proofs.Ytgmjnjbmolalmaa
open Go.RowKit

/-- One more row, or one that takes another's place. -/
def putAt (R : Nat → Option (Value × List Value)) (k : Nat) (v : Value) (xs : List Value) : Nat → Option (Value × List Value) := fun j => if j = k then some (v, xs) else R j

/-- In w lie the rows R, each in a block of its own that came behind w0; all that w0 had is as it was. -/
structure Sep (w0 w : World) (e : TypeId) (R : Nat → Option (Value × List Value)) : Prop where
  own : ∀ k v xs, R k = some (v, xs) → w.ownsRow w0.heap.size e 1 v xs.length xs
  apart : ∀ i j v xs v' xs', i ≠ j → R i = some (v, xs) → R j = some (v', xs') → ∀ b, v.ownBlock = some b → v'.ownBlock ≠ some b
  kept : Kept noBlock w0 w

section
variable {w0 w : World} {e : TypeId} {R : Nat → Option (Value × List Value)}
theorem Sep.start (k : Kept noBlock w0 w) : Sep w0 w e (fun _ => Option.none) := ⟨fun _ _ _ h => (by cases h), fun _ _ _ _ _ _ _ h => (by cases h), k⟩
theorem Sep.keep {w' : World} (h : Sep w0 w e R) (k : Kept noBlock w w') : Sep w0 w' e R := ⟨fun i v xs hi => own_keep (h.own i v xs hi) k (fun _ _ h => h), h.apart, h.kept.step k⟩
theorem Sep.drew (h : Sep w0 w e R) : Sep w0 w.drew e R := h.keep (Kept.drew _ _)
/-- An empty row. -/
theorem Sep.nil (h : Sep w0 w e R) (k : Nat) : Sep w0 w e (putAt R k (.slice Option.none 0 0) []) := by
  refine ⟨fun i v xs hi => ?_, fun i j v xs v' xs' hij hi hj b hb => ?_, h.kept⟩
  · unfold putAt at hi
    split at hi
    · simp only [Option.some.injEq, Prod.mk.injEq] at hi
      obtain ⟨rfl, rfl⟩ := hi
      exact World.ownsRow_nil _ _ _ _
    · exact h.own i v xs hi
  · unfold putAt at hi hj
    split at hi
    · simp only [Option.some.injEq, Prod.mk.injEq] at hi
      obtain ⟨rfl, rfl⟩ := hi
      simp [Value.ownBlock] at hb
    · split at hj
      · simp only [Option.some.injEq, Prod.mk.injEq] at hj
        obtain ⟨rfl, rfl⟩ := hj
        simp [Value.ownBlock]
      · exact h.apart i j v xs v' xs' hij hi hj b hb
/-- A row that came with a block of its own. -/
theorem Sep.add {w' : World} {v : Value} {xs : List Value} (h : Sep w0 w e R) (k : Nat) (hk : Kept noBlock w w') (ho : w'.ownsRow w0.heap.size e 1 v xs.length xs) (hf : ∀ b, v.ownBlock = some b → w.heap.size ≤ b) : Sep w0 w' e (putAt R k v xs) := by
  refine ⟨fun i u us hi => ?_, fun i j u us u' us' hij hi hj b hb => ?_, h.kept.step hk⟩
  · unfold putAt at hi
    split at hi
    · simp only [Option.some.injEq, Prod.mk.injEq] at hi
      obtain ⟨rfl, rfl⟩ := hi
      exact ho
    · exact own_keep (h.own i u us hi) hk (fun _ _ h => h)
  · unfold putAt at hi hj
    split at hi
    · simp only [Option.some.injEq, Prod.mk.injEq] at hi
      obtain ⟨rfl, rfl⟩ := hi
      split at hj
      · exact absurd (by omega) hij
      · intro hb'
        have := hf b hb
        have := own_lt (h.own j u' us' hj) b hb'
        omega
    · split at hj
      · simp only [Option.some.injEq, Prod.mk.injEq] at hj
        obtain ⟨rfl, rfl⟩ := hj
        intro hb'
        have := hf b hb'
        have := own_lt (h.own i u us hi) b hb
        omega
      · exact h.apart i j u us u' us' hij hi hj b hb
theorem Sep.build (h : Sep w0 w e R) (k : Nat) (cs : Array Value) (n : Nat) (hn : cs.size = n) (hm : n ≤ maxLen) : Sep w0 (w.alloc (.cells cs e)) e (putAt R k (.slice (some ⟨w.heap.size, 0, Option.none⟩) n n) cs.toList) := by
  subst hn
  refine h.add k (Kept.alloc _ _ _) ?_ (fun b hb => by simp [Value.ownBlock] at hb; omega)
  have := World.ownsRow_lit (base := w0.heap.size) (e := e) (size := 1) w cs cs.size h.kept.size hm (by omega)
  simpa using this
/-- A row that grew, in its block or in a new one. -/
theorem Sep.grow {w' : World} {v v' : Value} {xs ys : List Value} (h : Sep w0 w e R) {i : Nat} (hi : R i = some (v, xs)) (hk : Kept (fun k => v.ownBlock = some k) w w') (ho : w'.ownsRow 0 e 1 v' ys.length ys)
    (hf : ∀ b, v'.ownBlock = some b → v.ownBlock = some b ∨ fresh w w' b) : Sep w0 w' e (putAt R i v' ys) := by
  have hb0 : ∀ b, v.ownBlock = some b → w0.heap.size ≤ b := fun b hb => ((h.own i v xs hi).lt b hb).1
  have kk : Kept noBlock w0 w' := h.kept.trans hk (fun j hj hjb => by have := hb0 j hjb; omega)
  have hb1 : ∀ b, v'.ownBlock = some b → w0.heap.size ≤ b := fun b hb => by
    rcases hf b hb with h1 | h1
    · exact hb0 b h1
    · exact Nat.le_trans h.kept.size h1.1
  have far : ∀ j u us, j ≠ i → R j = some (u, us) → ∀ b, u.ownBlock = some b → v'.ownBlock ≠ some b := fun j u us hji hj b hb hb' => by
    rcases hf b hb' with h1 | h1
    · exact h.apart i j v xs u us (Ne.symm hji) hi hj b h1 hb
    · have := own_lt (h.own j u us hj) b hb
      have := h1.1
      omega
  refine ⟨fun j u us hj => ?_, fun j k u us u' us' hjk hj hk' b hb => ?_, kk⟩
  · unfold putAt at hj
    split at hj
    · simp only [Option.some.injEq, Prod.mk.injEq] at hj
      obtain ⟨rfl, rfl⟩ := hj
      exact own_base ho hb1
    · rename_i hji
      exact own_keep (h.own j u us hj) hk (fun b hb hv => h.apart i j v xs u us (Ne.symm hji) hi hj b hv hb)
  · unfold putAt at hj hk'
    split at hj
    · simp only [Option.some.injEq, Prod.mk.injEq] at hj
      obtain ⟨rfl, rfl⟩ := hj
      split at hk'
      · exact absurd (by omega) hjk
      · rename_i hki
        intro hb'
        exact far k u' us' hki hk' b hb' hb
    · rename_i hji
      split at hk'
      · simp only [Option.some.injEq, Prod.mk.injEq] at hk'
        obtain ⟨rfl, rfl⟩ := hk'
        exact far j u us hji hj b hb
      · exact h.apart j k u us u' us' hjk hj hk' b hb

/-- Of rows some alone. -/
theorem Sep.sub {R' : Nat → Option (Value × List Value)} (h : Sep w0 w e R) (hs : ∀ k r, R' k = some r → R k = some r) : Sep w0 w e R' :=
  ⟨fun k v xs hk => h.own k v xs (hs k _ hk), fun i j v xs v' xs' hij hi hj => h.apart i j v xs v' xs' hij (hs i _ hi) (hs j _ hj), h.kept⟩
/-- Four rows. -/
def four (A B C D : Value) (a b c d : List Value) : Nat → Option (Value × List Value) := putAt (putAt (putAt (putAt (fun _ => Option.none) 0 A a) 1 B b) 2 C c) 3 D d
theorem Sep.four {A B C D : Value} {a b c d : List Value} (h : Sep w0 w e R) (h0 : R 0 = some (A, a)) (h1 : R 1 = some (B, b)) (h2 : R 2 = some (C, c)) (h3 : R 3 = some (D, d)) : Sep w0 w e (four A B C D a b c d) := by
  refine h.sub fun k r hk => ?_
  unfold Go.Proofs.Ytgmjnjbmolalmaa.four putAt at hk
  split at hk
  · subst_vars; rw [← hk]; exact h3
  split at hk
  · subst_vars; rw [← hk]; exact h2
  split at hk
  · subst_vars; rw [← hk]; exact h1
  split at hk
  · subst_vars; rw [← hk]; exact h0
  · cases hk

theorem Sep.lies (h : Sep w0 w e R) {i n : Nat} {a : Option Addr} {c : Nat} {xs : List Value} (hi : R i = some (.slice a n c, xs)) : Lies w (fun b => w0.heap.size ≤ b) a xs := by
  have ho := h.own i _ _ hi
  obtain ⟨a', c', he, _⟩ := own_form ho
  injection he with h1 h2 h3
  subst h2
  exact Lies.of_own ho (fun b hb => (ho.lt b hb).1)

/-- A row of one cell that is written out, at a step of a region that draws its order. -/
theorem Sep.step_build {P : Program} {ops : Array Oper} {o : Oper} {a : Act} {K : Act → World → Prop} {Q : Exit → Act → World → Prop} {E : Prop} (h : Sep w0 w e R) (k : Nat) (hgd : o.guard = Option.none) (t : TypeId) (x : Operand)
    (ho : o.op = .buildSlice t 1 #[(0, x)]) (z : Value) (ht : P.underlying t = some (.slice e)) (hinfo : (P.info? e).map (fun i => (i.zero, i.size, i.bytes)) = some (some z, 1, 1)) (u : Value) (hx : a.eval x = u) (hu : u.cells = #[u])
    (hK : ∀ B w', Sep w0 w' e (putAt R k (.slice (some ⟨B, 0, Option.none⟩) 1 1) [u]) → K (a.put o.dst (.slice (some ⟨B, 0, Option.none⟩) 1 1)) w') :
    if Region.wanted o (yielded ops a.tmps) = true then Oper.wp P o a w K Q else E := by
  have hw : Region.wanted o (yielded ops a.tmps) = true := by simp [Region.wanted, hgd]
  rw [if_pos hw]
  obtain ⟨i, hi, hz, h1, h2⟩ := info_parts hinfo
  refine wp_buildSlice t e 1 #[(0, x)] ho #[u] i z ht hi hz (by rw [h1]; decide) (by rw [h1]; decide) ?_ ?_
  · rw [h1]
    have := Great.fill_flat [u] ((Array.range (1 * 1)).map (z.cells[· % z.cells.size]!)) (by intro v hv; simp at hv; subst hv; exact hu) (by simp)
    simpa [hx] using this
  · exact hK _ _ (h.build k #[u] 1 rfl (by decide))

/-- One row behind another one of the same call, at a step of a region that draws its order. -/
theorem Sep.step_append {P : Program} {ops : Array Oper} {o : Oper} {a : Act} {K : Act → World → Prop} {Q : Exit → Act → World → Prop} {E : Prop} (h : Sep w0 w e R) (i j : Nat) (hgd : o.guard = Option.none) (s x : Operand) (t : TypeId)
    (ho : o.op = .call { callee := .builtin .append, args := #[s, x], argTypes := #[t, t] }) (z : Value) (ht : P.underlying t = some (.slice e)) (hinfo : (P.info? e).map (fun i => (i.zero, i.size, i.bytes)) = some (some z, 1, 1)) (hzs : z.cells.size = 1)
    (A B : Option Addr) (n m c d : Nat) (xs ys : List Value) (hx : R i = some (.slice A n c, xs)) (hy : R j = some (.slice B m d, ys)) (hv : a.eval s = .slice A n c) (hw : a.eval x = .slice B m d)
    (h1 : ∀ u ∈ ys, u.oneCell' = true) (hsm : n + m ≤ 140737488355328)
    (hK : ∀ A' c' w', Sep w0 w' e (putAt R i (.slice A' (n + m) c') (xs ++ ys)) → K (a.put o.dst (.slice A' (n + m) c')) w') :
    if Region.wanted o (yielded ops a.tmps) = true then Oper.wp P o a w K Q else E := by
  have ox := h.own i _ _ hx
  have oy := h.own j _ _ hy
  obtain ⟨_, _, e1, _⟩ := own_form ox
  obtain ⟨_, _, e2, _⟩ := own_form oy
  obtain rfl : n = xs.length := by injection e1
  obtain rfl : m = ys.length := by injection e2
  refine step_append_src hgd s x t t ho e z 1 1 ht hinfo hzs _ xs.length xs hv (own_base ox (fun _ _ => Nat.zero_le _)) _ ys.length ys hw (src_lies ht (h.lies hy) rfl h1) (by unfold maxLen; omega) (by omega) ?_
  intro A' c' w' ho' hk' hf'
  refine hK A' c' w' (h.grow hx hk' ?_ hf')
  rw [List.length_append]
  exact ho'

/-- The same where the region does not draw. -/
theorem Sep.list_append {P : Program} {ops : Array Oper} {rest : List Oper} {o : Oper} {a : Act} {Q : Exit → Act → World → Prop} (h : Sep w0 w e R) (i j : Nat) (hgd : o.guard = Option.none) (s x : Operand) (t : TypeId)
    (ho : o.op = .call { callee := .builtin .append, args := #[s, x], argTypes := #[t, t] }) (z : Value) (ht : P.underlying t = some (.slice e)) (hinfo : (P.info? e).map (fun i => (i.zero, i.size, i.bytes)) = some (some z, 1, 1)) (hzs : z.cells.size = 1)
    (A B : Option Addr) (n m c d : Nat) (xs ys : List Value) (hx : R i = some (.slice A n c, xs)) (hy : R j = some (.slice B m d, ys)) (hv : a.eval s = .slice A n c) (hw : a.eval x = .slice B m d)
    (h1 : ∀ u ∈ ys, u.oneCell' = true) (hsm : n + m ≤ 140737488355328)
    (hK : ∀ A' c' w', Sep w0 w' e (putAt R i (.slice A' (n + m) c') (xs ++ ys)) → wpList P ops Q rest (a.put o.dst (.slice A' (n + m) c')) w') : wpList P ops Q (o :: rest) a w := by
  have ox := h.own i _ _ hx
  have oy := h.own j _ _ hy
  obtain ⟨_, _, e1, _⟩ := own_form ox
  obtain ⟨_, _, e2, _⟩ := own_form oy
  obtain rfl : n = xs.length := by injection e1
  obtain rfl : m = ys.length := by injection e2
  refine wpList_append_src hgd s x t t ho e z 1 1 ht hinfo hzs _ xs.length xs hv (own_base ox (fun _ _ => Nat.zero_le _)) _ ys.length ys hw (src_lies ht (h.lies hy) rfl h1) (by unfold maxLen; omega) (by omega) ?_
  intro A' c' w' ho' hk' hf'
  refine hK A' c' w' (h.grow hx hk' ?_ hf')
  rw [List.length_append]
  exact ho'
end

end Go.Proofs.Ytgmjnjbmolalmaa
