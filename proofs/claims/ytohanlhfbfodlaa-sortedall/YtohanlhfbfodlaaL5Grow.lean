/-
  A row of numbers that grows in a loop over a function; keys of two rows that are one. No statement is proved here.
-/
import Derived.Test.YtohanlhfbfodlaaL5Of
import Derived.Test.YtohanlhfbfodlaaSortedMerge2
namespace Go.Proofs.Ytohanlhfbfodlaa
open Go.RowKit Go.Shelf
attribute [local go_sem] Oper.semAt_some

def ints (P : List Int) : List Value := P.map (Value.int .i64)
theorem ints_snoc (P : List Int) (x : Int) : ints (P ++ [x]) = ints P ++ [.int .i64 x] := by simp [ints]
theorem infoInt : (Try.prog.info? 3).map (fun i => (i.zero, i.size, i.bytes)) = some (some (.int .i64 0), 1, 8) := by kernel_rfl

/-- Since W0 the row in the box B grew to P, in blocks of its own; all else that was there is as it was. -/
structure GrowI (W0 : World) (B : Nat) (P : List Int) (V : World) : Prop where
  row : ∃ A c, V.heap[B]? = some (.cells #[.slice A P.length c] 48 (0, 0)) ∧ V.ownsRow W0.heap.size 3 1 (.slice A P.length c) P.length (ints P)
  kept : Kept (fun k => k = B) W0 V
theorem GrowI.abide {W0 A B' : World} {B : Nat} {P : List Int} (h : GrowI W0 B P A) (k : Abide II.TT W0.heap.size A B') : GrowI W0 B P B' := by
  obtain ⟨R, c, h1, h2⟩ := h.row
  exact ⟨⟨R, c, k.blk h1 (.inr (by unfold II.TT; decide)), k.own h2 (.inr (fun _ => by unfold II.TT; decide))⟩, Abide.kept h.kept k (Nat.le_refl _)⟩
theorem GrowI.keptBy {W0 A B' : World} {B : Nat} {P : List Int} (h : GrowI W0 B P A) (k : Kept noBlock A B') : GrowI W0 B P B' := by
  obtain ⟨R, c, h1, h2⟩ := h.row
  exact ⟨⟨R, c, k.blk h1 (fun h => h), own_keep h2 k (fun _ _ h => h)⟩, h.kept.trans k (fun _ _ h => h.elim)⟩
theorem GrowI.next {W0 W Wa w1 : World} {B m0 rc c' : Nat} {R A' : Option Addr} {P : List Int} {x : Int} (h : GrowI W0 B P W) (h3 : W.heap[B]? = some (.cells #[.slice R P.length rc] 48 (0, 0)))
    (ho : W.ownsRow W0.heap.size 3 1 (.slice R P.length rc) P.length (ints P)) (k0 : Kept noBlock W Wa) (o1 : w1.ownsRow 0 3 1 (.slice A' (P.length + 1) c') (P.length + 1) (ints (P ++ [x]))) (g1 : Grew Wa w1 (.slice R P.length rc) (.slice A' (P.length + 1) c')) :
    w1.heap[B]? = some (.cells #[.slice R P.length rc] 48 (0, 0)) ∧
    (let W' := w1.setCell ⟨B, 0, none⟩ (.slice A' (P.length + 1) c')
     KeepsFrom m0 W W' ∧ Spares II.UU W W' ∧ GrowI W0 B (P ++ [x]) W') := by
  have g2 := Grew.after k0 g1
  have n3 : (Value.slice R P.length rc).ownBlock ≠ some B := own_ne ho h3 (by decide)
  have b3 := g2.kept.blk h3 n3
  refine ⟨b3, ?_⟩
  intro W'
  have kk : Kept (fun k => (Value.slice R P.length rc).ownBlock = some k ∨ k = B) W W' := (g2.kept.mono (fun _ _ h => .inl h)).step (Kept.setCell w1 (.inr rfl) _)
  have hS : ∀ k, ((Value.slice R P.length rc).ownBlock = some k ∨ k = B) → ∃ cs t fr, W.heap[k]? = some (.cells cs t fr) ∧ ¬ II.UU k t := by
    rintro k (hk | rfl)
    · rcases ho.2 with ⟨e, _⟩ | ⟨g, cap, cur, e, _, hgg, _⟩
      · rw [e] at hk; cases hk
      · rw [e] at hk
        have : g = k := by simpa [Value.ownBlock] using hk
        subst this
        exact ⟨_, _, _, hgg, by unfold II.UU; decide⟩
    · exact ⟨_, _, _, h3, by unfold II.UU; decide⟩
  have o3 : (Value.slice A' (P.length + 1) c').ownBlock ≠ some B := own_ne o1 b3 (by decide)
  refine ⟨keepsFrom_kept kk (fun k _ hk => by obtain ⟨cs, t, fr, h1, _⟩ := hS k hk; exact ⟨cs, t, fr, h1⟩), Spares.of kk hS, ⟨⟨A', c', ?_, ?_⟩, h.kept.trans kk (fun i hi hs => ?_)⟩⟩
  · rw [List.length_append, List.length_singleton]
    exact setB (u := .slice A' (P.length + 1) c') b3
  · rw [List.length_append, List.length_singleton]
    refine own_base (own_keep o1 (Kept.setCell (S := fun i => i = B) w1 (by rfl) _) (fun i hi e => o3 (e ▸ hi))) (fun i hi => ?_)
    rcases g2.at_ i hi with h1 | h1
    · exact (ho.lt i h1).1
    · exact Nat.le_trans h.kept.size h1.1
  · rcases hs with hs | rfl
    · have := (ho.lt i hs).1; omega
    · rfl
/-- A number of such a row. -/
theorem ints_at {w : World} {base n c : Nat} {A : Option Addr} {P : List Int} (h : w.ownsRow base 3 1 (.slice A n c) n (ints P)) {k : Nat} {x : Int} (hk : P[k]? = some x) : ∃ g, A = some ⟨g, 0, none⟩ ∧ w.cell? ⟨g, k, none⟩ = some (.int .i64 x) := by
  have hl := (List.getElem?_eq_some_iff.1 hk).1
  have hln : (ints P).length = n := by have := h.1; simpa using this
  have hlp : (ints P).length = P.length := by simp [ints]
  have hik : (ints P)[k]? = some (.int .i64 x) := by simp [ints, hk]
  rcases h.2 with ⟨e, h0⟩ | ⟨g, cap, cur, e, _, hgg, _, _, hcs, ht⟩
  · omega
  · injection e with e
    refine ⟨g, e, ?_⟩
    rw [cell_of_row _ _ _ _ _ _ hgg]
    rw [← ht, List.getElem?_take] at hik
    split at hik
    · simpa using hik
    · cases hik

section
open Srt
theorem keys_ext {A B : List (Int × Int)} (hA : Up A) (hB : Up B) (h : ∀ k, (Srt.look A k).isSome = (Srt.look B k).isSome) : A.map Prod.fst = B.map Prod.fst := by
  have e : A.map (fun p => (p.1, ())) = B.map (fun p => (p.1, ())) := by
    refine up_ext (α := Int) (β := Unit) (List.pairwise_map.2 hA) (List.pairwise_map.2 hB) fun p => ?_
    obtain ⟨k, u⟩ := p
    simp only [List.mem_map, Prod.exists, Prod.mk.injEq]
    constructor
    · rintro ⟨k', v, hm, rfl, _⟩
      have h1 := look_of_mem hA hm
      have h2 := h k'
      rw [h1] at h2
      obtain ⟨v2, hv2⟩ := Option.isSome_iff_exists.1 h2.symm
      exact ⟨k', v2, mem_of_look hv2, rfl, trivial⟩
    · rintro ⟨k', v, hm, rfl, _⟩
      have h1 := look_of_mem hB hm
      have h2 := h k'
      rw [h1] at h2
      obtain ⟨v2, hv2⟩ := Option.isSome_iff_exists.1 h2
      exact ⟨k', v2, mem_of_look hv2, rfl, trivial⟩
  have := congrArg (List.map Prod.fst) e
  simpa [List.map_map, Function.comp_def] using this
theorem mrg_keys {A B : List (Int × Int)} (hA : Up A) (hB : Up B) : (mrg A B).map Prod.fst = (mrg B A).map Prod.fst :=
  keys_ext (up_mrg hA hB) (up_mrg hB hA) fun k => by rw [look_mrg hA hB, look_mrg hB hA]; cases Srt.look A k <;> cases Srt.look B k <;> rfl
theorem mrg_len_left (A R : List (Int × Int)) : A.length ≤ (mrg A R).length := by
  induction A generalizing R with
  | nil => simp
  | cons p A ih => simp only [mrg, List.length_append, List.length_cons]; have := ih (past R p.1); omega
theorem mrg_len_right (A R : List (Int × Int)) : R.length ≤ (mrg A R).length := by
  induction A generalizing R with
  | nil => simp [mrg]
  | cons p A ih =>
    simp only [mrg, List.length_append, List.length_cons, List.length_take]
    have := ih (past R p.1)
    have h2 : (past R p.1).length = R.length - (pos R p.1 + if has R p.1 = true then 1 else 0) := by unfold past; rw [List.length_drop]
    split at h2 <;> omega
end
end Go.Proofs.Ytohanlhfbfodlaa
