/-
  A region that draws its order, within a round of a loop over a function: walked as elsewhere. No statement is proved here.
-/
import Derived.Test.YtohanlhfbfodlaaMem
import Derived.OrdersIn
import Derived.ControlIn
namespace Go.Proofs.Ytohanlhfbfodlaa
open Go.RowKit

/-- It ends as it should, and no otherwise. -/
def Ends (R : Act → World → Prop) : Exit → Act → World → Prop := NoPanic (fun e a w => e = .normal ∧ R a w)
theorem Ends.no_out {R : Act → World → Prop} : ¬ LetsOut (Ends R) := fun ⟨_, _, h⟩ => by cases h.1
theorem Ends.of {R : Act → World → Prop} {a : Act} {w : World} (h : R a w) : Ends R .normal a w := ⟨rfl, h⟩

theorem wpOpIn_of_plain {l n : Nat} {P : Program} {ops : Array Oper} {Q : Exit → Act → World → Prop} (hQ : ¬ LetsOut Q) {i : Nat} (hd : ∀ o, ops[i]? = some o → ∀ c, o.op ≠ .defer c) {K : Act → World → Prop} {a : Act} {w : World}
    (h : wpOp P ops Q i K a w) : wpOpIn (Fence.wide.inRound l) n P ops Q i K a w := by
  unfold wpOp at h
  unfold wpOpIn
  cases ho : ops[i]? with
  | none => simpa only [ho] using h
  | some o =>
    simp only [ho] at h ⊢
    by_cases hw : Region.wanted o (yielded ops a.tmps) = true
    · simp only [hw, if_true] at h ⊢
      refine ⟨fun _ _ => trivial, ?_⟩
      rcases h with h | ⟨_, h⟩
      · rw [Oper.semAt_eq _ _ _ (hd o ho)]
        unfold Oper.wp at h
        generalize (execOp a.eval o).run P w = r at h ⊢
        cases r with
        | ok x w' =>
          cases x with
          | enter f args => exact ⟨fun h => by simp [Fence.wide, Fence.inRound] at h, callsIn_wide.2 h⟩
          | row row args =>
            refine ⟨fun h => by simp [Fence.wide, Fence.inRound] at h, fun c cs _ => ?_⟩
            obtain ⟨v, w'', hr, hs⟩ := h c cs
            exact ⟨v, w'', hr, stepsIn_wide.2 hs⟩
          | value v => exact h
          | skip => exact h
          | defer d => exact h
          | round l f tmps assign body => exact h.elim
          | _ => exact h.elim
        | halt x w' => cases x <;> first | exact h | exact h.elim
      · exact absurd h hQ
    · simp only [hw] at h ⊢
      exact ⟨fun _ _ => trivial, h⟩

theorem wpAnyIn_of_plain {l n : Nat} {P : Program} {md : Region.Mode} {ops : Array Oper} {Q : Exit → Act → World → Prop} (hQ : ¬ LetsOut Q) (hd : ∀ (i : Nat) o, ops[i]? = some o → ∀ c, o.op ≠ .defer c) :
    ∀ (fuel : Nat) (listed : Array Bool) (a : Act) (w : World), wpAny P md ops Q fuel listed a w → wpAnyIn (Fence.wide.inRound l) n P md ops Q fuel listed a w
  | 0, _, _, _, h => h
  | fuel + 1, _, _, _, h => ⟨h.1, fun i hi => wpOpIn_mono (fun a w h => wpAnyIn_of_plain hQ hd fuel _ a w h) (wpOpIn_of_plain hQ (hd i) (h.2 i hi))⟩

def plainOps (ops : Array Oper) : Bool := ops.all fun o => match o.op with
  | .defer _ => false
  | _ => true
theorem plainOps_spec {ops : Array Oper} (h : plainOps ops = true) (i : Nat) (o : Oper) (ho : ops[i]? = some o) (c : Call) : o.op ≠ .defer c := by
  intro e
  unfold plainOps at h
  rw [Array.all_eq_true_iff_forall_mem] at h
  have := h o (Array.mem_of_getElem? ho)
  rw [e] at this
  cases this

/-- The region, by a walk that says what holds of the world between two operations. -/
theorem wpIn_region_round {l n : Nat} {P : Program} {ops : Array Oper} {id : Nat} {Q : Exit → Act → World → Prop} {S : World → Prop} {a : Act} {w : World} (hm : P.follows .mixedOrders = true) (hd : plainOps ops = true) (hS : S w.drew)
    (h : S w.drew → wpAnyH P .any ops (Ends (Q .normal)) S ops.size (Array.replicate ops.size false) a w.drew) : (Code.region id ops true).wpIn (Fence.wide.inRound l) n P Q a w := by
  refine wpIn_mono (wpIn_region_any (Q := Ends (Q .normal)) hm (wpAnyIn_of_plain Ends.no_out (plainOps_spec hd) _ _ _ _ (wpAny_of_held _ _ _ _ (h hS)))) ?_
  intro e a w he
  cases e with
  | normal => exact he.2
  | panic c => exact he.elim
  | _ => cases he.1

end Go.Proofs.Ytohanlhfbfodlaa
