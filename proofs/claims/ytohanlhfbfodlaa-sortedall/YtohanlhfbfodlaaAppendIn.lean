/-
  append within a round of a loop over a function. No statement is proved here.
-/
import Derived.Test.YtohanlhfbfodlaaGrew
import Derived.OwnWalkIn
import Derived.ControlIn
import Derived.OrdersIn
namespace Go.Proofs.Ytohanlhfbfodlaa
open Go.RowKit
attribute [local go_sem] Oper.semAt_some

/-- append within a round of a loop over a function. -/
theorem wpListIn_append_src {F : Fence} {n0 : Nat} {P : Program} {w : World} {ops : Array Oper} {rest : List Oper} {o : Oper} {a : Act} {Q : Exit → Act → World → Prop} (hgd : o.guard = none) (s x : Operand) (t tx : TypeId)
    (ho : o.op = .call { callee := .builtin .append, args := #[s, x], argTypes := #[t, tx] })
    (e : TypeId) (z : Value) (size bytes : Nat) (ht : P.underlying t = some (.slice e)) (hinfo : (P.info? e).map (fun i => (i.zero, i.size, i.bytes)) = some (some z, size, bytes)) (hzs : z.cells.size = size)
    (v : Value) (n : Nat) (xs : List Value) (hv : a.eval s = v) (hown : w.ownsRow 0 e size v n xs)
    (xv : Value) (m : Nat) (news : List Value) (hx : a.eval x = xv) (hs : Src P size tx xv m news w) (h63 : n + m ≤ maxLen) (hbytes : (n + m) * bytes ≤ 140737488355328 ∨ (n + m + (n + m) / 4 + 192) * bytes ≤ 281474976710656)
    (h : ∀ A c w', w'.ownsRow 0 e size (.slice A (n + m) c) (n + m) (xs ++ news) → Grew w w' v (.slice A (n + m) c) → wpListIn F n0 P ops Q rest (a.put o.dst (.slice A (n + m) c)) w') : wpListIn F n0 P ops Q (o :: rest) a w := by
  refine wpListIn_plain hgd fun K hK => ?_
  obtain ⟨i, hi, hz, h1, h2⟩ := info_parts hinfo
  obtain ⟨v', w', hr, g1, g2, g3⟩ := run_append_src (P := P) w 0 t tx o.type e i z size bytes ht hi hz h1 h2 hzs v n xs hown xv m news hs h63 hbytes (Nat.zero_le _)
  obtain ⟨A, c, rfl, _⟩ := own_form g1
  unfold Oper.wpIn
  refine ⟨?_, ?_⟩
  · simp [Oper.about, ho, resolve, Target.leads, Sem.run_pure]
  · rw [Oper.semAt_plain F _ _ (by rw [ho]; intro c hc'; cases hc')]
    simp [execOp, ho, resolve, invoke, builtin, hv, hx, hr, Result.andThen]
    refine hK _ _ (h A c w' g1 ⟨Kept.grown g2 fun k hk => hk, fun k hk => ?_⟩)
    rcases g3 with g3 | g3
    · exact .inl (g3 ▸ hk)
    · have hlt := own_lt g1 k hk
      have : k = w.heap.size := by rw [g3] at hk; injection hk with hk; exact hk.symm
      exact .inr ⟨by omega, hlt⟩

end Go.Proofs.Ytohanlhfbfodlaa
