/-
  The walk of StateOnce. No statement is proved here.
-/
import Derived.Test.YtfcpofobdlgbbaaLawK
import Derived.Test.YtfcpofobdlgbbaaStgK
namespace Go.Proofs.Ytfcpofobdlgbbaa
open Go.RowKit Tot

/-- Two pairs compared part by part. -/
def pairSame (p q : ByteArray × (ByteArray × Bool)) : Bool := p.1.toList == q.1.toList && (p.2.1.toList == q.2.1.toList && p.2.2 == q.2.2)
theorem pairSame_iff (p q : ByteArray × (ByteArray × Bool)) : pairSame p q = true ↔ p = q := by
  obtain ⟨a1, a2, a3⟩ := p
  obtain ⟨b1, b2, b3⟩ := q
  simp only [pairSame, Bool.and_eq_true, toList_inj, Prod.mk.injEq, beq_iff_eq]
theorem pairSame_self (p : ByteArray × (ByteArray × Bool)) : pairSame p p = true := (pairSame_iff p p).2 rfl
set_option maxRecDepth 100000 in
theorem pair_equalIn (k : Nat) (w : World) (p q : ByteArray × (ByteArray × Bool)) : (Op.equalIn (k + 1 + 1) 39 (PR.val p) (PR.val q)).run Try.prog w = .ok (pairSame p q) w := by
  have u3 := Try.underlying4
  have a3 := Try.isAgg4
  have z3 := Try.sizeOf4
  have u5 := Try.underlying9
  have a5 := Try.isAgg9
  have z5 := Try.sizeOf9
  have hS : Try.prog.underlying 39 = some (.struct (Try.prog.fieldsOf 39)) := by kernel_rfl
  have hp : Try.prog.stoodInHeld 39 = false := by kernel_rfl
  unfold PR.val
  rw [run_equalIn_agg w (k + 1) 39 _ _ hS hp]
  simp only [Program.fieldsOf, Try.underlying39]
  go_simp
  unfold pairSame
  repeat' split
  all_goals simp_all
theorem pair_neq (w : World) (p q : ByteArray × (ByteArray × Bool)) : (binOp .neq 39 (PR.val p) (PR.val q)).run Try.prog w = .ok (.bool (!pairSame p q)) w := by
  have h := pair_equalIn 9998 w p q
  unfold PR.val at h ⊢
  rw [run_neq_struct, show (10000 : Nat) = 9998 + 1 + 1 from rfl, h]
  rfl
theorem ix_next {a b : Int} {k : Nat} (h : a = b + (k : Int)) : a + 1 = b + ((k + 1 : Nat) : Int) := by omega
theorem wrap_next {k : Nat} (h : k < 1000) : wrap64 ((k : Int) + 1) = (k : Int) + 1 := by unfold wrap64; omega
/-- A state some entries later. -/
def StV.later (s : StV) (i : Int) : StV := { s with index := i }
theorem later_right {s : StV} (h : s.Right) {i : Int} (h0 : 0 ≤ i) (h1 : i ≤ 1048576) : (s.later i).Right := ⟨⟨h0, h1⟩, h.2.1, h.2.2⟩

end Go.Proofs.Ytfcpofobdlgbbaa
