/-
  Two Writers side by side; sessions compared. No statement is proved here.
-/
import Derived.Test.YtgmjnjbmolalmaaStPut
import Derived.Test.YtgmjnjbmolalmaaL7Awake
namespace Go.Proofs.Ytgmjnjbmolalmaa
open Go.RowKit Tot

/-- Two new Writers. -/
theorem two_pens (w : World) : Pen ((w.alloc (.cells #[.slice none 0 0] 75)).alloc (.cells #[.slice none 0 0] 75)) ((w.alloc (.cells #[.slice none 0 0] 75)).alloc (.cells #[.slice none 0 0] 75)) w.heap.size [] ∧
    Pen ((w.alloc (.cells #[.slice none 0 0] 75)).alloc (.cells #[.slice none 0 0] 75)) ((w.alloc (.cells #[.slice none 0 0] 75)).alloc (.cells #[.slice none 0 0] 75)) (w.heap.size + 1) [] ∧
    Kept noBlock w ((w.alloc (.cells #[.slice none 0 0] 75)).alloc (.cells #[.slice none 0 0] 75)) ∧ ((w.alloc (.cells #[.slice none 0 0] 75)).alloc (.cells #[.slice none 0 0] 75)).heap.size = w.heap.size + 2 := by
  refine ⟨(Pen.new w).next (Kept.alloc _ _ _), ?_, (Kept.alloc _ _ _).step (Kept.alloc _ _ _), by simp⟩
  have := Pen.new (w.alloc (.cells #[.slice none 0 0] 75))
  simpa using this
/-- The second, where the first was written. -/
theorem Pen.other {w3 w4 : World} {b0 b1 : Nat} {Y : List UInt8} (p : Pen w3 w4 b0 Y) (q : Pen w3 w3 b1 []) (hne : b1 ≠ b0) : Pen w4 w4 b1 [] := by
  obtain ⟨k, _⟩ := p
  obtain ⟨_, F, hw, hF⟩ := q
  have hF1 : ∀ i, F i → i = b1 := fun i hi => by
    rcases hF i hi with h | h
    · exact h
    · exact absurd (hw.lt i hi) (by omega)
  exact ⟨Kept.refl _ _, F, hw.keep k (fun i hi h => hne ((hF1 i hi).symm.trans h)), fun i hi => .inl (hF1 i hi)⟩
/-- Both, where both were written. -/
theorem Pen.both {w w3 w4 w5 : World} {b0 b1 : Nat} {Y Z : List UInt8} (k0 : Kept noBlock w w3) (p : Pen w3 w4 b0 Y) (q : Pen w4 w5 b1 Z) (hne : b1 ≠ b0) (h0 : w.heap.size ≤ b0) (h1 : w.heap.size ≤ b1) (hb : b1 < w3.heap.size) :
    ∃ F0 F1 : Nat → Prop, Wr w5 F0 b0 Y ∧ Wr w5 F1 b1 Z ∧ Kept noBlock w w5 := by
  obtain ⟨k, F, hw, hF⟩ := p
  obtain ⟨k2, G, hw2, _⟩ := q
  refine ⟨F, G, hw.keep k2 (fun i hi e => ?_), hw2, ?_⟩
  · rcases hF i hi with h | h
    · exact hne (e.symm.trans h)
    · omega
  · have a1 := (k0.mono (T := fun i => w.heap.size ≤ i) (fun _ _ h => h.elim)).trans k (fun i _ h => by omega)
    have a2 := a1.trans k2 (fun i _ h => by omega)
    exact a2.mono (fun i hi h => by omega)

/-- Two sessions compared part by part. -/
def sessSame (p q : Int × (Int × RepV)) : Bool := p.1 == q.1 && (p.2.1 == q.2.1 && p.2.2.same q.2.2)
theorem sessSame_self (p : Int × (Int × RepV)) : sessSame p p = true := by simp [sessSame, RepV.same_self]
set_option maxRecDepth 100000 in
theorem sess_equalIn (k : Nat) (w : World) (p q : Int × (Int × RepV)) : (Op.equalIn (k + 1 + 1 + 1) 84 (SN.val p) (SN.val q)).run Try.prog w = .ok (sessSame p q) w := by
  have u3 := Try.underlying3
  have a3 := Try.isAgg3
  have z3 := Try.sizeOf3
  have a6 := Try.isAgg44
  have z6 := Try.sizeOf44
  have hS : Try.prog.underlying 84 = some (.struct (Try.prog.fieldsOf 84)) := by kernel_rfl
  have hp : Try.prog.stoodInHeld 84 = false := by kernel_rfl
  have hc := fun w => rep_equalIn k w p.2.2 q.2.2
  unfold RepV.val at hc
  unfold SN.val
  rw [run_equalIn_agg w (k + 1 + 1) 84 _ _ hS hp]
  simp only [Program.fieldsOf, Try.underlying84]
  go_simp
  unfold sessSame
  repeat' split
  all_goals simp_all
theorem sess_neq (w : World) (p q : Int × (Int × RepV)) : (binOp .neq 84 (SN.val p) (SN.val q)).run Try.prog w = .ok (.bool (!sessSame p q)) w := by
  have h := sess_equalIn 9997 w p q
  unfold SN.val at h ⊢
  rw [run_neq_struct, show (10000 : Nat) = 9997 + 1 + 1 + 1 from rfl, h]
  rfl
end Go.Proofs.Ytgmjnjbmolalmaa
