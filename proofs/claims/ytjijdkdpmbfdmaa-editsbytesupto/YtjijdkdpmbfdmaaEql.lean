/-
  The contract of bytes.Equal. No statement is proved here.
-/
import Derived.Test.YtjijdkdpmbfdmaaEntK
namespace Go.Proofs.Ytjijdkdpmbfdmaa
open Go.RowKit

/-- Whether two slices have the same bytes. -/
theorem equal_any (F G : Nat → Prop) (a : Option Addr) (n c : Nat) (b : Option Addr) (m d : Nat) (l k : List UInt8) (w : World) (h1 : Lies w F a (l.map bv)) (hl : l.length = n) (h2 : Lies w G b (k.map bv)) (hk : k.length = m) :
    Calls Try.prog 45 #[.slice a n c, .slice b m d] w fun e w' => e = .returned (.bool (decide (l = k))) ∧ w = w' := by
  have CX := run_str_lies (P := Try.prog) 28 9 5 Try.underlying28 Try.underlying5 Try.underlying9 h1 hl c
  have CY := run_str_lies (P := Try.prog) 28 9 5 Try.underlying28 Try.underlying5 Try.underlying9 h2 hk d
  have HQ : Hid ((ByteArray.toList ⟨l.toArray⟩ == ByteArray.toList ⟨k.toArray⟩) = decide (l = k)) := by
    unfold Hid
    have e1 : ByteArray.toList ⟨l.toArray⟩ = l := str_toList l
    have e2 : ByteArray.toList ⟨k.toArray⟩ = k := str_toList k
    rw [e1, e2]
    by_cases h : l = k
    · rw [h]; simp
    · rw [decide_eq_false h]
      exact beq_false_of_ne h
  clear h1 h2
  obtain ⟨X, hX⟩ : ∃ X : ByteArray, X = ⟨l.toArray⟩ := ⟨_, rfl⟩
  obtain ⟨Y, hY⟩ : ∃ Y : ByteArray, Y = ⟨k.toArray⟩ := ⟨_, rfl⟩
  rw [← hX] at CX HQ
  rw [← hY] at CY HQ
  clear hX hY hl hk
  go_enter Try.func45, Try.ntmps45
  go_wp2
  go_ret
  exact ⟨by rw [← HQ.out]; rfl, rfl⟩

end Go.Proofs.Ytjijdkdpmbfdmaa
