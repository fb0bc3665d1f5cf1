/-
  A Reader's Bad. No statement is proved here.
-/
import Derived.Test.YtgmjnjbmolalmaaPack3
namespace Go.Proofs.Ytgmjnjbmolalmaa
open Go.RowKit

theorem rbad_any (b : Nat) (F : Nat → Prop) (l : List UInt8) (bad : Bool) (w : World) (h : Rd w F b l bad) :
    Calls Try.prog 64 #[.pointer (some ⟨b, 0, none⟩)] w fun e w' => e = .returned (.bool bad) ∧ w = w' := by
  obtain ⟨A, c, hb, hl, hc, hF, hlt⟩ := h
  have hc1 : w.cell? ⟨b, 1, none⟩ = some (.bool bad) := cell_of_row _ _ _ _ _ _ hb
  clear hb
  go_enter Try.func64, Try.ntmps64
  go_wp2
  go_ret
  exact ⟨rfl, rfl⟩

end Go.Proofs.Ytgmjnjbmolalmaa
