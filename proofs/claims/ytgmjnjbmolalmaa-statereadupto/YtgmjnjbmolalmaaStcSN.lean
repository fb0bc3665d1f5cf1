/-
  A row of pairs, or sessions, that is copied. No statement is proved here.
-/
import Derived.Test.YtgmjnjbmolalmaaStiSN
namespace Go.Proofs.Ytgmjnjbmolalmaa.SN
open Go.RowKit

/-- A row's cells as a source. -/
theorem src_rows {w : World} {F : Nat → Prop} {a : Option Addr} {n c : Nat} {L : List (Int × (Int × RepV))} (h : Lies w F a (cells L)) (hl : L.length = n) : Src Try.prog 4 31 (.slice a n c) n (cells L) w := by
  cases a with
  | none =>
    obtain rfl : L = [] := by
      cases L with
      | nil => rfl
      | cons x r => obtain ⟨ad, h, _⟩ := h (by unfold cells; rw [flat_cons]; simp [enc]); cases h
    obtain rfl : n = 0 := by simpa using hl.symm
    exact Src.ofNil w Try.underlying31 c
  | some ad =>
    refine Src.ofSlice w Try.underlying31 ad n c (cells L) (by rw [cells_len, hl]) (fun j u hu => ?_) (cells_one L)
    obtain ⟨ad', e, _, hc⟩ := h.at_ hu
    injection e with e
    subst e
    exact hc

set_option maxHeartbeats 400000 in
theorem clone_any (F : Nat → Prop) (a : Option Addr) (n c : Nat) (L : List (Int × (Int × RepV))) (w : World) (h : Lies w F a (cells L)) (hl : L.length = n) (hx : n ≤ 1048576) :
    Calls Try.prog 57 #[.slice a n c] w fun e w' => ∃ A c', e = .returned (.slice A n c') ∧ w'.ownsRow w.heap.size 84 4 (.slice A n c') n (cells L) ∧ Kept noBlock w w' := by
  have hq : ∀ (w : World) (a : Option Addr) (n c n' c' : Nat), (binOp .eql 31 (.slice a n c) (.slice none n' c')).run Try.prog w = .ok (.bool a.isNone) w := fun w a n c n' c' => Lib.run_eql_slice_nil w _ _ a n c n' c' Try.underlying31
  cases a with
  | none =>
    obtain rfl : L = [] := by
      cases L with
      | nil => rfl
      | cons x r => obtain ⟨ad, h, _⟩ := h (by unfold cells; rw [flat_cons]; simp [enc]); cases h
    obtain rfl : n = 0 := hl.symm
    go_enter Try.func57, Try.ntmps57
    go_wp2
    go_ret
    exact ⟨none, 0, rfl, World.ownsRow_nil _ _ _ _, Kept.refl _ _⟩
  | some ad =>
    have hsrc : Src Try.prog 4 31 (.slice (some ad) n c) n (cells L) (w.alloc (.cells #[] 84)) :=
      src_rows (h.keep (Kept.alloc noBlock w _) (fun _ _ h => h)) hl
    have hown : (w.alloc (.cells #[] 84)).ownsRow 0 84 4 (.slice (some ⟨w.heap.size, 0, none⟩) 0 0) 0 [] := ⟨rfl, .inr ⟨w.heap.size, 0, #[], rfl, Nat.zero_le _, heap_alloc_new _ _, Nat.le_refl _, Nat.zero_le _, rfl, rfl⟩⟩
    go_enter Try.func57, Try.ntmps57
    go_wp2_with (at_builtin; refine wpList_append_src rfl (.tmp 5) (.tmp 6) 31 31 rfl 84 (.agg #[.int .i64 0, .int .i64 0, .int .i64 0, .string ByteArray.empty]) 4 40 Try.underlying31 infoPr rfl _ 0 [] rfl hown _ n (cells L) rfl hsrc ?c3 ?c4 ?_)
    case c3 => unfold maxLen; omega
    case c4 => left; omega
    intro A' c' w1 hown1 k1 hat
    have R := Lib.hid hown1
    have k2 : Kept noBlock w w1 := (Kept.alloc noBlock w _).trans k1 (fun i hi h => by simp [Value.ownBlock] at h; omega)
    have hb2 : ∀ k, (Value.slice A' n c').ownBlock = some k → w.heap.size ≤ k := fun k hk => by
      rcases hat k hk with h | h
      · simp [Value.ownBlock] at h; omega
      · have := h.1; simp at this; omega
    clear hown1 hat k1
    go_wp2
    go_ret
    refine ⟨A', c', by simp, ?_, k2⟩
    have := own_base R.out hb2
    simpa using this
end Go.Proofs.Ytgmjnjbmolalmaa.SN
