/-
  A Writer of a call's own, step by step. No statement is proved here.
-/
import Derived.Test.YtgmjnjbmolalmaaEnt
namespace Go.Proofs.Ytgmjnjbmolalmaa
open Go.RowKit

theorem u8_low (n : Int) : IntKind.u8.wrap n = ((low n).toNat : Int) := by
  rw [← low_eq]
  simp [IntKind.wrap, IntKind.signed, IntKind.bits]
/-- A Writer at block b of w1 has the bytes xs by now; all else that w1 had is as it was. -/
def Pen (w1 w : World) (b : Nat) (xs : List UInt8) : Prop := Kept (fun k => k = b) w1 w ∧ ∃ F : Nat → Prop, Wr w F b xs ∧ ∀ i, F i → i = b ∨ w1.heap.size ≤ i
theorem Pen.new (w : World) : Pen (w.alloc (.cells #[.slice none 0 0] 75)) (w.alloc (.cells #[.slice none 0 0] 75)) w.heap.size [] := ⟨Kept.refl _ _, _, Wr.new w, fun _ hi => .inl hi⟩
theorem Pen.keep {w1 w w' : World} {b : Nat} {xs : List UInt8} (h : Pen w1 w b xs) (kk : Kept noBlock w w') : Pen w1 w' b xs := by
  obtain ⟨k, F, hw, hF⟩ := h
  exact ⟨k.trans kk (fun _ _ h => h.elim), F, hw.keep kk (fun _ _ h => h), hF⟩
theorem Pen.drew {w1 w : World} {b : Nat} {xs : List UInt8} (h : Pen w1 w b xs) : Pen w1 w.drew b xs := h.keep (Kept.drew _ _)
/-- From here on. -/
theorem Pen.next {w1 w : World} {b : Nat} (h : Pen w1 w1 b []) (k : Kept noBlock w1 w) : Pen w w b [] := by
  obtain ⟨_, F, hw, hF⟩ := h
  refine ⟨Kept.refl _ _, F, hw.keep k (fun _ _ h => h), fun i hi => ?_⟩
  rcases hF i hi with h | h
  · exact .inl h
  · exact absurd (hw.lt i hi) (by omega)
theorem Pen.step {w1 w w' : World} {b : Nat} {xs : List UInt8} {F : Nat → Prop} (k : Kept (fun k => k = b) w1 w) (hF : ∀ i, F i → i = b ∨ w1.heap.size ≤ i) (k2 : Kept F w w') (h2 : Wr w' (fun k => F k ∨ fresh w w' k) b xs) : Pen w1 w' b xs :=
  ⟨k.trans k2 (fun i hi h => by rcases hF i h with h | h; exact h; omega), _, h2, fun i hi => by rcases hi with h | h; exact hF i h; exact .inr (Nat.le_trans k.size h.1)⟩
theorem pen_num {w1 w : World} {b : Nat} {xs : List UInt8} (h : Pen w1 w b xs) (n : Int) (hx : xs.length + 8 ≤ 140737488355328) :
    Calls Try.prog 44 #[.pointer (some ⟨b, 0, none⟩), .int .i64 n] w fun e w' => e = .returned (.pointer (some ⟨b, 0, none⟩)) ∧ Pen w1 w' b (xs ++ be8 n) := by
  obtain ⟨k, F, hw, hF⟩ := h
  refine (wnum_any b F xs n w hw hx).mono ?_
  rintro e w' ⟨rfl, k2, h2⟩
  exact ⟨rfl, Pen.step k hF k2 h2⟩
theorem pen_byte {w1 w : World} {b : Nat} {xs : List UInt8} (h : Pen w1 w b xs) (c : UInt8) (hx : xs.length + 1 ≤ 140737488355328) :
    Calls Try.prog 47 #[.pointer (some ⟨b, 0, none⟩), .int .u8 (c.toNat : Int)] w fun e w' => e = .returned (.pointer (some ⟨b, 0, none⟩)) ∧ Pen w1 w' b (xs ++ [c]) := by
  obtain ⟨k, F, hw, hF⟩ := h
  refine (wbyte_any b F xs c w hw hx).mono ?_
  rintro e w' ⟨rfl, k2, h2⟩
  exact ⟨rfl, Pen.step k hF k2 h2⟩
theorem pen_text {w1 w : World} {b : Nat} {xs : List UInt8} (h : Pen w1 w b xs) (s : ByteArray) (hx : xs.length + 8 + s.size ≤ 140737488355328) :
    Calls Try.prog 46 #[.pointer (some ⟨b, 0, none⟩), .string s] w fun e w' => e = .returned (.pointer (some ⟨b, 0, none⟩)) ∧ Pen w1 w' b (xs ++ tx s) := by
  obtain ⟨k, F, hw, hF⟩ := h
  refine (wtext_any b F xs s w hw hx).mono ?_
  rintro e w' ⟨rfl, k2, h2⟩
  exact ⟨rfl, Pen.step k hF k2 h2⟩
theorem pen_bytes {w1 w : World} {b : Nat} {xs : List UInt8} (h : Pen w1 w b xs) (n : Nat) (hn : xs.length = n) (hx : n ≤ 140737488355328) :
    Calls Try.prog 30 #[.pointer (some ⟨b, 0, none⟩)] w fun e w' => ∃ A c, e = .returned (.slice A n c) ∧ w'.ownsRow w1.heap.size 5 1 (.slice A n c) n (xs.map bv) ∧ Kept (fun k => k = b) w1 w' := by
  obtain ⟨k, F, hw, hF⟩ := h
  refine (wbytes_n b F xs n w hw hn hx).mono ?_
  rintro e w' ⟨A, c, rfl, ho, k2⟩
  exact ⟨A, c, rfl, own_base ho (fun i hi => Nat.le_trans k.size (ho.lt i hi).1), k.trans k2 (fun _ _ h => h.elim)⟩

end Go.Proofs.Ytgmjnjbmolalmaa
