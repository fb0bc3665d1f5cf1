/-
  A Writer beside a block that is none of its own. No statement is proved here.
-/
import Derived.Test.YtjijdkdpmbfdmaaEntK
namespace Go.Proofs.Ytjijdkdpmbfdmaa
open Go.RowKit

theorem flatMap_take {α : Type} (f : α → List UInt8) (L : List α) (k : Nat) (x : α) (h : L[k]? = some x) : (L.take (k + 1)).flatMap f = (L.take k).flatMap f ++ f x := by
  rw [take_snoc L k x h, List.flatMap_append]
  simp
theorem flatMap_le {α : Type} (f : α → List UInt8) (L : List α) (k : Nat) : ((L.take k).flatMap f).length ≤ (L.flatMap f).length := by
  conv => rhs; rw [← List.take_append_drop k L, List.flatMap_append, List.length_append]
  omega
theorem Pen.lies {w1 w : World} {b : Nat} {xs : List UInt8} (h : Pen w1 w b xs) {F : Nat → Prop} {a : Option Addr} {cs : List Value} (hl : Lies w1 F a cs) (hF : ∀ i, F i → i ≠ b) : Lies w F a cs := hl.keep h.1 hF

/-- The same, where a block X that is none of the Writer's has what it had. -/
def PenX (w1 w : World) (b X : Nat) (o : Obj) (xs : List UInt8) : Prop := Kept (fun k => k = b) w1 w ∧ w.heap[X]? = some o ∧ ∃ F : Nat → Prop, Wr w F b xs ∧ (∀ i, F i → i = b ∨ w1.heap.size ≤ i) ∧ ¬ F X
theorem PenX.start {w1 w : World} {b : Nat} {xs : List UInt8} (h : Pen w1 w b xs) (o : Obj) : PenX w1 (w.alloc o) b w.heap.size o xs := by
  obtain ⟨k, F, hw, hF⟩ := h
  have ka := Kept.alloc noBlock w o
  exact ⟨k.trans ka (fun _ _ h => h.elim), heap_alloc_new w o, F, hw.keep ka (fun _ _ h => h), hF, fun h => Nat.lt_irrefl _ (hw.lt _ h)⟩
theorem PenX.pen {w1 w : World} {b X : Nat} {o : Obj} {xs : List UInt8} (h : PenX w1 w b X o xs) : Pen w1 w b xs := by
  obtain ⟨k, _, F, hw, hF, _⟩ := h
  exact ⟨k, F, hw, hF⟩
theorem PenX.keep {w1 w w' : World} {b X : Nat} {o : Obj} {xs : List UInt8} (h : PenX w1 w b X o xs) (kk : Kept noBlock w w') : PenX w1 w' b X o xs := by
  obtain ⟨k, hx, F, hw, hF, hn⟩ := h
  exact ⟨k.trans kk (fun _ _ h => h.elim), kk.blk hx (fun h => h), F, hw.keep kk (fun _ _ h => h), hF, hn⟩
theorem PenX.drew {w1 w : World} {b X : Nat} {o : Obj} {xs : List UInt8} (h : PenX w1 w b X o xs) : PenX w1 w.drew b X o xs := h.keep (Kept.drew _ _)
theorem PenX.step {w1 w w' : World} {b X : Nat} {o : Obj} {ys : List UInt8} {F : Nat → Prop} (k : Kept (fun k => k = b) w1 w) (hx : w.heap[X]? = some o) (hF : ∀ i, F i → i = b ∨ w1.heap.size ≤ i) (hn : ¬ F X) (k2 : Kept F w w') (h2 : Wr w' (fun k => F k ∨ fresh w w' k) b ys) : PenX w1 w' b X o ys :=
  ⟨k.trans k2 (fun i hi h => by rcases hF i h with h | h; exact h; omega), k2.blk hx hn, _, h2, fun i hi => by rcases hi with h | h; exact hF i h; exact .inr (Nat.le_trans k.size h.1), fun h => by
    rcases h with h | h
    · exact hn h
    · exact Nat.lt_irrefl _ (Nat.lt_of_lt_of_le (lt_of_blk hx) h.1)⟩
theorem penx_num {w1 w : World} {b X : Nat} {o : Obj} {xs : List UInt8} (h : PenX w1 w b X o xs) (n : Int) (hx : xs.length + 8 ≤ 140737488355328) :
    Calls Try.prog 32 #[.pointer (some ⟨b, 0, none⟩), .int .i64 n] w fun e w' => e = .returned (.pointer (some ⟨b, 0, none⟩)) ∧ PenX w1 w' b X o (xs ++ be8 n) := by
  obtain ⟨k, hX, F, hw, hF, hn⟩ := h
  refine (wnum_any b F xs n w hw hx).mono ?_
  rintro e w' ⟨rfl, k2, h2⟩
  exact ⟨rfl, PenX.step k hX hF hn k2 h2⟩
theorem penx_byte {w1 w : World} {b X : Nat} {o : Obj} {xs : List UInt8} (h : PenX w1 w b X o xs) (c : UInt8) (hx : xs.length + 1 ≤ 140737488355328) :
    Calls Try.prog 34 #[.pointer (some ⟨b, 0, none⟩), .int .u8 (c.toNat : Int)] w fun e w' => e = .returned (.pointer (some ⟨b, 0, none⟩)) ∧ PenX w1 w' b X o (xs ++ [c]) := by
  obtain ⟨k, hX, F, hw, hF, hn⟩ := h
  refine (wbyte_any b F xs c w hw hx).mono ?_
  rintro e w' ⟨rfl, k2, h2⟩
  exact ⟨rfl, PenX.step k hX hF hn k2 h2⟩
theorem penx_text {w1 w : World} {b X : Nat} {o : Obj} {xs : List UInt8} (h : PenX w1 w b X o xs) (s : ByteArray) (hx : xs.length + 8 + s.size ≤ 140737488355328) :
    Calls Try.prog 33 #[.pointer (some ⟨b, 0, none⟩), .string s] w fun e w' => e = .returned (.pointer (some ⟨b, 0, none⟩)) ∧ PenX w1 w' b X o (xs ++ tx s) := by
  obtain ⟨k, hX, F, hw, hF, hn⟩ := h
  refine (wtext_any b F xs s w hw hx).mono ?_
  rintro e w' ⟨rfl, k2, h2⟩
  exact ⟨rfl, PenX.step k hX hF hn k2 h2⟩

end Go.Proofs.Ytjijdkdpmbfdmaa
