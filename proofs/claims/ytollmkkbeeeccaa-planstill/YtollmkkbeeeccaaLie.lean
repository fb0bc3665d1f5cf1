/-
  Words for memory: rows that lie below, rows of one's own. No statement is proved here.
-/
import Derived.Test.YtollmkkbeeeccaaMem
namespace Go.Proofs.Ytollmkkbeeeccaa
open Go.RowKit

theorem Lies.lt {w : World} {F : Nat → Prop} {a : Option Addr} {xs : List Value} (h : Lies w F a xs) : Lies w (fun i => i < w.heap.size) a xs := fun hx => by
  obtain ⟨ad, e, _, hc⟩ := h hx
  refine ⟨ad, e, ?_, hc⟩
  cases xs with
  | nil => exact absurd rfl hx
  | cons x r =>
    have := World.block_lt_of_cell? w _ (hc 0 x rfl)
    rw [block_add] at this
    exact this
theorem Lies.of_rows {w : World} {F : Nat → Prop} {base n c size : Nat} {t : TypeId} {a : Option Addr} {xs : List Value} (h : w.ownsRow base t size (.slice a n c) n xs) (hF : ∀ k, (Value.slice a n c).ownBlock = some k → F k) : Lies w F a xs := fun hx => by
  rcases h.2 with ⟨_, rfl⟩ | ⟨g, cap, cur, e, _, hg, _, _, _, htk⟩
  · have := h.1
    rw [Nat.zero_mul] at this
    exact absurd (List.eq_nil_of_length_eq_zero this) hx
  · injection e with e
    subst e
    refine ⟨⟨g, 0, none⟩, rfl, hF g rfl, fun j u hu => ?_⟩
    rw [add_plain, Nat.zero_add, cell_of_row _ _ _ _ _ _ hg]
    rw [← htk, List.getElem?_take] at hu
    split at hu
    · simpa using hu
    · cases hu
theorem Kept.to {S : Nat → Prop} {w w' : World} (k : Kept noBlock w w') : Kept S w w' := k.mono (fun _ _ h => h.elim)
end Go.Proofs.Ytollmkkbeeeccaa
