/-
  Texts in order: plain mathematics. No statement is proved here.
-/
import Derived.Test.YtollmkkbeeeccaaSrt
import Derived.Test.YtollmkkbeeeccaaStr
namespace Go.Proofs.Ytollmkkbeeeccaa
open Tot

theorem size_zero {s : ByteArray} (h : s.size = 0) : s = ⟨#[]⟩ := by
  apply ByteArray.ext
  exact Array.eq_empty_of_size_eq_zero h

theorem toList_inj (a b : ByteArray) : a.toList = b.toList ↔ a = b := by
  rw [ByteArray.toList_eq, ByteArray.toList_eq]
  constructor
  · intro h
    apply ByteArray.ext
    exact Array.toList_inj.1 h
  · rintro rfl; rfl

theorem data_length (s : ByteArray) : s.data.toList.length = s.size := by rw [Array.length_toList]; rfl
theorem mk_toList (s : ByteArray) : ByteArray.mk s.data.toList.toArray = s := by simp
instance : Tot ByteArray :=
  ⟨fun a b => Op.bytesLess a.toList b.toList, fun _ => less_irr _, fun h1 h2 => less_tr h1 h2, fun h1 h2 => (toList_inj _ _).1 (less_tot h1 h2), inferInstance⟩

def noText : ByteArray := ⟨#[]⟩
instance {α β : Type} [Tot α] (L : List (α × β)) : Decidable (Srt.Up L) := by unfold Srt.Up; infer_instance
end Go.Proofs.Ytollmkkbeeeccaa
