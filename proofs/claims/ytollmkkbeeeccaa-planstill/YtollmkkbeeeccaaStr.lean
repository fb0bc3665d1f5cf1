/-
  Bytes as a text. No statement is proved here.
-/
import Derived.Laws.Strings
namespace Go.Proofs.Ytollmkkbeeeccaa

/-- Bytes as a string. -/
def str (l : List UInt8) : ByteArray := ⟨l.toArray⟩
theorem str_eq (l m : List UInt8) : str l = str m ↔ l = m := by
  unfold str
  constructor
  · intro h
    have := congrArg (fun b : ByteArray => b.data.toList) h
    simpa using this
  · rintro rfl
    rfl
theorem str_append (l m : List UInt8) : str l ++ str m = str (l ++ m) := by unfold str; apply ByteArray.ext; simp
theorem str_size (l : List UInt8) : (str l).size = l.length := by simp [str, ByteArray.size]
theorem str_of (s : ByteArray) : str s.data.toList = s := by unfold str; apply ByteArray.ext; simp
theorem str_toList (l : List UInt8) : (str l).toList = l := by unfold str; simp
end Go.Proofs.Ytollmkkbeeeccaa
