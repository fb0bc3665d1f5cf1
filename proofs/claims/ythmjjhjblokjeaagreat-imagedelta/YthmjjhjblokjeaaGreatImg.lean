/-
  Files of layer 9 in plain words: heads, the bytes of files, what is read of them. No statement is proved here.
-/
import Derived.Test.YthmjjhjblokjeaaGreatCrcK
import Derived.Test.YthmjjhjblokjeaaGreatStRound
import Derived.Test.YthmjjhjblokjeaaGreatD8Read
import Derived.Test.YthmjjhjblokjeaaGreatEntK
namespace Go.Proofs.YthmjjhjblokjeaaGreat
open Go.RowKit Tot

/-- What a head holds; a head. -/
def headIn (k : UInt8) (f t : Int) : List UInt8 := [k] ++ be8 f ++ be8 t
def headB (k : UInt8) (f t : Int) : List UInt8 := frm (headIn k f t)
theorem headIn_length (k : UInt8) (f t : Int) : (headIn k f t).length = 17 := by simp [headIn, be8_length]
theorem headB_length (k : UInt8) (f t : Int) : (headB k f t).length = 26 := by unfold headB; rw [frm_length, headIn_length]
/-- The bytes of files. -/
def fullB (s : StV) : List UInt8 := headB 0 s.index s.index ++ frm s.bytes
def deltaB (d : DltV) : List UInt8 := headB 1 d.from_ d.to_ ++ frm d.bytes
def partB (f : Int) : List UInt8 := headB 2 f f
def entB (e : EntryV) : List UInt8 := frm e.bytes
def entsB (es : List EntryV) : List UInt8 := es.flatMap entB
def fileB (f : Int) (es : List EntryV) : List UInt8 := partB f ++ entsB es
theorem fullB_length (s : StV) : (fullB s).length = 35 + s.bytes.length := by unfold fullB; rw [List.length_append, headB_length, frm_length]; omega
theorem deltaB_length (s : DltV) : (deltaB s).length = 35 + s.bytes.length := by unfold deltaB; rw [List.length_append, headB_length, frm_length]; omega
theorem partB_length (f : Int) : (partB f).length = 26 := headB_length _ _ _
theorem entB_length (e : EntryV) : (entB e).length = e.bytes.length + 9 := frm_length _
theorem entsB_joined (es : List EntryV) : entsB es = joined (es.map EntryV.bytes) := by
  unfold entsB joined entB
  induction es with
  | nil => rfl
  | cons e r ih => simp only [List.flatMap_cons, List.map_cons, ih]
theorem entsB_cons (e : EntryV) (r : List EntryV) : entsB (e :: r) = entB e ++ entsB r := by simp [entsB]
theorem entsB_append (a b : List EntryV) : entsB (a ++ b) = entsB a ++ entsB b := by simp [entsB]
theorem entsB_nil : entsB [] = [] := rfl

/-- What is read of bytes as a frame is short. -/
theorem rd_fits (b : List UInt8) : (rd b).1.length ≤ 16384 := by
  rcases rd_cases b with (h | h | h) | h
  · rw [h]; simp
  · rw [h]; simp
  · rw [h]; simp
  · exact (rd_ok h).1
theorem rd_none {b : List UInt8} (h : (rd b).2.2 ≠ 0) : (rd b).1 = [] ∧ (rd b).2.1 = 0 := by
  rcases rd_cases b with (h | h | h) | h'
  · rw [h]; exact ⟨rfl, rfl⟩
  · rw [h]; exact ⟨rfl, rfl⟩
  · rw [h]; exact ⟨rfl, rfl⟩
  · exact absurd h' h
theorem rd_taken (b : List UInt8) : (rd b).2.1 ≤ b.length := by
  by_cases h : (rd b).2.2 = 0
  · exact rd_ok_le h
  · rw [(rd_none h).2]; exact Nat.zero_le _

/-- What the second frame holds. -/
def sndB (b : List UInt8) : List UInt8 := if (rd b).2.2 = 0 then (rd (b.drop (rd b).2.1)).1 else []
theorem sndB_fits (b : List UInt8) : (sndB b).length ≤ 16384 := by
  unfold sndB
  split
  · exact rd_fits _
  · simp
theorem sndB_two (l m : List UInt8) (hl : l.length ≤ 16384) (hm : m.length ≤ 16384) : sndB (frm l ++ frm m) = m := by
  have e := rd_frm l (frm m) hl
  unfold sndB
  rw [e]
  simp only [if_true]
  rw [show l.length + 9 = (frm l).length from (frm_length l).symm, List.drop_left' rfl]
  have e2 := rd_frm m [] hm
  rw [List.append_nil] at e2
  rw [e2]

/-- What ReadFull tells. -/
def okF (l : List UInt8) : Prop := gotT (sndB l) = true ∧ fullB (gotS (sndB l)) = l
instance (l : List UInt8) : Decidable (okF l) := by unfold okF; infer_instance
def gotF (l : List UInt8) : StV := if okF l then gotS (sndB l) else noState
def errF (l : List UInt8) : Int := if okF l then 0 else 10
/-- What ReadDelta tells. -/
def okD (l : List UInt8) : Prop := gotDT (sndB l) = true ∧ deltaB (gotD (sndB l)) = l
instance (l : List UInt8) : Decidable (okD l) := by unfold okD; infer_instance
def gotDl (l : List UInt8) : DltV := if okD l then gotD (sndB l) else noDelta
def errD (l : List UInt8) : Int := if okD l then 0 else 10

theorem headIn_le (k : UInt8) (f t : Int) : (headIn k f t).length ≤ 16384 := by rw [headIn_length]; omega
theorem right_fits {s : StV} (h : s.Right) : s.bytes.length ≤ 16384 := by have := right_bytes h; omega
/-- A file of a right state is read. -/
theorem okF_full {s : StV} (h : s.Right) : okF (fullB s) ∧ gotF (fullB s) = s := by
  have e : sndB (fullB s) = s.bytes := sndB_two _ _ (headIn_le _ _ _) (right_fits h)
  obtain ⟨g1, g2⟩ := got_bytes h
  have h1 : okF (fullB s) := by
    unfold okF
    rw [e, g1]
    exact ⟨g2, rfl⟩
  refine ⟨h1, ?_⟩
  unfold gotF
  rw [if_pos h1, e, g1]
theorem errF_full {s : StV} (h : s.Right) : errF (fullB s) = 0 := by unfold errF; rw [if_pos (okF_full h).1]
theorem okD_delta {s : DltV} (h : s.Right) (hb : s.bytes.length ≤ 16384) : okD (deltaB s) ∧ gotDl (deltaB s) = s := by
  have e : sndB (deltaB s) = s.bytes := sndB_two _ _ (headIn_le _ _ _) hb
  obtain ⟨g1, g2⟩ := gotD_bytes h
  have h1 : okD (deltaB s) := by
    unfold okD
    rw [e, g1]
    exact ⟨g2, rfl⟩
  refine ⟨h1, ?_⟩
  unfold gotDl
  rw [if_pos h1, e, g1]
theorem errD_delta {s : DltV} (h : s.Right) (hb : s.bytes.length ≤ 16384) : errD (deltaB s) = 0 := by unfold errD; rw [if_pos (okD_delta h hb).1]
theorem gotF_right (l : List UInt8) : (gotF l).Right := by
  unfold gotF
  split
  · exact gotS_right _
  · exact noState_right
theorem gotDl_right (l : List UInt8) : (gotDl l).Right := by
  unfold gotDl
  split
  · exact gotD_right _
  · exact noDelta_right
/-- What is read is a right one, of which these are the bytes. -/
theorem errF_zero {l : List UInt8} (h : errF l = 0) : fullB (gotF l) = l := by
  unfold errF at h
  unfold gotF
  split at h
  · rename_i h1
    rw [if_pos h1]
    exact h1.2
  · cases h
theorem errD_zero {l : List UInt8} (h : errD l = 0) : deltaB (gotDl l) = l ∧ (gotDl l).bytes.length ≤ 16384 := by
  unfold errD at h
  unfold gotDl
  split at h
  · rename_i h1
    rw [if_pos h1]
    refine ⟨h1.2, ?_⟩
    rw [(gotDT_true h1.1).2]
    exact sndB_fits l
  · cases h
theorem errF_cases (l : List UInt8) : errF l = 0 ∨ errF l = 10 := by unfold errF; split <;> simp
theorem errD_cases (l : List UInt8) : errD l = 0 ∨ errD l = 10 := by unfold errD; split <;> simp
theorem gotD_fits (l : List UInt8) : (gotD (sndB l)).bytes.length ≤ 16384 := by
  by_cases h : gotDT (sndB l) = true
  · rw [(gotDT_true h).2]; exact sndB_fits l
  · rw [gotDT_false (by simpa using h), DltV.bytes_length]
    decide
theorem gotDl_fits (l : List UInt8) : (gotDl l).bytes.length ≤ 16384 := by
  unfold gotDl
  split
  · exact gotD_fits l
  · rw [DltV.bytes_length]
    decide

/-- Where the first frame is none, or the second, there is no file. -/
theorem snd_nil_bad {l : List UInt8} (h : sndB l = []) : errF l = 10 ∧ gotF l = noState ∧ errD l = 10 := by
  have h1 : ¬ okF l := by
    intro ⟨h1, _⟩
    rw [h] at h1
    have := gotT_true h1
    have e := this.2
    have e2 := congrArg List.length e
    rw [StV.bytes_length] at e2
    simp at e2
  have h2 : ¬ okD l := by
    intro ⟨h1, _⟩
    rw [h] at h1
    have := gotDT_true h1
    have e := this.2
    have e2 := congrArg List.length e
    rw [DltV.bytes_length] at e2
    simp at e2
  unfold errF gotF errD
  rw [if_neg h1, if_neg h1, if_neg h2]
  exact ⟨rfl, rfl, rfl⟩
theorem snd_first {l : List UInt8} (h : (rd l).2.2 ≠ 0) : sndB l = [] := by unfold sndB; rw [if_neg h]
theorem snd_second {l m : List UInt8} (hl : l.length ≤ 16384) (h : (rd m).2.2 ≠ 0) : sndB (frm l ++ m) = [] := by
  have e := rd_frm l m hl
  unfold sndB
  rw [e]
  simp only [if_true]
  rw [show l.length + 9 = (frm l).length from (frm_length l).symm, List.drop_left' rfl]
  exact (rd_none h).1
end Go.Proofs.YthmjjhjblokjeaaGreat
