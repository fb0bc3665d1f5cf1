/-
  What ReadPart tells, in plain words. No statement is proved here.
-/
import Derived.Test.YthmjjhjblokjeaaGreatImg
import Derived.Test.YthmjjhjblokjeaaGreatFrmK
import Derived.Test.YthmjjhjblokjeaaGreatCmdK
namespace Go.Proofs.YthmjjhjblokjeaaGreat
open Go.RowKit Tot

theorem rowB_right {es : List EntryV} {i t : Int} (h : rowB es i t = true) : ∀ e ∈ es, e.Right := by
  induction es generalizing i t with
  | nil => intro e he; cases he
  | cons x r ih =>
    rw [rowB_cons, Bool.and_eq_true] at h
    intro e he
    rcases List.mem_cons.1 he with rfl | he
    · exact (of_decide_eq_true h.1).1
    · exact ih h.2 e he
theorem right_short {e : EntryV} (h : e.Right) : e.bytes.length ≤ 97 := by
  rw [EntryV.bytes_length]
  have := h.bounds
  omega
theorem bytes_long (e : EntryV) : 57 ≤ e.bytes.length := by rw [EntryV.bytes_length]; omega
theorem gotE_some {l : List UInt8} {e : EntryV} (h : entryOf l = some e) : gotE l = e ∧ gotB l = true := by unfold gotE gotB; rw [h]; exact ⟨rfl, rfl⟩
theorem gotE_none {l : List UInt8} (h : entryOf l = none) : gotE l = noEntry ∧ gotB l = false := by unfold gotE gotB; rw [h]; exact ⟨rfl, rfl⟩
theorem bytes_map_inj {a b : List EntryV} (ha : ∀ e ∈ a, e.Right) (hb : ∀ e ∈ b, e.Right) (h : a.map EntryV.bytes = b.map EntryV.bytes) : a = b := by
  induction a generalizing b with
  | nil =>
    cases b with
    | nil => rfl
    | cons y q => simp at h
  | cons x r ih =>
    cases b with
    | nil => simp at h
    | cons y q =>
      simp only [List.map_cons, List.cons.injEq] at h
      rw [bytes_inj (ha x (by simp)) (hb y (by simp)) h.1, ih (fun e he => ha e (by simp [he])) (fun e he => hb e (by simp [he])) h.2]

/-- The entries es stand in a file of entries, behind an index, as far as frames are whole. -/
def PartOk (l : List UInt8) (f : Int) (es : List EntryV) : Prop := rowB es (f + 1) 0 = true ∧ ∃ t, l = fileB f es ++ t ∧ (rd t).2.2 ≠ 0
theorem PartOk.parted {l : List UInt8} {f : Int} {es : List EntryV} (h : PartOk l f es) : l.take 26 = partB f ∧ ∃ t, Parted (l.drop 26) (es.map EntryV.bytes) t ∧ (rd t).2.2 ≠ 0 := by
  obtain ⟨h1, t, h2, h3⟩ := h
  have e : l = partB f ++ (entsB es ++ t) := by rw [h2]; unfold fileB; rw [List.append_assoc]
  refine ⟨by rw [e, ← partB_length f]; exact List.take_left' rfl, t, ⟨?_, ?_⟩, h3⟩
  · rw [e, ← partB_length f, List.drop_left' rfl, entsB_joined]
  · intro r hr
    obtain ⟨x, hx, rfl⟩ := List.mem_map.1 hr
    have := right_short (rowB_right h1 x hx)
    omega
theorem parted_same {b : List UInt8} {rs rs' : List (List UInt8)} {t t' : List UInt8} (h : Parted b rs t) (ht : (rd t).2.2 ≠ 0) (h' : Parted b rs' t') (ht' : (rd t').2.2 ≠ 0) : rs = rs' := by
  obtain ⟨m, e1, _⟩ := Parted.first ht h h'
  obtain ⟨m', e1', _⟩ := Parted.first ht' h' h
  have l1 := congrArg List.length e1
  have l2 := congrArg List.length e1'
  rw [List.length_append] at l1 l2
  obtain rfl : m = [] := List.eq_nil_of_length_eq_zero (by omega)
  rw [e1, List.append_nil]
theorem PartOk.unique {l : List UInt8} {f : Int} {es xs : List EntryV} (h : PartOk l f es) (h' : PartOk l f xs) : es = xs := by
  obtain ⟨_, t, p, q⟩ := h.parted
  obtain ⟨_, t', p', q'⟩ := h'.parted
  exact bytes_map_inj (rowB_right h.1) (rowB_right h'.1) (parted_same p q p' q')
theorem part_bad_head {l : List UInt8} {f : Int} (h : l.take 26 ≠ partB f) : ∀ xs, ¬ PartOk l f xs := fun _ hx => h hx.parted.1
theorem part_bad_entry {l : List UInt8} {f : Int} {rs : List (List UInt8)} {t : List UInt8} (h : Parted (l.drop 26) rs t) {r : List UInt8} (hr : r ∈ rs) (hn : entryOf r = none) : ∀ xs, ¬ PartOk l f xs := fun xs hx => by
  obtain ⟨_, t', p', q'⟩ := hx.parted
  obtain ⟨m, e, _⟩ := Parted.first q' p' h
  have hm : r ∈ xs.map EntryV.bytes := by rw [e]; simp [hr]
  obtain ⟨x, hx2, rfl⟩ := List.mem_map.1 hm
  rw [entryOf_bytes (rowB_right hx.1 x hx2)] at hn
  cases hn
theorem part_bad_row {l : List UInt8} {f : Int} {es : List EntryV} {t : List UInt8} (h : Parted (l.drop 26) (es.map EntryV.bytes) t) (ht : (rd t).2.2 ≠ 0) (hr : ∀ e ∈ es, e.Right) (hn : rowB es (f + 1) 0 = false) : ∀ xs, ¬ PartOk l f xs := fun xs hx => by
  obtain ⟨_, t', p', q'⟩ := hx.parted
  have e := bytes_map_inj hr (rowB_right hx.1) (parted_same h ht p' q')
  subst e
  rw [hx.1] at hn
  cases hn
theorem part_ok {l : List UInt8} {f : Int} {es : List EntryV} {t : List UInt8} (hp : l.take 26 = partB f) (h : Parted (l.drop 26) (es.map EntryV.bytes) t) (ht : (rd t).2.2 ≠ 0) (hn : rowB es (f + 1) 0 = true) : PartOk l f es := by
  refine ⟨hn, t, ?_, ht⟩
  unfold fileB
  rw [List.append_assoc, entsB_joined, ← h.is, ← hp, List.take_append_drop]
/-- A frame of which a byte behind its number is other is none, whatever stands behind it. -/
theorem flip_tail (l t : List UInt8) (hl : l.length ≤ 16384) (k : Nat) (x y : UInt8) (hx : (frm l)[4 + k]? = some x) (hy : y ≠ 0) : (rd ((frm l).set (4 + k) (x ^^^ y) ++ t)).2.2 ≠ 0 := by
  intro h
  obtain ⟨hk, _⟩ := List.getElem?_eq_some_iff.1 hx
  rw [frm_length] at hk
  obtain ⟨h1, h2, h3⟩ := rd_ok h
  obtain ⟨r, hr⟩ : ∃ r, r = (rd ((frm l).set (4 + k) (x ^^^ y) ++ t)).1 := ⟨_, rfl⟩
  rw [← hr] at h1 h3
  have e4 : be4 r.length = be4 l.length := by
    have e := congrArg (List.take 4) h3
    rw [List.take_append_of_le_length (by rw [List.length_set, frm_length]; omega), List.take_set_of_le (by omega), List.take_append_of_le_length (by rw [frm_length]; omega)] at e
    have f : ∀ m : List UInt8, (frm m).take 4 = be4 m.length := fun m => by unfold frm; exact List.take_left' (be4_length _)
    rw [f, f] at e
    exact e.symm
  have el : r.length = l.length := be4_inj (by omega) (by omega) e4
  have e5 := (List.append_inj h3 (by rw [List.length_set, frm_length, frm_length, el])).1
  have e6 := rd_frm r [] h1
  rw [List.append_nil, ← e5] at e6
  exact hy ((flip_seen l hl k x y hx).1 (by rw [e6]))
/-- A file of a state of which a byte is other, behind a frame's number. -/
theorem full_flip {s : StV} (hs : s.Right) (k : Nat) (x y : UInt8) (hx : (fullB s)[k]? = some x) (hk : 4 ≤ k ∧ k < 26 ∨ 30 ≤ k) (hy : y ≠ 0) : errF ((fullB s).set k (x ^^^ y)) = 10 ∧ gotF ((fullB s).set k (x ^^^ y)) = noState := by
  have hb : sndB ((fullB s).set k (x ^^^ y)) = [] := by
    unfold fullB at hx ⊢
    have hh := headB_length 0 s.index s.index
    by_cases h26 : k < 26
    · obtain ⟨j, rfl⟩ : ∃ j, k = 4 + j := ⟨k - 4, by omega⟩
      rw [List.getElem?_append_left (by omega)] at hx
      rw [List.set_append_left _ _ (by omega)]
      exact snd_first (flip_tail _ _ (headIn_le _ _ _) j x y hx hy)
    · obtain ⟨j, rfl⟩ : ∃ j, k = 26 + (4 + j) := ⟨k - 30, by omega⟩
      rw [List.getElem?_append_right (by omega), hh, Nat.add_sub_cancel_left] at hx
      rw [List.set_append_right _ _ (by omega), hh, Nat.add_sub_cancel_left]
      exact snd_second (headIn_le _ _ _) (fun h => hy ((flip_seen _ (right_fits hs) j x y hx).1 h))
  exact ⟨(snd_nil_bad hb).1, (snd_nil_bad hb).2.1⟩
/-- Rows of at least 57 bytes. -/
theorem joined_long {rs : List (List UInt8)} (h : ∀ r ∈ rs, 57 ≤ r.length) : 66 * rs.length ≤ (joined rs).length := by
  induction rs with
  | nil => simp
  | cons r q ih =>
    have h1 := ih (fun x hx => h x (by simp [hx]))
    have h2 := h r (by simp)
    rw [joined_cons, List.length_append, frm_length, List.length_cons]
    omega
end Go.Proofs.YthmjjhjblokjeaaGreat
