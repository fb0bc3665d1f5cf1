/-
  Pairs of keys that are reckoned: plain mathematics; one pair that is laid behind others. No statement is proved here.
-/
import Derived.Test.YtfcpofobdlgbbaaL8Use
import Derived.Test.YtfcpofobdlgbbaaStpK
namespace Go.Proofs.Ytfcpofobdlgbbaa
open Go.RowKit Tot

/-- Keys by their number, without values. -/
def keyP (f : Nat → ByteArray) (k : Nat) : ByteArray × (ByteArray × Bool) := (f k, (noText, false))
def keysOf (f : Nat → ByteArray) (n : Nat) : Prs := (List.range n).map (keyP f)
theorem keysOf_len (f : Nat → ByteArray) (n : Nat) : (keysOf f n).length = n := by simp [keysOf]
theorem keysOf_succ (f : Nat → ByteArray) (n : Nat) : keysOf f (n + 1) = keysOf f n ++ [keyP f n] := by simp [keysOf, List.range_succ]
theorem keysOf_mem {f : Nat → ByteArray} {n : Nat} {p : ByteArray × (ByteArray × Bool)} (h : p ∈ keysOf f n) : ∃ k, k < n ∧ p = keyP f k := by
  obtain ⟨k, hk, rfl⟩ := List.mem_map.1 h
  exact ⟨k, List.mem_range.1 hk, rfl⟩
theorem keysOf_up {f : Nat → ByteArray} {n : Nat} (h : ∀ i j, i < j → j < n → lt (f i) (f j) = true) : Srt.Up (keysOf f n) := by
  unfold Srt.Up keysOf
  rw [List.pairwise_map]
  refine (List.pairwise_lt_range (n := n)).imp_of_mem fun {a b} ha hb hab => ?_
  exact h a b hab (List.mem_range.1 hb)
theorem keysOf_ok {f : Nat → ByteArray} {n : Nat} (h : ∀ i j, i < j → j < n → lt (f i) (f j) = true) (hs : ∀ i, i < n → 1 ≤ (f i).size ∧ (f i).size ≤ 8) : PairsOk (keysOf f n) :=
  ⟨keysOf_up h, fun p hp => by
    obtain ⟨k, hk, rfl⟩ := keysOf_mem hp
    exact ⟨(hs k hk).1, (hs k hk).2, by show (0 : Nat) ≤ 16; omega, fun h => by cases h⟩⟩
theorem keysOf_here (f : Nat → ByteArray) (n : Nat) : Here (keysOf f n) := fun p hp => by
  obtain ⟨k, _, rfl⟩ := keysOf_mem hp
  rfl
/-- Rows of which all of the first is ahead of the second. -/
theorem mrg_apart {S D : Prs} (hS : Srt.Up S) (hD : Srt.Up D) (h : ∀ p ∈ S, ∀ q ∈ D, lt p.1 q.1 = true) : Srt.mrg S D = S ++ D := by
  refine Srt.up_ext (Srt.up_mrg hS hD) (Srt.Up.append.2 ⟨hS, hD, h⟩) fun x => ?_
  rw [Srt.mem_mrg hS hD, List.mem_append]
  constructor
  · rintro (h1 | h1)
    · exact .inr h1
    · exact .inl h1.1
  · rintro (h1 | h1)
    · refine .inr ⟨h1, ?_⟩
      cases hl : Srt.look D x.1 with
      | none => rfl
      | some v =>
        have := h x h1 _ (Srt.mem_of_look hl)
        rw [Tot.irr] at this
        cases this
    · exact .inl h1
theorem do_apart {S D : Prs} (hS : Srt.Up S) (hD : Srt.Up D) (h : ∀ p ∈ S, ∀ q ∈ D, lt p.1 q.1 = true) (gS : Here S) (gD : Here D) : doP S D = S ++ D := by
  unfold doP
  rw [mrg_apart hS hD h, List.filter_eq_self]
  intro p hp
  rcases List.mem_append.1 hp with h1 | h1
  · simp [gS p h1]
  · simp [gD p h1]
/-- Texts in order. -/
theorem lt_str (l m : List UInt8) : lt (str l) (str m) = Op.bytesLess l m := by
  show Op.bytesLess (str l).toList (str m).toList = _
  rw [str_toList, str_toList]
def key2 (x : UInt8) (c : Nat) (k : Nat) : ByteArray := str [x, UInt8.ofNat (k + c)]
theorem byte_lt {a b : Nat} (ha : a < b) (hb : b < 256) : decide (UInt8.ofNat a < UInt8.ofNat b) = true := by
  refine decide_eq_true ?_
  rw [UInt8.lt_iff_toNat_lt]
  simp
  omega
theorem key2_lt {x : UInt8} {c i j : Nat} (h : i < j) (hj : j + c < 256) : lt (key2 x c i) (key2 x c j) = true := by
  unfold key2
  rw [lt_str]
  simp only [Op.bytesLess, beq_self_eq_true, Bool.true_and, Bool.and_false, Bool.or_false]
  rw [byte_lt (a := i + c) (b := j + c) (by omega) hj]
  simp
theorem key2_size (x : UInt8) (c k : Nat) : (key2 x c k).size = 2 := by unfold key2; rw [str_size]; rfl
theorem key2_apart (c e i j : Nat) : lt (key2 97 c i) (key2 98 e j) = true := by
  unfold key2
  rw [lt_str]
  simp [Op.bytesLess]
def key3 (k : Nat) : ByteArray := str [97, UInt8.ofNat (k / 250), UInt8.ofNat (1 + k % 250)]
theorem key3_lt {i j : Nat} (h : i < j) (hj : j < 500) : lt (key3 i) (key3 j) = true := by
  unfold key3
  rw [lt_str]
  simp only [Op.bytesLess, beq_self_eq_true, Bool.true_and, Bool.and_false, Bool.or_false]
  by_cases hq : i / 250 < j / 250
  · rw [byte_lt (a := i / 250) (b := j / 250) hq (by omega)]
    simp
  · have hq' : i / 250 = j / 250 := by omega
    rw [hq', byte_lt (a := 1 + i % 250) (b := 1 + j % 250) (by omega) (by omega)]
    simp
theorem key3_size (k : Nat) : (key3 k).size = 3 := by unfold key3; rw [str_size]; rfl
theorem key3_apart (e i j : Nat) : lt (key3 i) (key2 98 e j) = true := by
  unfold key3 key2
  rw [lt_str]
  simp [Op.bytesLess]
/-- One pair as what is appended. -/
theorem src_pair (p : ByteArray × (ByteArray × Bool)) {w : World} {B c : Nat} {t : TypeId} {fr : Nat × Nat} (hb : w.heap[B]? = some (.cells (PR.enc p).toArray t fr)) : Src Try.prog 3 24 (.slice (some ⟨B, 0, none⟩) 1 c) 1 (PR.cells [p]) w := by
  have he : PR.cells [p] = PR.enc p := flat_one p
  refine Src.ofSlice w Try.underlying24 _ _ _ _ (by rw [he]; rfl) ?_ (PR.cells_one _)
  rw [he]
  intro j u hu
  exact World.news_of_block hb j u (by simpa using hu)
end Go.Proofs.Ytfcpofobdlgbbaa
