/-
  Several texts, one behind the other. No statement is proved here.
-/
import Derived.Laws.Strings
import Derived.Test.YtjijdkdpmbfdmaaPackK
/-
  Bytes as a text. No statement is proved here.
-/
namespace Go.Proofs.Ytjijdkdpmbfdmaa

/-- Bytes as a string. -/
def str (l : List UInt8) : ByteArray := ⟨l.toArray⟩
theorem str_eq (l m : List UInt8) : str l = str m ↔ l = m := by
  unfold str
  constructor
  · intro h
    have := congrArg (fun b : ByteArray => b.data.toList) h
    simpa using this
  · rintro rfl
    rfl
theorem str_append (l m : List UInt8) : str l ++ str m = str (l ++ m) := by unfold str; apply ByteArray.ext; simp
theorem str_size (l : List UInt8) : (str l).size = l.length := by simp [str, ByteArray.size]
theorem str_of (s : ByteArray) : str s.data.toList = s := by unfold str; apply ByteArray.ext; simp
theorem str_toList (l : List UInt8) : (str l).toList = l := by unfold str; simp
end Go.Proofs.Ytjijdkdpmbfdmaa

/-
  Commands and entries in plain words, their bytes, and what is read of bytes: plain mathematics. No statement is proved here.
-/
namespace Go.Proofs.Ytjijdkdpmbfdmaa
open Go.RowKit

/-- A command. -/
structure CmdV where
  op : Int
  client : Int
  seq : Int
  key : ByteArray
  value : ByteArray
  old : ByteArray
/-- An entry. -/
structure EntryV where
  index : Int
  term : Int
  cmd : CmdV
def CmdV.cells (c : CmdV) : List Value := [.int .i64 c.op, .int .i64 c.client, .int .i64 c.seq, .string c.key, .string c.value, .string c.old]
def CmdV.val (c : CmdV) : Value := .agg #[.int .i64 c.op, .int .i64 c.client, .int .i64 c.seq, .string c.key, .string c.value, .string c.old]
def EntryV.cells (e : EntryV) : List Value := [.int .i64 e.index, .int .i64 e.term, .int .i64 e.cmd.op, .int .i64 e.cmd.client, .int .i64 e.cmd.seq, .string e.cmd.key, .string e.cmd.value, .string e.cmd.old]
def EntryV.val (e : EntryV) : Value := .agg #[.int .i64 e.index, .int .i64 e.term, .int .i64 e.cmd.op, .int .i64 e.cmd.client, .int .i64 e.cmd.seq, .string e.cmd.key, .string e.cmd.value, .string e.cmd.old]
/-- No command, no entry. -/
def noCmd : CmdV := ⟨0, 0, 0, ⟨#[]⟩, ⟨#[]⟩, ⟨#[]⟩⟩
def noEntry : EntryV := ⟨0, 0, noCmd⟩

/-- Which commands may be. -/
def CmdV.May (c : CmdV) : Prop :=
  (c.op = 0 ∧ c.client = 0 ∧ c.seq = 0 ∧ c.key.size = 0 ∧ c.value.size = 0 ∧ c.old.size = 0) ∨
  (1 ≤ c.op ∧ c.op ≤ 3 ∧ 0 ≤ c.client ∧ c.client ≤ 3 ∧ 0 ≤ c.seq ∧ c.seq ≤ 1048576 ∧ 1 ≤ c.key.size ∧ c.key.size ≤ 8 ∧ c.value.size ≤ 16 ∧ c.old.size ≤ 16)
instance (c : CmdV) : Decidable c.May := by unfold CmdV.May; infer_instance
/-- Which entries may be. -/
def EntryV.Right (e : EntryV) : Prop := 1 ≤ e.index ∧ e.index ≤ 1048576 ∧ 0 ≤ e.term ∧ e.term ≤ 1048576 ∧ e.cmd.May
instance (e : EntryV) : Decidable e.Right := by unfold EntryV.Right; infer_instance

theorem size_zero {s : ByteArray} (h : s.size = 0) : s = ⟨#[]⟩ := by
  apply ByteArray.ext
  exact Array.eq_empty_of_size_eq_zero h

theorem toList_inj (a b : ByteArray) : a.toList = b.toList ↔ a = b := by
  rw [ByteArray.toList_eq, ByteArray.toList_eq]
  constructor
  · intro h
    apply ByteArray.ext
    exact Array.toList_inj.1 h
  · rintro rfl; rfl

/-- Two commands compared part by part. -/
def CmdV.same (c d : CmdV) : Bool := c.op == d.op && (c.client == d.client && (c.seq == d.seq && (c.key.toList == d.key.toList && (c.value.toList == d.value.toList && c.old.toList == d.old.toList))))
theorem CmdV.same_iff (c d : CmdV) : c.same d = true ↔ c = d := by
  obtain ⟨a1, a2, a3, a4, a5, a6⟩ := c
  obtain ⟨b1, b2, b3, b4, b5, b6⟩ := d
  simp only [CmdV.same, Bool.and_eq_true, toList_inj, CmdV.mk.injEq, beq_iff_eq]
def EntryV.same (x y : EntryV) : Bool := x.index == y.index && (x.term == y.term && x.cmd.same y.cmd)
theorem EntryV.same_iff (x y : EntryV) : x.same y = true ↔ x = y := by
  obtain ⟨a1, a2, a3⟩ := x
  obtain ⟨b1, b2, b3⟩ := y
  simp only [EntryV.same, Bool.and_eq_true, CmdV.same_iff, EntryV.mk.injEq, beq_iff_eq]
theorem EntryV.same_self (x : EntryV) : x.same x = true := (EntryV.same_iff x x).2 rfl
theorem EntryV.same_ne {x y : EntryV} (h : x ≠ y) : x.same y = false := by
  cases h1 : x.same y
  · rfl
  · exact absurd ((EntryV.same_iff x y).1 h1) h

/-- The lowest byte of a number. -/
def low (n : Int) : UInt8 := UInt8.ofNat (n % 256).toNat
theorem low_eq (n : Int) : n % 256 = ((low n).toNat : Int) := by
  unfold low
  have h2 : (UInt8.ofNat (n % 256).toNat).toNat = (n % 256).toNat % 256 := by simp
  rw [h2]
  omega
/-- The bytes of a text. -/
def tx (s : ByteArray) : List UInt8 := be8 s.size ++ s.data.toList
theorem data_length (s : ByteArray) : s.data.toList.length = s.size := by rw [Array.length_toList]; rfl
theorem tx_length (s : ByteArray) : (tx s).length = s.size + 8 := by
  unfold tx
  rw [List.length_append, be8_length, data_length]
  omega
/-- The bytes of an entry. -/
def EntryV.bytes (e : EntryV) : List UInt8 := be8 e.index ++ (be8 e.term ++ ([low e.cmd.op] ++ (be8 e.cmd.client ++ (be8 e.cmd.seq ++ (tx e.cmd.key ++ (tx e.cmd.value ++ tx e.cmd.old))))))
theorem EntryV.bytes_length (e : EntryV) : e.bytes.length = 57 + e.cmd.key.size + e.cmd.value.size + e.cmd.old.size := by
  unfold EntryV.bytes
  simp only [List.length_append, be8_length, tx_length, List.length_singleton]
  omega

theorem rdU_inj (l m : List UInt8) (h : l.length = m.length) (e : rdU l = rdU m) : l = m := by
  induction l using rev_ind generalizing m with
  | h0 => cases m with
    | nil => rfl
    | cons _ _ => simp at h
  | h1 l c ih =>
    have hm : m ≠ [] := by rintro rfl; simp at h
    have hs := List.dropLast_concat_getLast hm
    generalize m.dropLast = m' at hs
    generalize m.getLast hm = d at hs
    subst hs
    rw [rdU_snoc, rdU_snoc] at e
    have hc := c.toNat_lt
    have hd := d.toNat_lt
    have h1 := ih m' (by simpa using h) (by omega)
    have h2 : c = d := UInt8.toNat_inj.1 (by omega)
    rw [h1, h2]
theorem be8_rdN (x : List UInt8) (hx : x.length = 8) : be8 (rdN x) = x := by
  refine rdU_inj _ _ (by rw [be8_length, hx]) ?_
  rw [rdU_be8]
  have h1 := rdU_lt x
  rw [hx] at h1
  have h2 : (256 : Nat) ^ 8 = 18446744073709551616 := by decide
  have h : ∀ n, IntKind.u64.wrap n = n % 18446744073709551616 := by intro n; simp [IntKind.wrap, IntKind.signed, IntKind.bits]
  rw [h]
  unfold rdN wrap64
  omega

theorem rNum_inv {l r : List UInt8} {bad : Bool} {n : Int} (h : rNum l bad = (n, r, false)) : bad = false ∧ l = be8 n ++ r := by
  unfold rNum at h
  split at h
  · simp at h
  · rename_i hc
    simp only [Prod.mk.injEq, and_true] at h
    obtain ⟨rfl, rfl⟩ := h
    refine ⟨by cases bad; rfl; exact absurd (.inl rfl) hc, ?_⟩
    rw [be8_rdN _ (by rw [List.length_take]; omega), List.take_append_drop]
theorem rByte_inv {l r : List UInt8} {bad : Bool} {x : UInt8} (h : rByte l bad = (x, r, false)) : bad = false ∧ l = [x] ++ r := by
  unfold rByte at h
  split at h
  · simp at h
  · rename_i hc
    simp only [Prod.mk.injEq, and_true] at h
    obtain ⟨rfl, rfl⟩ := h
    refine ⟨by cases bad; rfl; exact absurd (.inl rfl) hc, ?_⟩
    cases l with
    | nil => simp at hc
    | cons a l => rfl
theorem rText_inv {l s r : List UInt8} {bad : Bool} (h : rText l bad = (s, r, false)) : bad = false ∧ l = tx (str s) ++ r := by
  obtain ⟨⟨n, l', b'⟩, hq⟩ : ∃ q, rNum l bad = q := ⟨_, rfl⟩
  unfold rText at h
  rw [hq] at h
  simp only at h
  split at h
  · simp at h
  · rename_i hc
    simp only [Prod.mk.injEq, and_true] at h
    obtain ⟨rfl, rfl⟩ := h
    obtain rfl : b' = false := by cases b'; rfl; exact absurd (.inl rfl) hc
    obtain ⟨rfl, rfl⟩ := rNum_inv hq
    refine ⟨rfl, ?_⟩
    obtain ⟨m, rfl⟩ : ∃ m : Nat, n = m := Int.eq_ofNat_of_zero_le (by omega)
    unfold tx
    have e1 : (str (l'.take (m : Int).toNat)).size = m := by rw [str_size, List.length_take]; omega
    have e2 : (str (l'.take (m : Int).toNat)).data.toList = l'.take (m : Int).toNat := by simp [str]
    rw [e1, e2, List.append_assoc, List.take_append_drop]
theorem rText_tx (s : ByteArray) (r : List UInt8) (hs : s.size ≤ 9223372036854775807) : rText (tx s ++ r) false = (s.data.toList, r, false) := by
  unfold rText tx
  rw [List.append_assoc, rNum_be8 _ _ (by omega) (by omega)]
  have hl := data_length s
  have e1 : ((s.size : Int)).toNat = s.data.toList.length := by omega
  rw [if_neg (by simp [hl]; omega), e1]
  simp
theorem rByte_one (x : UInt8) (r : List UInt8) : rByte ([x] ++ r) false = (x, r, false) := by unfold rByte; simp

/-- All that is read of bytes, one behind the other. -/
def readAll (l : List UInt8) : EntryV × List UInt8 × Bool :=
  let q1 := rNum l false
  let q2 := rNum q1.2.1 q1.2.2
  let q3 := rByte q2.2.1 q2.2.2
  let q4 := rNum q3.2.1 q3.2.2
  let q5 := rNum q4.2.1 q4.2.2
  let q6 := rText q5.2.1 q5.2.2
  let q7 := rText q6.2.1 q6.2.2
  let q8 := rText q7.2.1 q7.2.2
  (⟨q1.1, q2.1, ⟨(q3.1.toNat : Int), q4.1, q5.1, ⟨q6.1.toArray⟩, ⟨q7.1.toArray⟩, ⟨q8.1.toArray⟩⟩⟩, q8.2.1, q8.2.2)
/-- The entry of bytes, if they are one's that may be. -/
def entryOf (l : List UInt8) : Option EntryV := if (readAll l).2.2 = false ∧ (readAll l).2.1 = [] ∧ (readAll l).1.Right then some (readAll l).1 else none

theorem entryOf_some {l : List UInt8} {e : EntryV} (h : entryOf l = some e) : e.Right ∧ e.bytes = l := by
  unfold entryOf at h
  split at h
  · rename_i hc
    obtain ⟨h1, h2, h3⟩ := hc
    injection h with h
    subst h
    refine ⟨h3, ?_⟩
    revert h1 h2 h3
    unfold readAll
    simp only
    generalize hq1 : rNum l false = q1
    obtain ⟨n1, l1, b1⟩ := q1
    generalize hq2 : rNum l1 b1 = q2
    obtain ⟨n2, l2, b2⟩ := q2
    generalize hq3 : rByte l2 b2 = q3
    obtain ⟨n3, l3, b3⟩ := q3
    generalize hq4 : rNum l3 b3 = q4
    obtain ⟨n4, l4, b4⟩ := q4
    generalize hq5 : rNum l4 b4 = q5
    obtain ⟨n5, l5, b5⟩ := q5
    generalize hq6 : rText l5 b5 = q6
    obtain ⟨n6, l6, b6⟩ := q6
    generalize hq7 : rText l6 b6 = q7
    obtain ⟨n7, l7, b7⟩ := q7
    generalize hq8 : rText l7 b7 = q8
    obtain ⟨n8, l8, b8⟩ := q8
    rintro rfl rfl h3
    obtain ⟨rfl, rfl⟩ := rText_inv hq8
    obtain ⟨rfl, rfl⟩ := rText_inv hq7
    obtain ⟨rfl, rfl⟩ := rText_inv hq6
    obtain ⟨rfl, rfl⟩ := rNum_inv hq5
    obtain ⟨rfl, rfl⟩ := rNum_inv hq4
    obtain ⟨rfl, rfl⟩ := rByte_inv hq3
    obtain ⟨rfl, rfl⟩ := rNum_inv hq2
    obtain ⟨_, rfl⟩ := rNum_inv hq1
    have hl : low (n3.toNat : Int) = n3 := by
      unfold low
      have := n3.toNat_lt
      apply UInt8.toNat_inj.1
      have h2 : (UInt8.ofNat ((n3.toNat : Int) % 256).toNat).toNat = ((n3.toNat : Int) % 256).toNat % 256 := by simp
      rw [h2]
      omega
    unfold EntryV.bytes str
    rw [hl, List.append_nil]
  · cases h

theorem EntryV.Right.bounds {e : EntryV} (h : e.Right) : (0 ≤ e.cmd.op ∧ e.cmd.op ≤ 3) ∧ (0 ≤ e.cmd.client ∧ e.cmd.client ≤ 3) ∧ (0 ≤ e.cmd.seq ∧ e.cmd.seq ≤ 1048576) ∧ e.cmd.key.size ≤ 8 ∧ e.cmd.value.size ≤ 16 ∧ e.cmd.old.size ≤ 16 := by
  obtain ⟨_, _, _, _, hm⟩ := h
  unfold CmdV.May at hm
  omega
theorem mk_toList (s : ByteArray) : ByteArray.mk s.data.toList.toArray = s := by simp
theorem readAll_bytes {e : EntryV} (h : e.Right) : readAll e.bytes = (e, [], false) := by
  have hb := h.bounds
  obtain ⟨h1, h2, h3, h4, _⟩ := h
  have hl : ((low e.cmd.op).toNat : Int) = e.cmd.op := by rw [← low_eq]; omega
  unfold readAll EntryV.bytes
  rw [rNum_be8 _ _ (by omega) (by omega)]
  simp only
  rw [rNum_be8 _ _ (by omega) (by omega)]
  simp only
  rw [rByte_one]
  simp only
  rw [rNum_be8 _ _ (by omega) (by omega)]
  simp only
  rw [rNum_be8 _ _ (by omega) (by omega)]
  simp only
  rw [rText_tx _ _ (by omega)]
  simp only
  rw [rText_tx _ _ (by omega)]
  simp only
  have e8 := rText_tx e.cmd.old [] (by omega)
  rw [List.append_nil] at e8
  rw [e8]
  simp only [hl, mk_toList]
theorem entryOf_bytes {e : EntryV} (h : e.Right) : entryOf e.bytes = some e := by
  unfold entryOf
  rw [readAll_bytes h, if_pos ⟨rfl, rfl, h⟩]
theorem bytes_inj {x y : EntryV} (hx : x.Right) (hy : y.Right) (h : x.bytes = y.bytes) : x = y := by
  have h1 := entryOf_bytes hx
  rw [h, entryOf_bytes hy] at h1
  injection h1 with h1
  exact h1.symm

end Go.Proofs.Ytjijdkdpmbfdmaa

/-
  Rows of entries, as cells. No statement is proved here.
-/
namespace Go.Proofs.Ytjijdkdpmbfdmaa
open Go.RowKit

/-- The cells of entries, one behind the other. -/
def entCells (es : List EntryV) : List Value := es.flatMap EntryV.cells
theorem entCells_cons (e : EntryV) (r : List EntryV) : entCells (e :: r) = e.cells ++ entCells r := by simp [entCells]
theorem entCells_append (a b : List EntryV) : entCells (a ++ b) = entCells a ++ entCells b := by simp [entCells]
theorem ecells_length (e : EntryV) : e.cells.length = 8 := rfl
theorem entCells_length (es : List EntryV) : (entCells es).length = es.length * 8 := by
  induction es with
  | nil => rfl
  | cons e r ih => rw [entCells_cons, List.length_append, ih, ecells_length, List.length_cons]; omega
theorem entCells_at : ∀ (es : List EntryV) (k j : Nat) (e : EntryV) (v : Value), es[k]? = some e → e.cells[j]? = some v → (entCells es)[k * 8 + j]? = some v
  | [], k, j, e, v, h, _ => by simp at h
  | q :: r, 0, j, e, v, h, hv => by
    obtain rfl : q = e := by simpa using h
    have hj : j < q.cells.length := (List.getElem?_eq_some_iff.1 hv).1
    rw [entCells_cons, Nat.zero_mul, Nat.zero_add, List.getElem?_append_left hj]
    exact hv
  | q :: r, k + 1, j, e, v, h, hv => by
    have ih := entCells_at r k j e v (by simpa using h) hv
    rw [entCells_cons, List.getElem?_append_right (by rw [ecells_length]; omega), ecells_length, show (k + 1) * 8 + j - 8 = k * 8 + j by omega]
    exact ih
theorem entCells_take (es : List EntryV) (n : Nat) : entCells (es.take n) = (entCells es).take (n * 8) := by
  induction es generalizing n with
  | nil => simp [entCells]
  | cons p r ih =>
    cases n with
    | zero => simp [entCells]
    | succ n =>
      have h3 : p.cells.take ((n + 1) * 8) = p.cells := List.take_of_length_le (by rw [ecells_length]; omega)
      rw [List.take_succ_cons, entCells_cons, entCells_cons, ih, List.take_append, ecells_length, h3, show (n + 1) * 8 - 8 = n * 8 by omega]
theorem entCells_drop (es : List EntryV) (n : Nat) : entCells (es.drop n) = (entCells es).drop (n * 8) := by
  induction es generalizing n with
  | nil => simp [entCells]
  | cons p r ih =>
    cases n with
    | zero => simp
    | succ n =>
      have h3 : p.cells.drop ((n + 1) * 8) = [] := List.drop_eq_nil_of_le (by rw [ecells_length]; omega)
      rw [List.drop_succ_cons, entCells_cons, ih, List.drop_append, ecells_length, h3, show (n + 1) * 8 - 8 = n * 8 by omega, List.nil_append]
/-- An entry of a row, cell by cell. -/
structure EntAt (w : World) (b o : Nat) (e : EntryV) : Prop where
  c0 : w.cell? ⟨b, o, none⟩ = some (.int .i64 e.index)
  c1 : w.cell? ⟨b, o + 1, none⟩ = some (.int .i64 e.term)
  c2 : w.cell? ⟨b, o + 2, none⟩ = some (.int .i64 e.cmd.op)
  c3 : w.cell? ⟨b, o + 3, none⟩ = some (.int .i64 e.cmd.client)
  c4 : w.cell? ⟨b, o + 4, none⟩ = some (.int .i64 e.cmd.seq)
  c5 : w.cell? ⟨b, o + 5, none⟩ = some (.string e.cmd.key)
  c6 : w.cell? ⟨b, o + 6, none⟩ = some (.string e.cmd.value)
  c7 : w.cell? ⟨b, o + 7, none⟩ = some (.string e.cmd.old)
theorem ents_cell {w : World} {F : Nat → Prop} {a : Option Addr} {es : List EntryV} (h : Lies w F a (entCells es)) {k : Nat} {e : EntryV} (he : es[k]? = some e) : ∃ b o, a = some ⟨b, o, none⟩ ∧ F b ∧ EntAt w b (o + k * 8) e := by
  have at_ := fun j v hv => entCells_at es k j e v he hv
  obtain ⟨b, o, rfl, hF, hc⟩ := h.norm (by intro e0; have := at_ 0 _ rfl; rw [e0] at this; simp at this)
  refine ⟨b, o, rfl, hF, ?_, ?_, ?_, ?_, ?_, ?_, ?_, ?_⟩
  · exact hc _ _ (at_ 0 _ rfl)
  all_goals rw [Nat.add_assoc]
  · exact hc _ _ (at_ 1 _ rfl)
  · exact hc _ _ (at_ 2 _ rfl)
  · exact hc _ _ (at_ 3 _ rfl)
  · exact hc _ _ (at_ 4 _ rfl)
  · exact hc _ _ (at_ 5 _ rfl)
  · exact hc _ _ (at_ 6 _ rfl)
  · exact hc _ _ (at_ 7 _ rfl)

/-- Whether entries stand behind one another, from an index on, behind a term. -/
def rowB : List EntryV → Int → Int → Bool
  | [], _, _ => true
  | e :: r, i, t => decide (e.Right ∧ e.index = i ∧ t ≤ e.term) && rowB r (i + 1) e.term

theorem rowB_nil (i t : Int) : rowB [] i t = true := rfl
theorem rowB_cons (e : EntryV) (r : List EntryV) (i t : Int) : rowB (e :: r) i t = (decide (e.Right ∧ e.index = i ∧ t ≤ e.term) && rowB r (i + 1) e.term) := rfl

end Go.Proofs.Ytjijdkdpmbfdmaa

/-
  A Writer of a call's own, step by step. No statement is proved here.
-/
namespace Go.Proofs.Ytjijdkdpmbfdmaa
open Go.RowKit

theorem u8_low (n : Int) : IntKind.u8.wrap n = ((low n).toNat : Int) := by
  rw [← low_eq]
  simp [IntKind.wrap, IntKind.signed, IntKind.bits]
/-- A Writer at block b of w1 has the bytes xs by now; all else that w1 had is as it was. -/
def Pen (w1 w : World) (b : Nat) (xs : List UInt8) : Prop := Kept (fun k => k = b) w1 w ∧ ∃ F : Nat → Prop, Wr w F b xs ∧ ∀ i, F i → i = b ∨ w1.heap.size ≤ i
theorem Pen.new (w : World) : Pen (w.alloc (.cells #[.slice none 0 0] 77)) (w.alloc (.cells #[.slice none 0 0] 77)) w.heap.size [] := ⟨Kept.refl _ _, _, Wr.new w, fun _ hi => .inl hi⟩
theorem Pen.keep {w1 w w' : World} {b : Nat} {xs : List UInt8} (h : Pen w1 w b xs) (kk : Kept noBlock w w') : Pen w1 w' b xs := by
  obtain ⟨k, F, hw, hF⟩ := h
  exact ⟨k.trans kk (fun _ _ h => h.elim), F, hw.keep kk (fun _ _ h => h), hF⟩
theorem Pen.drew {w1 w : World} {b : Nat} {xs : List UInt8} (h : Pen w1 w b xs) : Pen w1 w.drew b xs := h.keep (Kept.drew _ _)
/-- From here on. -/
theorem Pen.next {w1 w : World} {b : Nat} (h : Pen w1 w1 b []) (k : Kept noBlock w1 w) : Pen w w b [] := by
  obtain ⟨_, F, hw, hF⟩ := h
  refine ⟨Kept.refl _ _, F, hw.keep k (fun _ _ h => h), fun i hi => ?_⟩
  rcases hF i hi with h | h
  · exact .inl h
  · exact absurd (hw.lt i hi) (by omega)
theorem Pen.step {w1 w w' : World} {b : Nat} {xs : List UInt8} {F : Nat → Prop} (k : Kept (fun k => k = b) w1 w) (hF : ∀ i, F i → i = b ∨ w1.heap.size ≤ i) (k2 : Kept F w w') (h2 : Wr w' (fun k => F k ∨ fresh w w' k) b xs) : Pen w1 w' b xs :=
  ⟨k.trans k2 (fun i hi h => by rcases hF i h with h | h; exact h; omega), _, h2, fun i hi => by rcases hi with h | h; exact hF i h; exact .inr (Nat.le_trans k.size h.1)⟩
theorem pen_num {w1 w : World} {b : Nat} {xs : List UInt8} (h : Pen w1 w b xs) (n : Int) (hx : xs.length + 8 ≤ 140737488355328) :
    Calls Try.prog 32 #[.pointer (some ⟨b, 0, none⟩), .int .i64 n] w fun e w' => e = .returned (.pointer (some ⟨b, 0, none⟩)) ∧ Pen w1 w' b (xs ++ be8 n) := by
  obtain ⟨k, F, hw, hF⟩ := h
  refine (wnum_any b F xs n w hw hx).mono ?_
  rintro e w' ⟨rfl, k2, h2⟩
  exact ⟨rfl, Pen.step k hF k2 h2⟩
theorem pen_byte {w1 w : World} {b : Nat} {xs : List UInt8} (h : Pen w1 w b xs) (c : UInt8) (hx : xs.length + 1 ≤ 140737488355328) :
    Calls Try.prog 34 #[.pointer (some ⟨b, 0, none⟩), .int .u8 (c.toNat : Int)] w fun e w' => e = .returned (.pointer (some ⟨b, 0, none⟩)) ∧ Pen w1 w' b (xs ++ [c]) := by
  obtain ⟨k, F, hw, hF⟩ := h
  refine (wbyte_any b F xs c w hw hx).mono ?_
  rintro e w' ⟨rfl, k2, h2⟩
  exact ⟨rfl, Pen.step k hF k2 h2⟩
theorem pen_text {w1 w : World} {b : Nat} {xs : List UInt8} (h : Pen w1 w b xs) (s : ByteArray) (hx : xs.length + 8 + s.size ≤ 140737488355328) :
    Calls Try.prog 33 #[.pointer (some ⟨b, 0, none⟩), .string s] w fun e w' => e = .returned (.pointer (some ⟨b, 0, none⟩)) ∧ Pen w1 w' b (xs ++ tx s) := by
  obtain ⟨k, F, hw, hF⟩ := h
  refine (wtext_any b F xs s w hw hx).mono ?_
  rintro e w' ⟨rfl, k2, h2⟩
  exact ⟨rfl, Pen.step k hF k2 h2⟩
theorem pen_bytes {w1 w : World} {b : Nat} {xs : List UInt8} (h : Pen w1 w b xs) (n : Nat) (hn : xs.length = n) (hx : n ≤ 140737488355328) :
    Calls Try.prog 35 #[.pointer (some ⟨b, 0, none⟩)] w fun e w' => ∃ A c, e = .returned (.slice A n c) ∧ w'.ownsRow w1.heap.size 5 1 (.slice A n c) n (xs.map bv) ∧ Kept (fun k => k = b) w1 w' := by
  obtain ⟨k, F, hw, hF⟩ := h
  refine (wbytes_n b F xs n w hw hn hx).mono ?_
  rintro e w' ⟨A, c, rfl, ho, k2⟩
  exact ⟨A, c, rfl, own_base ho (fun i hi => Nat.le_trans k.size (ho.lt i hi).1), k.trans k2 (fun _ _ h => h.elim)⟩

end Go.Proofs.Ytjijdkdpmbfdmaa
