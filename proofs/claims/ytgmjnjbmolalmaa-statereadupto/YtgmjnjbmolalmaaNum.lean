/-
  Numbers as eight bytes, most significant first: plain mathematics. No statement is proved here.
-/
import Derived.Test.YtgmjnjbmolalmaaMem
import Derived.Lib.EndianBits
namespace Go.Proofs.Ytgmjnjbmolalmaa
open Go.RowKit

/-- Byte k of the eight of a number. -/
def byteAt (n : Int) (k : Nat) : UInt8 := UInt8.ofNat ((IntKind.u64.wrap n).toNat / 2 ^ (56 - 8 * k))
/-- The eight bytes of a number. -/
def be8 (n : Int) : List UInt8 := (List.range 8).map (byteAt n)
/-- The number that bytes are, without a sign. -/
def rdU (l : List UInt8) : Nat := l.foldl (fun a c => a * 256 + c.toNat) 0
/-- The number that eight bytes are. -/
def rdN (l : List UInt8) : Int := wrap64 (rdU l)

theorem u64_bounds (n : Int) : 0 ≤ IntKind.u64.wrap n ∧ IntKind.u64.wrap n < 18446744073709551616 := by
  have h : IntKind.u64.wrap n = n % 18446744073709551616 := by simp [IntKind.wrap, IntKind.signed, IntKind.bits]
  rw [h]; omega
theorem bv_byteAt (n : Int) (k : Nat) (hk : k < 8) : bv (byteAt n k) = .int .u8 (IntKind.u8.wrap (IntKind.u64.wrap n / 2 ^ (56 - 8 * (k : Int)).toNat)) := by
  have hb := u64_bounds n
  unfold bv byteAt
  generalize IntKind.u64.wrap n = u at hb ⊢
  obtain ⟨m, rfl⟩ := Int.eq_ofNat_of_zero_le hb.1
  have e : (56 - 8 * (k : Int)).toNat = 56 - 8 * k := by omega
  have e2 : (2 : Int) ^ (56 - 8 * k) = ((2 ^ (56 - 8 * k) : Nat) : Int) := by simp
  have e3 : ∀ x : Nat, IntKind.u8.wrap (x : Int) = ((x % 256 : Nat) : Int) := by intro x; simp [IntKind.wrap, IntKind.signed, IntKind.bits]
  rw [e, e2, ← Int.natCast_ediv, e3]
  simp
theorem be8_length (n : Int) : (be8 n).length = 8 := by simp [be8]
theorem be8_at (n : Int) (k : Nat) (hk : k < 8) : (be8 n)[k]? = some (byteAt n k) := by simp [be8, hk]
theorem be8_succ (n : Int) (k : Nat) (hk : k < 8) : (be8 n).take (k + 1) = (be8 n).take k ++ [byteAt n k] := by
  rw [List.take_succ_eq_append_getElem (by rw [be8_length]; exact hk)]
  congr 2
  have := be8_at n k hk
  rw [List.getElem?_eq_getElem (by rw [be8_length]; exact hk)] at this
  exact Option.some.inj this
theorem rdU_snoc (l : List UInt8) (c : UInt8) : rdU (l ++ [c]) = rdU l * 256 + c.toNat := by simp [rdU]
theorem rdU_lt (l : List UInt8) : rdU l < 256 ^ l.length := by
  induction l using rev_ind with
  | h0 => simp [rdU]
  | h1 l c ih =>
    have hc := c.toNat_lt
    rw [rdU_snoc, List.length_append, List.length_singleton, Nat.pow_succ]
    omega
theorem rdU_take (n : Int) (k : Nat) (hk : k ≤ 8) : rdU ((be8 n).take k) = (IntKind.u64.wrap n).toNat / 2 ^ (64 - 8 * k) := by
  have hb := u64_bounds n
  induction k with
  | zero =>
    have : (IntKind.u64.wrap n).toNat / 2 ^ (64 - 8 * 0) = 0 := Nat.div_eq_of_lt (by simp only [Nat.mul_zero, Nat.sub_zero]; omega)
    rw [this]; rfl
  | succ k ih =>
    rw [be8_succ n k (by omega), rdU_snoc, ih (by omega)]
    have e1 : 64 - 8 * k = (56 - 8 * k) + 8 := by omega
    have e2 : 64 - 8 * (k + 1) = 56 - 8 * k := by omega
    rw [e1, e2, Nat.pow_add, ← Nat.div_div_eq_div_mul]
    unfold byteAt
    have e3 : (UInt8.ofNat ((IntKind.u64.wrap n).toNat / 2 ^ (56 - 8 * k))).toNat = (IntKind.u64.wrap n).toNat / 2 ^ (56 - 8 * k) % 256 := by simp
    rw [e3]
    omega
theorem rdU_be8 (n : Int) : rdU (be8 n) = (IntKind.u64.wrap n).toNat := by
  have h := rdU_take n 8 (by omega)
  rw [List.take_of_length_le (by rw [be8_length]; omega)] at h
  simpa using h
theorem rdN_be8 (n : Int) (h1 : -9223372036854775808 ≤ n) (h2 : n ≤ 9223372036854775807) : rdN (be8 n) = n := by
  unfold rdN
  rw [rdU_be8]
  have h : IntKind.u64.wrap n = n % 18446744073709551616 := by simp [IntKind.wrap, IntKind.signed, IntKind.bits]
  have hb := u64_bounds n
  rw [Int.toNat_of_nonneg hb.1, h]
  unfold wrap64
  omega
theorem rdN_bounds (l : List UInt8) : -9223372036854775808 ≤ rdN l ∧ rdN l ≤ 9223372036854775807 := by
  unfold rdN wrap64
  omega

theorem or_step (a : Nat) (x : UInt8) (ha : a < 72057594037927936) : bits .or .u64 (IntKind.u64.wrap ((a : Int) * 256)) (IntKind.u64.wrap (x.toNat : Int)) = ((a * 256 + x.toNat : Nat) : Int) := by
  have hx := x.toNat_lt
  rw [wraps_u64 _ (by omega) (by omega), wraps_u64 _ (by omega) (by omega)]
  rw [bits_join .u64 64 (by decide) wraps_u64 8 _ _ (by omega) (by omega) (by omega) (by omega) (by omega) (by omega)]
  omega
theorem rdU_lt8 (l : List UInt8) (h : l.length < 8) : rdU l < 72057594037927936 := by
  have h1 := rdU_lt l
  have h2 : 256 ^ l.length ≤ 256 ^ 7 := Nat.pow_le_pow_right (by decide) (by omega)
  have h3 : 256 ^ 7 = 72057594037927936 := rfl
  omega

end Go.Proofs.Ytgmjnjbmolalmaa
