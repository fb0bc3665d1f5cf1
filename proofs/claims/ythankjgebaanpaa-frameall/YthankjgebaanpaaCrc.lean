/-
  Sums by a row of bits: plain mathematics of numbers. No statement is proved here.
-/
namespace Go.Proofs.Ythankjgebaanpaa

/-- One step of a number by a row of bits. -/
def stp (p n : Nat) : Nat := n / 2 ^^^ (if n % 2 = 1 then p else 0)
/-- Steps, one behind the other. -/
def stpN (p : Nat) : Nat → Nat → Nat
  | 0, n => n
  | k + 1, n => stp p (stpN p k n)

theorem xor_zero_iff {a b : Nat} : a ^^^ b = 0 ↔ a = b := by
  constructor
  · intro h
    have : a ^^^ b ^^^ b = 0 ^^^ b := by rw [h]
    rwa [Nat.xor_assoc, Nat.xor_self, Nat.xor_zero, Nat.zero_xor] at this
  · rintro rfl
    exact Nat.xor_self _
theorem xor_swap (a b c d : Nat) : (a ^^^ b) ^^^ (c ^^^ d) = (a ^^^ c) ^^^ (b ^^^ d) := by
  rw [Nat.xor_assoc, Nat.xor_assoc, ← Nat.xor_assoc b, ← Nat.xor_assoc c, Nat.xor_comm b c]
theorem xor_mod_two (a b : Nat) : (a ^^^ b) % 2 = (a % 2 + b % 2) % 2 := by
  have h := Nat.xor_mod_two_pow (a := a) (b := b) (n := 1)
  rw [Nat.pow_one] at h
  rw [h]
  have ha : a % 2 = 0 ∨ a % 2 = 1 := by omega
  have hb : b % 2 = 0 ∨ b % 2 = 1 := by omega
  rcases ha with ha | ha <;> rcases hb with hb | hb <;> rw [ha, hb] <;> rfl

theorem stp_xor (p a b : Nat) : stp p (a ^^^ b) = stp p a ^^^ stp p b := by
  unfold stp
  rw [Nat.xor_div_two, xor_swap, xor_mod_two]
  congr 1
  have ha : a % 2 = 0 ∨ a % 2 = 1 := by omega
  have hb : b % 2 = 0 ∨ b % 2 = 1 := by omega
  rcases ha with ha | ha <;> rcases hb with hb | hb <;> simp [ha, hb]
theorem stpN_xor (p a b : Nat) : ∀ k, stpN p k (a ^^^ b) = stpN p k a ^^^ stpN p k b
  | 0 => rfl
  | k + 1 => by simp only [stpN]; rw [stpN_xor p a b k, stp_xor]
theorem stpN_succ (p n : Nat) : ∀ k, stpN p (k + 1) n = stpN p k (stp p n)
  | 0 => rfl
  | k + 1 => by rw [stpN, stpN_succ p n k]; rfl
theorem stpN_add (p n j : Nat) : ∀ k, stpN p (j + k) n = stpN p k (stpN p j n)
  | 0 => rfl
  | k + 1 => by rw [← Nat.add_assoc, stpN, stpN_add p n j k]; rfl
theorem stp_zero (p : Nat) : stp p 0 = 0 := by simp [stp]
theorem stpN_zero (p : Nat) : ∀ k, stpN p k 0 = 0
  | 0 => rfl
  | k + 1 => by rw [stpN, stpN_zero p k, stp_zero]
theorem stpN_high (p : Nat) : ∀ k m, stpN p k (m * 2 ^ k) = m
  | 0, m => by simp [stpN]
  | k + 1, m => by
    rw [stpN_succ]
    have : stp p (m * 2 ^ (k + 1)) = m * 2 ^ k := by
      unfold stp
      have e : m * 2 ^ (k + 1) = m * 2 ^ k * 2 := by rw [Nat.pow_succ, Nat.mul_assoc]
      rw [e, Nat.mul_div_cancel _ (by omega), if_neg (by omega), Nat.xor_zero]
    rw [this, stpN_high p k m]
theorem stp_lt {p n : Nat} (hp : p < 4294967296) (hn : n < 4294967296) : stp p n < 4294967296 := by
  unfold stp
  refine Nat.xor_lt_two_pow (n := 32) (by omega) ?_
  split <;> omega
theorem stpN_lt {p n : Nat} (hp : p < 4294967296) (hn : n < 4294967296) : ∀ k, stpN p k n < 4294967296
  | 0 => hn
  | k + 1 => stp_lt hp (stpN_lt hp hn k)
theorem stp_inj {p n : Nat} (hp : 2147483648 ≤ p) (hp2 : p < 4294967296) (hn : n < 4294967296) (h : stp p n = 0) : n = 0 := by
  unfold stp at h
  by_cases ho : n % 2 = 1
  · rw [if_pos ho] at h
    have e := xor_zero_iff.1 h
    omega
  · rw [if_neg ho, Nat.xor_zero] at h
    omega
theorem stpN_inj {p n : Nat} (hp : 2147483648 ≤ p) (hp2 : p < 4294967296) (hn : n < 4294967296) : ∀ k, stpN p k n = 0 → n = 0
  | 0, h => h
  | k + 1, h => stpN_inj hp hp2 hn k (stp_inj hp hp2 (stpN_lt hp2 hn k) h)

theorem split_low (n k : Nat) : n = (n / 2 ^ k * 2 ^ k) ^^^ (n % 2 ^ k) := by
  refine Nat.eq_of_testBit_eq fun i => ?_
  rw [Nat.testBit_xor, Nat.testBit_mul_two_pow, Nat.testBit_mod_two_pow, Nat.testBit_div_two_pow]
  by_cases h : k ≤ i
  · have : ¬ i < k := by omega
    simp [h, this]
  · have : i < k := by omega
    simp [h, this]

/-- What a byte does to a register. -/
def upd (p r c : Nat) : Nat := stpN p 8 (r ^^^ c)
theorem upd_table (p r c : Nat) : stpN p 8 (c ^^^ r % 256) ^^^ r / 256 = upd p r c := by
  unfold upd
  have e : r ^^^ c = (r / 256 * 2 ^ 8) ^^^ (c ^^^ r % 256) := by
    have h := split_low r 8
    have e8 : (2 : Nat) ^ 8 = 256 := rfl
    rw [e8] at h ⊢
    conv => lhs; rw [h]
    rw [Nat.xor_assoc, Nat.xor_comm (r % 256) c]
  rw [e, stpN_xor p (r / 256 * 2 ^ 8), stpN_high, Nat.xor_comm]
theorem upd_lt {p r c : Nat} (hp : p < 4294967296) (hr : r < 4294967296) (hc : c < 256) : upd p r c < 4294967296 := stpN_lt hp (Nat.xor_lt_two_pow (n := 32) (by omega) (by omega)) 8

/-- What bytes do to a register. -/
def run (p : Nat) (l : List UInt8) (r : Nat) : Nat := l.foldl (fun r c => upd p r c.toNat) r
/-- The sum of bytes. -/
def crc (p : Nat) (l : List UInt8) : Nat := run p l 4294967295 ^^^ 4294967295

theorem run_snoc (p : Nat) (l : List UInt8) (c : UInt8) (r : Nat) : run p (l ++ [c]) r = upd p (run p l r) c.toNat := by simp [run]
theorem run_append (p : Nat) (l m : List UInt8) (r : Nat) : run p (l ++ m) r = run p m (run p l r) := by simp [run]
theorem run_lt {p : Nat} (hp : p < 4294967296) : ∀ (l : List UInt8) {r : Nat}, r < 4294967296 → run p l r < 4294967296
  | [], _, h => h
  | c :: l, r, h => run_lt hp l (r := upd p r c.toNat) (upd_lt hp h c.toNat_lt)
theorem crc_lt {p : Nat} (hp : p < 4294967296) (l : List UInt8) : crc p l < 4294967296 := Nat.xor_lt_two_pow (n := 32) (run_lt hp l (by omega)) (by omega)
/-- The complement of a register. -/
theorem flip_all {n : Nat} (h : n < 4294967296) : 4294967295 - n = n ^^^ 4294967295 := by
  refine Nat.eq_of_testBit_eq fun i => ?_
  have e : 4294967295 - n = 2 ^ 32 - (n + 1) := by omega
  rw [e, Nat.testBit_two_pow_sub_succ (by omega), Nat.testBit_xor, show (4294967295 : Nat) = 2 ^ 32 - 1 from rfl, Nat.testBit_two_pow_sub_one]
  by_cases hi : i < 32
  · simp [hi]
  · have : n.testBit i = false := Nat.testBit_lt_two_pow (Nat.lt_of_lt_of_le (by omega : n < 2 ^ 32) (Nat.pow_le_pow_right (by omega) (by omega)))
    simp [hi, this]

/-- Registers that differ go on to differ by what the difference comes to. -/
theorem run_xor (p : Nat) : ∀ (l : List UInt8) (r d : Nat), run p l (r ^^^ d) = run p l r ^^^ stpN p (8 * l.length) d
  | [], r, d => rfl
  | c :: l, r, d => by
    have h1 : run p (c :: l) (r ^^^ d) = run p l (upd p r c.toNat ^^^ stpN p 8 d) := by
      show run p l (upd p (r ^^^ d) c.toNat) = _
      congr 1
      unfold upd
      rw [← stpN_xor]
      congr 1
      rw [Nat.xor_assoc, Nat.xor_comm d, ← Nat.xor_assoc]
    rw [h1, run_xor p l]
    have e : 8 * (c :: l).length = 8 + 8 * l.length := by simp; omega
    rw [e, stpN_add]
    rfl

theorem crc_eq_iff {p : Nat} {a b : List UInt8} : crc p a = crc p b ↔ run p a 4294967295 = run p b 4294967295 := by
  unfold crc
  constructor
  · intro h
    have e := congrArg (· ^^^ 4294967295) h
    simpa [Nat.xor_assoc] using e
  · intro h
    rw [h]

/-- A difference in the middle is seen at the end. -/
theorem seen {p : Nat} (hp : 2147483648 ≤ p) (hp2 : p < 4294967296) (a m m' b : List UInt8) (d : Nat) (hd : d < 4294967296) (h : ∀ r, run p m' r = run p m r ^^^ d) :
    crc p (a ++ (m' ++ b)) = crc p (a ++ (m ++ b)) ↔ d = 0 := by
  rw [crc_eq_iff, run_append, run_append, run_append, run_append, h, run_xor]
  constructor
  · intro e
    have e2 : stpN p (8 * b.length) d = 0 := by
      have e3 := congrArg (run p b (run p m (run p a 4294967295)) ^^^ ·) e
      simpa [← Nat.xor_assoc] using e3
    exact stpN_inj hp hp2 hd _ e2
  · rintro rfl
    rw [stpN_zero, Nat.xor_zero]

theorem run_byte (p r c e : Nat) : upd p r (c ^^^ e) = upd p r c ^^^ stpN p 8 e := by
  unfold upd
  rw [← Nat.xor_assoc, stpN_xor]

/-- Bytes that are added bit by bit. -/
theorem run_three (p : Nat) : ∀ (x y z v : List UInt8) (r s t q : Nat), x.length = v.length → y.length = v.length → z.length = v.length →
    (∀ i (h : i < v.length) (hx : i < x.length) (hy : i < y.length) (hz : i < z.length), v[i] = x[i] ^^^ y[i] ^^^ z[i]) → q = r ^^^ s ^^^ t → run p v q = run p x r ^^^ run p y s ^^^ run p z t
  | [], [], [], [], r, s, t, q, _, _, _, _, hq => hq
  | a :: x, b :: y, c :: z, d :: v, r, s, t, q, h1, h2, h3, h, hq => by
    refine run_three p x y z v (upd p r a.toNat) (upd p s b.toNat) (upd p t c.toNat) (upd p q d.toNat) (by simpa using h1) (by simpa using h2) (by simpa using h3) (fun i hi hx hy hz => ?_) ?_
    · exact h (i + 1) (by simpa using hi) (by simpa using hx) (by simpa using hy) (by simpa using hz)
    · have h0 := h 0 (by simp) (by simp) (by simp) (by simp)
      simp only [List.getElem_cons_zero] at h0
      subst h0 hq
      unfold upd
      rw [← stpN_xor, ← stpN_xor]
      congr 1
      simp only [UInt8.toNat_xor]
      rw [xor_swap r, ← xor_swap (r ^^^ s)]
  | [], _ :: _, _, [], _, _, _, _, _, h2, _, _, _ => by simp at h2
  | [], [], _ :: _, [], _, _, _, _, _, _, h3, _, _ => by simp at h3
  | _ :: _, _, _, [], _, _, _, _, h1, _, _, _, _ => by simp at h1
  | [], _, _, _ :: _, _, _, _, _, h1, _, _, _, _ => by simp at h1
  | _ :: _, [], _, _ :: _, _, _, _, _, _, h2, _, _, _ => by simp at h2
  | _ :: _, _ :: _, [], _ :: _, _, _, _, _, _, _, h3, _, _ => by simp at h3

/-- Byte i of a word, the least one first. -/
def lowByte (v i : Nat) : UInt8 := UInt8.ofNat (v / 2 ^ (8 * i))
theorem lowByte_toNat (v i : Nat) : (lowByte v i).toNat = v / 2 ^ (8 * i) % 256 := by simp [lowByte]
theorem lowByte_xor (a b i : Nat) : lowByte (a ^^^ b) i = lowByte a i ^^^ lowByte b i := by
  apply UInt8.toNat_inj.1
  rw [UInt8.toNat_xor, lowByte_toNat, lowByte_toNat, lowByte_toNat, Nat.xor_div_two_pow]
  exact Nat.xor_mod_two_pow (n := 8)
/-- The first bytes of a word. -/
def lows (v n : Nat) : List UInt8 := (List.range n).map (lowByte v)
theorem lows_length (v n : Nat) : (lows v n).length = n := by simp [lows]
theorem lows_succ (v n : Nat) : lows v (n + 1) = lows v n ++ [lowByte v n] := by simp [lows, List.range_succ]
theorem crc_three (p a b c n : Nat) : crc p (lows (a ^^^ b ^^^ c) n) = crc p (lows a n) ^^^ crc p (lows b n) ^^^ crc p (lows c n) := by
  unfold crc
  rw [run_three p (lows a n) (lows b n) (lows c n) (lows (a ^^^ b ^^^ c) n) 4294967295 4294967295 4294967295 4294967295 (by simp [lows]) (by simp [lows]) (by simp [lows]) (fun i h hx hy hz => by simp [lows, lowByte_xor]) (by decide)]
  generalize run p (lows a n) 4294967295 = x
  generalize run p (lows b n) 4294967295 = y
  generalize run p (lows c n) 4294967295 = z
  rw [xor_swap x, Nat.xor_self, Nat.xor_zero, Nat.xor_assoc (x ^^^ y)]

/-- The table of a row of bits. -/
def tabs (p : Nat) : List Nat := (List.range 256).map (stpN p 8)
theorem tabs_length (p : Nat) : (tabs p).length = 256 := by simp [tabs]
theorem tabs_at (p k : Nat) (h : k < 256) : (tabs p)[k]? = some (stpN p 8 k) := by simp [tabs, h]
theorem stpN_none : ∀ k n, stpN 0 k n = n / 2 ^ k
  | 0, n => by simp [stpN]
  | k + 1, n => by
    rw [stpN, stpN_none k n, stp]
    simp
    rw [Nat.pow_succ, Nat.div_div_eq_div_mul]

end Go.Proofs.Ythankjgebaanpaa
