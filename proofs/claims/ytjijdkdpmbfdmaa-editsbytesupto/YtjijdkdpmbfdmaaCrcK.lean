/-
  Several texts, one behind the other. No statement is proved here.
-/
/-
  Sums by a row of bits: plain mathematics of numbers. No statement is proved here.
-/
namespace Go.Proofs.Ytjijdkdpmbfdmaa

/-- One step of a number by a row of bits. -/
def stp (p n : Nat) : Nat := n / 2 ^^^ (if n % 2 = 1 then p else 0)
/-- Steps, one behind the other. -/
def stpN (p : Nat) : Nat → Nat → Nat
  | 0, n => n
  | k + 1, n => stp p (stpN p k n)

theorem xor_zero_iff {a b : Nat} : a ^^^ b = 0 ↔ a = b := by
  constructor
  · intro h
    have : a ^^^ b ^^^ b = 0 ^^^ b := by rw [h]
    rwa [Nat.xor_assoc, Nat.xor_self, Nat.xor_zero, Nat.zero_xor] at this
  · rintro rfl
    exact Nat.xor_self _
theorem xor_swap (a b c d : Nat) : (a ^^^ b) ^^^ (c ^^^ d) = (a ^^^ c) ^^^ (b ^^^ d) := by
  rw [Nat.xor_assoc, Nat.xor_assoc, ← Nat.xor_assoc b, ← Nat.xor_assoc c, Nat.xor_comm b c]
theorem xor_mod_two (a b : Nat) : (a ^^^ b) % 2 = (a % 2 + b % 2) % 2 := by
  have h := Nat.xor_mod_two_pow (a := a) (b := b) (n := 1)
  rw [Nat.pow_one] at h
  rw [h]
  have ha : a % 2 = 0 ∨ a % 2 = 1 := by omega
  have hb : b % 2 = 0 ∨ b % 2 = 1 := by omega
  rcases ha with ha | ha <;> rcases hb with hb | hb <;> rw [ha, hb] <;> rfl

theorem stp_xor (p a b : Nat) : stp p (a ^^^ b) = stp p a ^^^ stp p b := by
  unfold stp
  rw [Nat.xor_div_two, xor_swap, xor_mod_two]
  congr 1
  have ha : a % 2 = 0 ∨ a % 2 = 1 := by omega
  have hb : b % 2 = 0 ∨ b % 2 = 1 := by omega
  rcases ha with ha | ha <;> rcases hb with hb | hb <;> simp [ha, hb]
theorem stpN_xor (p a b : Nat) : ∀ k, stpN p k (a ^^^ b) = stpN p k a ^^^ stpN p k b
  | 0 => rfl
  | k + 1 => by simp only [stpN]; rw [stpN_xor p a b k, stp_xor]
theorem stpN_succ (p n : Nat) : ∀ k, stpN p (k + 1) n = stpN p k (stp p n)
  | 0 => rfl
  | k + 1 => by rw [stpN, stpN_succ p n k]; rfl
theorem stpN_add (p n j : Nat) : ∀ k, stpN p (j + k) n = stpN p k (stpN p j n)
  | 0 => rfl
  | k + 1 => by rw [← Nat.add_assoc, stpN, stpN_add p n j k]; rfl
theorem stp_zero (p : Nat) : stp p 0 = 0 := by simp [stp]
theorem stpN_zero (p : Nat) : ∀ k, stpN p k 0 = 0
  | 0 => rfl
  | k + 1 => by rw [stpN, stpN_zero p k, stp_zero]
theorem stpN_high (p : Nat) : ∀ k m, stpN p k (m * 2 ^ k) = m
  | 0, m => by simp [stpN]
  | k + 1, m => by
    rw [stpN_succ]
    have : stp p (m * 2 ^ (k + 1)) = m * 2 ^ k := by
      unfold stp
      have e : m * 2 ^ (k + 1) = m * 2 ^ k * 2 := by rw [Nat.pow_succ, Nat.mul_assoc]
      rw [e, Nat.mul_div_cancel _ (by omega), if_neg (by omega), Nat.xor_zero]
    rw [this, stpN_high p k m]
theorem stp_lt {p n : Nat} (hp : p < 4294967296) (hn : n < 4294967296) : stp p n < 4294967296 := by
  unfold stp
  refine Nat.xor_lt_two_pow (n := 32) (by omega) ?_
  split <;> omega
theorem stpN_lt {p n : Nat} (hp : p < 4294967296) (hn : n < 4294967296) : ∀ k, stpN p k n < 4294967296
  | 0 => hn
  | k + 1 => stp_lt hp (stpN_lt hp hn k)
theorem stp_inj {p n : Nat} (hp : 2147483648 ≤ p) (hp2 : p < 4294967296) (hn : n < 4294967296) (h : stp p n = 0) : n = 0 := by
  unfold stp at h
  by_cases ho : n % 2 = 1
  · rw [if_pos ho] at h
    have e := xor_zero_iff.1 h
    omega
  · rw [if_neg ho, Nat.xor_zero] at h
    omega
theorem stpN_inj {p n : Nat} (hp : 2147483648 ≤ p) (hp2 : p < 4294967296) (hn : n < 4294967296) : ∀ k, stpN p k n = 0 → n = 0
  | 0, h => h
  | k + 1, h => stpN_inj hp hp2 hn k (stp_inj hp hp2 (stpN_lt hp2 hn k) h)

theorem split_low (n k : Nat) : n = (n / 2 ^ k * 2 ^ k) ^^^ (n % 2 ^ k) := by
  refine Nat.eq_of_testBit_eq fun i => ?_
  rw [Nat.testBit_xor, Nat.testBit_mul_two_pow, Nat.testBit_mod_two_pow, Nat.testBit_div_two_pow]
  by_cases h : k ≤ i
  · have : ¬ i < k := by omega
    simp [h, this]
  · have : i < k := by omega
    simp [h, this]

/-- What a byte does to a register. -/
def upd (p r c : Nat) : Nat := stpN p 8 (r ^^^ c)
theorem upd_table (p r c : Nat) : stpN p 8 (c ^^^ r % 256) ^^^ r / 256 = upd p r c := by
  unfold upd
  have e : r ^^^ c = (r / 256 * 2 ^ 8) ^^^ (c ^^^ r % 256) := by
    have h := split_low r 8
    have e8 : (2 : Nat) ^ 8 = 256 := rfl
    rw [e8] at h ⊢
    conv => lhs; rw [h]
    rw [Nat.xor_assoc, Nat.xor_comm (r % 256) c]
  rw [e, stpN_xor p (r / 256 * 2 ^ 8), stpN_high, Nat.xor_comm]
theorem upd_lt {p r c : Nat} (hp : p < 4294967296) (hr : r < 4294967296) (hc : c < 256) : upd p r c < 4294967296 := stpN_lt hp (Nat.xor_lt_two_pow (n := 32) (by omega) (by omega)) 8

/-- What bytes do to a register. -/
def run (p : Nat) (l : List UInt8) (r : Nat) : Nat := l.foldl (fun r c => upd p r c.toNat) r
/-- The sum of bytes. -/
def crc (p : Nat) (l : List UInt8) : Nat := run p l 4294967295 ^^^ 4294967295

theorem run_snoc (p : Nat) (l : List UInt8) (c : UInt8) (r : Nat) : run p (l ++ [c]) r = upd p (run p l r) c.toNat := by simp [run]
theorem run_append (p : Nat) (l m : List UInt8) (r : Nat) : run p (l ++ m) r = run p m (run p l r) := by simp [run]
theorem run_lt {p : Nat} (hp : p < 4294967296) : ∀ (l : List UInt8) {r : Nat}, r < 4294967296 → run p l r < 4294967296
  | [], _, h => h
  | c :: l, r, h => run_lt hp l (r := upd p r c.toNat) (upd_lt hp h c.toNat_lt)
theorem crc_lt {p : Nat} (hp : p < 4294967296) (l : List UInt8) : crc p l < 4294967296 := Nat.xor_lt_two_pow (n := 32) (run_lt hp l (by omega)) (by omega)
/-- The complement of a register. -/
theorem flip_all {n : Nat} (h : n < 4294967296) : 4294967295 - n = n ^^^ 4294967295 := by
  refine Nat.eq_of_testBit_eq fun i => ?_
  have e : 4294967295 - n = 2 ^ 32 - (n + 1) := by omega
  rw [e, Nat.testBit_two_pow_sub_succ (by omega), Nat.testBit_xor, show (4294967295 : Nat) = 2 ^ 32 - 1 from rfl, Nat.testBit_two_pow_sub_one]
  by_cases hi : i < 32
  · simp [hi]
  · have : n.testBit i = false := Nat.testBit_lt_two_pow (Nat.lt_of_lt_of_le (by omega : n < 2 ^ 32) (Nat.pow_le_pow_right (by omega) (by omega)))
    simp [hi, this]

/-- Registers that differ go on to differ by what the difference comes to. -/
theorem run_xor (p : Nat) : ∀ (l : List UInt8) (r d : Nat), run p l (r ^^^ d) = run p l r ^^^ stpN p (8 * l.length) d
  | [], r, d => rfl
  | c :: l, r, d => by
    have h1 : run p (c :: l) (r ^^^ d) = run p l (upd p r c.toNat ^^^ stpN p 8 d) := by
      show run p l (upd p (r ^^^ d) c.toNat) = _
      congr 1
      unfold upd
      rw [← stpN_xor]
      congr 1
      rw [Nat.xor_assoc, Nat.xor_comm d, ← Nat.xor_assoc]
    rw [h1, run_xor p l]
    have e : 8 * (c :: l).length = 8 + 8 * l.length := by simp; omega
    rw [e, stpN_add]
    rfl

theorem crc_eq_iff {p : Nat} {a b : List UInt8} : crc p a = crc p b ↔ run p a 4294967295 = run p b 4294967295 := by
  unfold crc
  constructor
  · intro h
    have e := congrArg (· ^^^ 4294967295) h
    simpa [Nat.xor_assoc] using e
  · intro h
    rw [h]

/-- A difference in the middle is seen at the end. -/
theorem seen {p : Nat} (hp : 2147483648 ≤ p) (hp2 : p < 4294967296) (a m m' b : List UInt8) (d : Nat) (hd : d < 4294967296) (h : ∀ r, run p m' r = run p m r ^^^ d) :
    crc p (a ++ (m' ++ b)) = crc p (a ++ (m ++ b)) ↔ d = 0 := by
  rw [crc_eq_iff, run_append, run_append, run_append, run_append, h, run_xor]
  constructor
  · intro e
    have e2 : stpN p (8 * b.length) d = 0 := by
      have e3 := congrArg (run p b (run p m (run p a 4294967295)) ^^^ ·) e
      simpa [← Nat.xor_assoc] using e3
    exact stpN_inj hp hp2 hd _ e2
  · rintro rfl
    rw [stpN_zero, Nat.xor_zero]

theorem run_byte (p r c e : Nat) : upd p r (c ^^^ e) = upd p r c ^^^ stpN p 8 e := by
  unfold upd
  rw [← Nat.xor_assoc, stpN_xor]

/-- Bytes that are added bit by bit. -/
theorem run_three (p : Nat) : ∀ (x y z v : List UInt8) (r s t q : Nat), x.length = v.length → y.length = v.length → z.length = v.length →
    (∀ i (h : i < v.length) (hx : i < x.length) (hy : i < y.length) (hz : i < z.length), v[i] = x[i] ^^^ y[i] ^^^ z[i]) → q = r ^^^ s ^^^ t → run p v q = run p x r ^^^ run p y s ^^^ run p z t
  | [], [], [], [], r, s, t, q, _, _, _, _, hq => hq
  | a :: x, b :: y, c :: z, d :: v, r, s, t, q, h1, h2, h3, h, hq => by
    refine run_three p x y z v (upd p r a.toNat) (upd p s b.toNat) (upd p t c.toNat) (upd p q d.toNat) (by simpa using h1) (by simpa using h2) (by simpa using h3) (fun i hi hx hy hz => ?_) ?_
    · exact h (i + 1) (by simpa using hi) (by simpa using hx) (by simpa using hy) (by simpa using hz)
    · have h0 := h 0 (by simp) (by simp) (by simp) (by simp)
      simp only [List.getElem_cons_zero] at h0
      subst h0 hq
      unfold upd
      rw [← stpN_xor, ← stpN_xor]
      congr 1
      simp only [UInt8.toNat_xor]
      rw [xor_swap r, ← xor_swap (r ^^^ s)]
  | [], _ :: _, _, [], _, _, _, _, _, h2, _, _, _ => by simp at h2
  | [], [], _ :: _, [], _, _, _, _, _, _, h3, _, _ => by simp at h3
  | _ :: _, _, _, [], _, _, _, _, h1, _, _, _, _ => by simp at h1
  | [], _, _, _ :: _, _, _, _, _, h1, _, _, _, _ => by simp at h1
  | _ :: _, [], _, _ :: _, _, _, _, _, _, h2, _, _, _ => by simp at h2
  | _ :: _, _ :: _, [], _ :: _, _, _, _, _, _, _, h3, _, _ => by simp at h3

/-- Byte i of a word, the least one first. -/
def lowByte (v i : Nat) : UInt8 := UInt8.ofNat (v / 2 ^ (8 * i))
theorem lowByte_toNat (v i : Nat) : (lowByte v i).toNat = v / 2 ^ (8 * i) % 256 := by simp [lowByte]
theorem lowByte_xor (a b i : Nat) : lowByte (a ^^^ b) i = lowByte a i ^^^ lowByte b i := by
  apply UInt8.toNat_inj.1
  rw [UInt8.toNat_xor, lowByte_toNat, lowByte_toNat, lowByte_toNat, Nat.xor_div_two_pow]
  exact Nat.xor_mod_two_pow (n := 8)
/-- The first bytes of a word. -/
def lows (v n : Nat) : List UInt8 := (List.range n).map (lowByte v)
theorem lows_length (v n : Nat) : (lows v n).length = n := by simp [lows]
theorem lows_succ (v n : Nat) : lows v (n + 1) = lows v n ++ [lowByte v n] := by simp [lows, List.range_succ]
theorem crc_three (p a b c n : Nat) : crc p (lows (a ^^^ b ^^^ c) n) = crc p (lows a n) ^^^ crc p (lows b n) ^^^ crc p (lows c n) := by
  unfold crc
  rw [run_three p (lows a n) (lows b n) (lows c n) (lows (a ^^^ b ^^^ c) n) 4294967295 4294967295 4294967295 4294967295 (by simp [lows]) (by simp [lows]) (by simp [lows]) (fun i h hx hy hz => by simp [lows, lowByte_xor]) (by decide)]
  generalize run p (lows a n) 4294967295 = x
  generalize run p (lows b n) 4294967295 = y
  generalize run p (lows c n) 4294967295 = z
  rw [xor_swap x, Nat.xor_self, Nat.xor_zero, Nat.xor_assoc (x ^^^ y)]

/-- The table of a row of bits. -/
def tabs (p : Nat) : List Nat := (List.range 256).map (stpN p 8)
theorem tabs_length (p : Nat) : (tabs p).length = 256 := by simp [tabs]
theorem tabs_at (p k : Nat) (h : k < 256) : (tabs p)[k]? = some (stpN p 8 k) := by simp [tabs, h]
theorem stpN_none : ∀ k n, stpN 0 k n = n / 2 ^ k
  | 0, n => by simp [stpN]
  | k + 1, n => by
    rw [stpN, stpN_none k n, stp]
    simp
    rw [Nat.pow_succ, Nat.div_div_eq_div_mul]

end Go.Proofs.Ytjijdkdpmbfdmaa

/-
  Frames as lists of bytes: plain mathematics. No statement is proved here.
-/
namespace Go.Proofs.Ytjijdkdpmbfdmaa

/-- Byte i of a word of four, the greatest one first. -/
def hiByte (v i : Nat) : UInt8 := UInt8.ofNat (v / 2 ^ (24 - 8 * i))
theorem hiByte_toNat (v i : Nat) : (hiByte v i).toNat = v / 2 ^ (24 - 8 * i) % 256 := by simp [hiByte]
/-- The four bytes of a word. -/
def be4 (v : Nat) : List UInt8 := [hiByte v 0, hiByte v 1, hiByte v 2, hiByte v 3]
theorem be4_length (v : Nat) : (be4 v).length = 4 := rfl
/-- The number that bytes are. -/
def wrd (l : List UInt8) : Nat := l.foldl (fun n c => n * 256 + c.toNat) 0
theorem wrd_snoc (l : List UInt8) (c : UInt8) : wrd (l ++ [c]) = wrd l * 256 + c.toNat := by simp [wrd]
theorem wrd_be4 (v : Nat) (hv : v < 4294967296) : wrd (be4 v) = v := by
  simp only [wrd, be4, List.foldl_cons, List.foldl_nil, hiByte_toNat]
  rw [show 24 - 8 * 0 = 24 from rfl, show 24 - 8 * 1 = 16 from rfl, show 24 - 8 * 2 = 8 from rfl, show 24 - 8 * 3 = 0 from rfl]
  omega
theorem four_of {l : List UInt8} (h : l.length = 4) : ∃ a b c d, l = [a, b, c, d] := by
  match l, h with
  | [a, b, c, d], _ => exact ⟨a, b, c, d, rfl⟩
theorem wrd_lt {l : List UInt8} (h : l.length = 4) : wrd l < 4294967296 := by
  obtain ⟨a, b, c, d, rfl⟩ := four_of h
  simp only [wrd, List.foldl_cons, List.foldl_nil]
  have := a.toNat_lt; have := b.toNat_lt; have := c.toNat_lt; have := d.toNat_lt
  omega
theorem be4_wrd {l : List UInt8} (h : l.length = 4) : be4 (wrd l) = l := by
  obtain ⟨a, b, c, d, rfl⟩ := four_of h
  have := a.toNat_lt; have := b.toNat_lt; have := c.toNat_lt; have := d.toNat_lt
  unfold be4
  simp only [List.cons.injEq, and_true]
  refine ⟨?_, ?_, ?_, ?_⟩ <;> apply UInt8.toNat_inj.1 <;> rw [hiByte_toNat] <;> simp only [wrd, List.foldl_cons, List.foldl_nil]
  · rw [show 24 - 8 * 0 = 24 from rfl]; omega
  · rw [show 24 - 8 * 1 = 16 from rfl]; omega
  · rw [show 24 - 8 * 2 = 8 from rfl]; omega
  · rw [show 24 - 8 * 3 = 0 from rfl]; omega
theorem be4_inj {u v : Nat} (hu : u < 4294967296) (hv : v < 4294967296) (h : be4 u = be4 v) : u = v := by rw [← wrd_be4 u hu, ← wrd_be4 v hv, h]

/-- The frame of bytes. -/
def frm (l : List UInt8) : List UInt8 := be4 l.length ++ (be4 (crc 3988292384 l) ++ (l ++ [229]))
theorem frm_length (l : List UInt8) : (frm l).length = l.length + 9 := by simp [frm, be4_length]; omega
theorem crc0_lt (l : List UInt8) : crc 3988292384 l < 4294967296 := crc_lt (by decide) l

/-- What bytes begin with: what it holds, how many bytes it takes, and the error. -/
def rd (b : List UInt8) : List UInt8 × Nat × Nat :=
  if b.length < 8 then ([], 0, 3)
  else if 16384 < wrd (b.take 4) then ([], 0, 1)
  else if b.length ≤ wrd (b.take 4) + 8 then ([], 0, 3)
  else if b[wrd (b.take 4) + 8]? ≠ some 229 then ([], 0, 1)
  else if crc 3988292384 ((b.drop 8).take (wrd (b.take 4))) ≠ wrd ((b.drop 4).take 4) then ([], 0, 2)
  else ((b.drop 8).take (wrd (b.take 4)), wrd (b.take 4) + 9, 0)

theorem rd_short {b : List UInt8} (h : b.length < 8) : rd b = ([], 0, 3) := by rw [rd, if_pos h]
theorem rd_great {b : List UInt8} (h : ¬ b.length < 8) (h1 : 16384 < wrd (b.take 4)) : rd b = ([], 0, 1) := by rw [rd, if_neg h, if_pos h1]
theorem rd_torn {b : List UInt8} (h : ¬ b.length < 8) (h1 : ¬ 16384 < wrd (b.take 4)) (h2 : b.length ≤ wrd (b.take 4) + 8) : rd b = ([], 0, 3) := by rw [rd, if_neg h, if_neg h1, if_pos h2]
theorem rd_end {b : List UInt8} (h : ¬ b.length < 8) (h1 : ¬ 16384 < wrd (b.take 4)) (h2 : ¬ b.length ≤ wrd (b.take 4) + 8) (h3 : b[wrd (b.take 4) + 8]? ≠ some 229) : rd b = ([], 0, 1) := by rw [rd, if_neg h, if_neg h1, if_neg h2, if_pos h3]
theorem rd_sum {b : List UInt8} (h : ¬ b.length < 8) (h1 : ¬ 16384 < wrd (b.take 4)) (h2 : ¬ b.length ≤ wrd (b.take 4) + 8) (h3 : b[wrd (b.take 4) + 8]? = some 229)
    (h4 : crc 3988292384 ((b.drop 8).take (wrd (b.take 4))) ≠ wrd ((b.drop 4).take 4)) : rd b = ([], 0, 2) := by rw [rd, if_neg h, if_neg h1, if_neg h2, if_neg (fun h => h h3), if_pos h4]
theorem rd_there {b : List UInt8} (h : ¬ b.length < 8) (h1 : ¬ 16384 < wrd (b.take 4)) (h2 : ¬ b.length ≤ wrd (b.take 4) + 8) (h3 : b[wrd (b.take 4) + 8]? = some 229)
    (h4 : crc 3988292384 ((b.drop 8).take (wrd (b.take 4))) = wrd ((b.drop 4).take 4)) : rd b = ((b.drop 8).take (wrd (b.take 4)), wrd (b.take 4) + 9, 0) := by
  rw [rd, if_neg h, if_neg h1, if_neg h2, if_neg (fun h => h h3), if_neg (fun h => h h4)]

/-- What is wrong is one of three, and nothing is told beside it. -/
theorem rd_cases (b : List UInt8) : (rd b = ([], 0, 1) ∨ rd b = ([], 0, 2) ∨ rd b = ([], 0, 3)) ∨ (rd b).2.2 = 0 := by
  by_cases h : b.length < 8
  · exact .inl (.inr (.inr (rd_short h)))
  by_cases h1 : 16384 < wrd (b.take 4)
  · exact .inl (.inl (rd_great h h1))
  by_cases h2 : b.length ≤ wrd (b.take 4) + 8
  · exact .inl (.inr (.inr (rd_torn h h1 h2)))
  by_cases h3 : b[wrd (b.take 4) + 8]? = some 229
  · by_cases h4 : crc 3988292384 ((b.drop 8).take (wrd (b.take 4))) = wrd ((b.drop 4).take 4)
    · exact .inr (by rw [rd_there h h1 h2 h3 h4])
    · exact .inl (.inr (.inl (rd_sum h h1 h2 h3 h4)))
  · exact .inl (.inl (rd_end h h1 h2 h3))
theorem rd_le (b : List UInt8) : (rd b).2.2 ≤ 3 := by
  rcases rd_cases b with (h | h | h) | h <;> rw [h] <;> simp

/-- The parts of bytes of which a frame's length stands at the beginning. -/
theorem parts_of (b : List UInt8) (n : Nat) : b = b.take 4 ++ ((b.drop 4).take 4 ++ ((b.drop 8).take n ++ b.drop (n + 8))) := by
  have e1 : b.drop 8 = (b.drop 8).take n ++ b.drop (n + 8) := by
    conv => lhs; rw [← List.take_append_drop n (b.drop 8)]
    rw [List.drop_drop, Nat.add_comm 8 n]
  have e2 : b.drop 4 = (b.drop 4).take 4 ++ b.drop 8 := by
    conv => lhs; rw [← List.take_append_drop 4 (b.drop 4)]
    rw [List.drop_drop]
  conv => lhs; rw [← List.take_append_drop 4 b, e2, e1]
theorem last_of {b : List UInt8} {n : Nat} {x : UInt8} (h : b[n]? = some x) : b.drop n = x :: b.drop (n + 1) := by
  obtain ⟨hn, rfl⟩ := List.getElem?_eq_some_iff.1 h
  exact List.drop_eq_getElem_cons hn

/-- A frame is read as it was laid. -/
theorem rd_frm (l t : List UInt8) (hl : l.length ≤ 16384) : rd (frm l ++ t) = (l, l.length + 9, 0) := by
  have e0 : frm l ++ t = be4 l.length ++ (be4 (crc 3988292384 l) ++ (l ++ (229 :: t))) := by simp [frm]
  have hlen : (frm l ++ t).length = l.length + 9 + t.length := by rw [List.length_append, frm_length]
  have t4 : (frm l ++ t).take 4 = be4 l.length := by rw [e0]; exact List.take_left' (be4_length _)
  have d4 : (frm l ++ t).drop 4 = be4 (crc 3988292384 l) ++ (l ++ (229 :: t)) := by rw [e0]; exact List.drop_left' (be4_length _)
  have d8 : (frm l ++ t).drop 8 = l ++ (229 :: t) := by
    rw [show 8 = 4 + 4 from rfl, ← List.drop_drop, d4]; exact List.drop_left' (be4_length _)
  have hw : wrd ((frm l ++ t).take 4) = l.length := by rw [t4, wrd_be4 _ (by omega)]
  have hs : wrd (((frm l ++ t).drop 4).take 4) = crc 3988292384 l := by rw [d4, List.take_left' (be4_length _), wrd_be4 _ (crc0_lt l)]
  have hc : ((frm l ++ t).drop 8).take l.length = l := by rw [d8]; exact List.take_left' rfl
  have he : (frm l ++ t)[l.length + 8]? = some 229 := by
    have : (frm l ++ t)[l.length + 8]? = ((frm l ++ t).drop 8)[l.length]? := by rw [List.getElem?_drop, Nat.add_comm]
    rw [this, d8]
    simp
  have := rd_there (b := frm l ++ t) (by omega) (by omega) (by omega) (by rw [hw]; exact he) (by rw [hw, hs, hc])
  rw [this, hw, hc]

/-- What is read as a frame is one. -/
theorem rd_ok {b : List UInt8} (h : (rd b).2.2 = 0) : (rd b).1.length ≤ 16384 ∧ (rd b).2.1 = (rd b).1.length + 9 ∧ b = frm (rd b).1 ++ b.drop (rd b).2.1 := by
  by_cases h0 : b.length < 8
  · rw [rd_short h0] at h; cases h
  by_cases h1 : 16384 < wrd (b.take 4)
  · rw [rd_great h0 h1] at h; cases h
  by_cases h2 : b.length ≤ wrd (b.take 4) + 8
  · rw [rd_torn h0 h1 h2] at h; cases h
  by_cases h3 : b[wrd (b.take 4) + 8]? = some 229
  · by_cases h4 : crc 3988292384 ((b.drop 8).take (wrd (b.take 4))) = wrd ((b.drop 4).take 4)
    · rw [rd_there h0 h1 h2 h3 h4]
      have l4 : (b.take 4).length = 4 := by rw [List.length_take]; omega
      have m4 : ((b.drop 4).take 4).length = 4 := by rw [List.length_take, List.length_drop]; omega
      obtain ⟨n, hn⟩ : ∃ n, n = wrd (b.take 4) := ⟨_, rfl⟩
      rw [← hn] at h1 h2 h3 h4 ⊢
      have c4 : ((b.drop 8).take n).length = n := by rw [List.length_take, List.length_drop]; omega
      refine ⟨by simp only [c4]; omega, by simp only [c4], ?_⟩
      have e := parts_of b n
      have e1 : be4 n = b.take 4 := by rw [hn]; exact be4_wrd l4
      have e2 : be4 (crc 3988292384 ((b.drop 8).take n)) = (b.drop 4).take 4 := by rw [h4]; exact be4_wrd m4
      show b = frm ((b.drop 8).take n) ++ b.drop (n + 9)
      unfold frm
      rw [c4, e1, e2]
      conv => lhs; rw [e, last_of h3]
      simp
    · rw [rd_sum h0 h1 h2 h3 h4] at h; cases h
  · rw [rd_end h0 h1 h2 h3] at h; cases h
theorem rd_ok_le {b : List UInt8} (h : (rd b).2.2 = 0) : (rd b).2.1 ≤ b.length := by
  obtain ⟨h1, h2, h3⟩ := rd_ok h
  have e := congrArg List.length h3
  rw [List.length_append, frm_length] at e
  omega

/-- The reference's way of asking for the sum. -/
theorem form_sum {b : List UInt8} (h : ¬ b.length < 8) (h2 : ¬ b.length ≤ wrd (b.take 4) + 8) (h3 : b[wrd (b.take 4) + 8]? = some 229) :
    frm ((b.drop 8).take (wrd (b.take 4))) = b.take (wrd (b.take 4) + 9) ↔ crc 3988292384 ((b.drop 8).take (wrd (b.take 4))) = wrd ((b.drop 4).take 4) := by
  have l4 : (b.take 4).length = 4 := by rw [List.length_take]; omega
  have m4 : ((b.drop 4).take 4).length = 4 := by rw [List.length_take, List.length_drop]; omega
  obtain ⟨n, hn⟩ : ∃ n, n = wrd (b.take 4) := ⟨_, rfl⟩
  rw [← hn] at h2 h3 ⊢
  have c4 : ((b.drop 8).take n).length = n := by rw [List.length_take, List.length_drop]; omega
  have e := parts_of b n
  have e1 : be4 n = b.take 4 := by rw [hn]; exact be4_wrd l4
  have et : b.take (n + 9) = b.take 4 ++ ((b.drop 4).take 4 ++ ((b.drop 8).take n ++ [229])) := by
    have e9 : b = (b.take 4 ++ ((b.drop 4).take 4 ++ ((b.drop 8).take n ++ [229]))) ++ b.drop (n + 8 + 1) := by
      conv => lhs; rw [e, last_of h3]
      simp
    conv => lhs; rw [e9]
    refine List.take_left' ?_
    rw [List.length_append, List.length_append, List.length_append, l4, m4, c4]
    simp; omega
  rw [et]
  unfold frm
  rw [c4, e1]
  constructor
  · intro h
    have h5 := List.append_cancel_left h
    have h6 := List.append_inj_left h5 (by rw [be4_length, m4])
    rw [← h6, wrd_be4 _ (crc0_lt _)]
  · intro h
    rw [h, be4_wrd m4]

/-- A frame that is cut is torn. -/
theorem rd_cut (l : List UInt8) (hl : l.length ≤ 16384) (k : Nat) (hk : k < l.length + 9) : rd ((frm l).take k) = ([], 0, 3) := by
  have hlen : ((frm l).take k).length = k := by rw [List.length_take, frm_length]; omega
  by_cases h8 : k < 8
  · exact rd_short (by omega)
  · have t4 : ((frm l).take k).take 4 = be4 l.length := by
      rw [List.take_take, show min 4 k = 4 by omega]
      exact List.take_left' (be4_length _)
    have hw : wrd (((frm l).take k).take 4) = l.length := by rw [t4, wrd_be4 _ (by omega)]
    exact rd_torn (by omega) (by omega) (by omega)
theorem frm_inj {l m : List UInt8} (hl : l.length ≤ 16384) (hm : m.length ≤ 16384) (h : frm l = frm m) : l = m := by
  have e1 := rd_frm l [] hl
  have e2 := rd_frm m [] hm
  rw [h, e2] at e1
  exact (congrArg Prod.fst e1).symm

/-- One byte that is other is seen by the sum. -/
theorem one_seen (l : List UInt8) (k : Nat) (x y : UInt8) (hx : l[k]? = some x) : crc 3988292384 (l.set k (x ^^^ y)) = crc 3988292384 l ↔ y = 0 := by
  obtain ⟨hk, e⟩ := List.getElem?_eq_some_iff.1 hx
  have e1 : l = l.take k ++ ([x] ++ l.drop (k + 1)) := by
    rw [← e]
    simp
  have e2 : l.set k (x ^^^ y) = l.take k ++ ([x ^^^ y] ++ l.drop (k + 1)) := by
    rw [List.set_eq_take_append_cons_drop, if_pos hk]
    rfl
  rw [e2]
  conv => lhs; rhs; rw [e1]
  rw [seen (by decide) (by decide) (l.take k) [x] [x ^^^ y] (l.drop (k + 1)) (stpN 3988292384 8 y.toNat) (stpN_lt (by decide) (by have := y.toNat_lt; omega) 8)
    (fun r => by show upd _ _ _ = _; rw [UInt8.toNat_xor, run_byte]; rfl)]
  constructor
  · intro h
    have := stpN_inj (by decide) (by decide) (by have := y.toNat_lt; omega) 8 h
    exact UInt8.toNat_inj.1 this
  · rintro rfl
    exact stpN_zero _ 8
theorem at_right (a b : List UInt8) (k : Nat) (ha : a.length = 4) : (a ++ b)[4 + k]? = b[k]? := by
  rw [List.getElem?_append_right (by omega), ha, Nat.add_sub_cancel_left]
theorem set_right (a b : List UInt8) (k : Nat) (x : UInt8) (ha : a.length = 4) : (a ++ b).set (4 + k) x = a ++ b.set k x := by
  rw [List.set_append_right _ _ (by omega), ha, Nat.add_sub_cancel_left]
theorem xor_same {x y : UInt8} (h : x ^^^ y = x) : y = 0 := by
  have h1 := congrArg UInt8.toNat h
  rw [UInt8.toNat_xor] at h1
  apply UInt8.toNat_inj.1
  have h2 : x.toNat ^^^ (x.toNat ^^^ y.toNat) = x.toNat ^^^ x.toNat := by rw [h1]
  rwa [← Nat.xor_assoc, Nat.xor_self, Nat.zero_xor] at h2
theorem set_same {l : List UInt8} {k : Nat} {x y : UInt8} (hx : l[k]? = some x) (h : l.set k (x ^^^ y) = l) : y = 0 := by
  obtain ⟨hk, _⟩ := List.getElem?_eq_some_iff.1 hx
  have h1 : (l.set k (x ^^^ y))[k]? = some (x ^^^ y) := by rw [List.getElem?_set_self hk]
  rw [h, hx] at h1
  injection h1 with h1
  exact xor_same h1.symm

/-- A frame of which a byte behind its number is other is none. -/
theorem flip_seen (l : List UInt8) (hl : l.length ≤ 16384) (k : Nat) (x y : UInt8) (hx : (frm l)[4 + k]? = some x) : (rd ((frm l).set (4 + k) (x ^^^ y))).2.2 = 0 ↔ y = 0 := by
  obtain ⟨hk, _⟩ := List.getElem?_eq_some_iff.1 hx
  rw [frm_length] at hk
  constructor
  · intro h
    obtain ⟨h1, h2, h3⟩ := rd_ok h
    obtain ⟨m, hm⟩ : ∃ m, m = (rd ((frm l).set (4 + k) (x ^^^ y))).1 := ⟨_, rfl⟩
    rw [h2, ← hm] at h3
    rw [← hm] at h1
    have e4 : be4 m.length = be4 l.length := by
      have e := congrArg (List.take 4) h3
      rw [List.take_set_of_le (by omega), show (frm m ++ _).take 4 = be4 m.length from by unfold frm; rw [List.append_assoc]; exact List.take_left' (be4_length _)] at e
      rw [← e]
      unfold frm
      exact List.take_left' (be4_length _)
    have el : m.length = l.length := be4_inj (by omega) (by omega) e4
    have h3' : (frm l).set (4 + k) (x ^^^ y) = frm m := by
      conv => lhs; rw [h3]
      rw [List.drop_eq_nil_of_le (by rw [List.length_set, frm_length, el]; exact Nat.le_refl _), List.append_nil]
    have fl : frm l = be4 l.length ++ (be4 (crc 3988292384 l) ++ (l ++ [229])) := rfl
    have h5 : (be4 (crc 3988292384 l) ++ (l ++ [229])).set k (x ^^^ y) = be4 (crc 3988292384 m) ++ (m ++ [229]) := by
      have e := congrArg (List.drop 4) h3'
      rw [List.drop_set, if_neg (by omega), show 4 + k - 4 = k by omega, fl, List.drop_left' (be4_length _)] at e
      rw [e]
      exact List.drop_left' (be4_length _)
    have hx5 : (be4 (crc 3988292384 l) ++ (l ++ [229]))[k]? = some x := by
      rw [← hx, fl, at_right _ _ _ (be4_length _)]
    by_cases hk4 : k < 4
    · have h6 : (be4 (crc 3988292384 l)).set k (x ^^^ y) ++ (l ++ [229]) = be4 (crc 3988292384 m) ++ (m ++ [229]) := by rw [← h5, List.set_append_left _ _ (by rw [be4_length]; exact hk4)]
      obtain ⟨h7, h8⟩ := List.append_inj h6 (by rw [List.length_set]; rfl)
      have h9 := (List.append_inj h8 el.symm).1
      subst h9
      refine set_same (l := be4 (crc 3988292384 l)) (k := k) (x := x) ?_ h7
      rw [← hx5, List.getElem?_append_left (by rw [be4_length]; exact hk4)]
    · obtain ⟨j, rfl⟩ : ∃ j, k = 4 + j := ⟨k - 4, by omega⟩
      have h6 : be4 (crc 3988292384 l) ++ (l ++ [229]).set j (x ^^^ y) = be4 (crc 3988292384 m) ++ (m ++ [229]) := by
        rw [← h5, set_right _ _ _ _ (be4_length _)]
      obtain ⟨h7, h8⟩ := List.append_inj h6 rfl
      have hx6 : (l ++ [229])[j]? = some x := by
        rw [← hx5, at_right _ _ _ (be4_length _)]
      have hcc := be4_inj (crc0_lt l) (crc0_lt m) h7
      by_cases hj : j < l.length
      · rw [List.set_append_left _ _ hj] at h8
        have h9 := (List.append_inj h8 (by rw [List.length_set]; exact el.symm)).1
        refine (one_seen l j x y ?_).1 (by rw [h9]; exact hcc.symm)
        rw [← hx6, List.getElem?_append_left hj]
      · obtain rfl : j = l.length := by omega
        rw [List.set_append_right _ _ (Nat.le_refl _)] at h8
        have h9 := (List.append_inj h8 el.symm).2
        have hx7 : x = 229 := by simpa using hx6.symm
        subst hx7
        rw [Nat.sub_self] at h9
        simp only [List.set_cons_zero, List.cons.injEq, and_true] at h9
        exact xor_same h9
  · rintro rfl
    have e0 : (frm l).set (4 + k) (x ^^^ 0) = frm l := by
      obtain ⟨hk', e⟩ := List.getElem?_eq_some_iff.1 hx
      rw [show x ^^^ 0 = x by simp, ← e]
      exact List.set_getElem_self hk'
    rw [e0]
    have := rd_frm l [] hl
    rw [List.append_nil] at this
    rw [this]

/-- Rows, framed, one behind the other. -/
def joined (rs : List (List UInt8)) : List UInt8 := rs.flatMap frm
theorem joined_cons (r : List UInt8) (rs : List (List UInt8)) : joined (r :: rs) = frm r ++ joined rs := by simp [joined]
theorem joined_snoc (r : List UInt8) (rs : List (List UInt8)) : joined (rs ++ [r]) = joined rs ++ frm r := by simp [joined]
theorem joined_append (a b : List (List UInt8)) : joined (a ++ b) = joined a ++ joined b := by simp [joined]
/-- The rows that bytes begin with, one behind the other, up to what is none. -/
structure Parted (b : List UInt8) (rs : List (List UInt8)) (t : List UInt8) : Prop where
  is : b = joined rs ++ t
  fit : ∀ r ∈ rs, r.length ≤ 16384
/-- What was laid is found first. -/
theorem Parted.first {t' t : List UInt8} (ht : (rd t).2.2 ≠ 0) : ∀ {rs' rs : List (List UInt8)} {b : List UInt8}, Parted b rs t → Parted b rs' t' → ∃ more, rs = rs' ++ more ∧ t' = joined more ++ t
  | [], rs, b, h, h' => ⟨rs, rfl, by rw [← h.is, h'.is]; rfl⟩
  | r' :: rs', rs, b, h, h' => by
    have e' := h'.is
    rw [joined_cons, List.append_assoc] at e'
    have hr' := rd_frm r' (joined rs' ++ t') (h'.fit r' (by simp))
    rw [← e'] at hr'
    cases rs with
    | nil =>
      have e := h.is
      have : b = t := e
      rw [this] at hr'
      rw [hr'] at ht
      exact absurd rfl ht
    | cons r rs =>
      have e := h.is
      rw [joined_cons, List.append_assoc] at e
      have hr := rd_frm r (joined rs ++ t) (h.fit r (by simp))
      rw [← e, hr'] at hr
      have hrr : r' = r := congrArg Prod.fst hr
      subst hrr
      rw [e'] at e
      have e2 := List.append_cancel_left e
      obtain ⟨more, h1, h2⟩ := Parted.first ht (rs' := rs') (rs := rs) (b := joined rs' ++ t') ⟨e2, fun x hx => h.fit x (by simp [hx])⟩ ⟨rfl, fun x hx => h'.fit x (by simp [hx])⟩
      exact ⟨more, by rw [h1]; rfl, h2⟩
theorem joined_ge (rs : List (List UInt8)) : 9 * rs.length ≤ (joined rs).length := by
  induction rs with
  | nil => simp
  | cons r rs ih => rw [joined_cons, List.length_append, frm_length, List.length_cons]; omega
theorem rd_nil : rd [] = ([], 0, 3) := rd_short (by simp)

end Go.Proofs.Ytjijdkdpmbfdmaa
