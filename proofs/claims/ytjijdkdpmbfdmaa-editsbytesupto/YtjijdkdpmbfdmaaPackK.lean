/-
  Several texts, one behind the other. No statement is proved here.
-/
import Derived.Test.YtjijdkdpmbfdmaaMem
import Derived.Lib.EndianBits
import Derived.Test.YtjijdkdpmbfdmaaProg
import Derived.Lib.SliceRun
import Derived.BigQuiet
import Derived.Deep.QuietTactic
/-
  Numbers as eight bytes, most significant first: plain mathematics. No statement is proved here.
-/
namespace Go.Proofs.Ytjijdkdpmbfdmaa
open Go.RowKit

/-- Byte k of the eight of a number. -/
def byteAt (n : Int) (k : Nat) : UInt8 := UInt8.ofNat ((IntKind.u64.wrap n).toNat / 2 ^ (56 - 8 * k))
/-- The eight bytes of a number. -/
def be8 (n : Int) : List UInt8 := (List.range 8).map (byteAt n)
/-- The number that bytes are, without a sign. -/
def rdU (l : List UInt8) : Nat := l.foldl (fun a c => a * 256 + c.toNat) 0
/-- The number that eight bytes are. -/
def rdN (l : List UInt8) : Int := wrap64 (rdU l)

theorem u64_bounds (n : Int) : 0 ≤ IntKind.u64.wrap n ∧ IntKind.u64.wrap n < 18446744073709551616 := by
  have h : IntKind.u64.wrap n = n % 18446744073709551616 := by simp [IntKind.wrap, IntKind.signed, IntKind.bits]
  rw [h]; omega
theorem bv_byteAt (n : Int) (k : Nat) (hk : k < 8) : bv (byteAt n k) = .int .u8 (IntKind.u8.wrap (IntKind.u64.wrap n / 2 ^ (56 - 8 * (k : Int)).toNat)) := by
  have hb := u64_bounds n
  unfold bv byteAt
  generalize IntKind.u64.wrap n = u at hb ⊢
  obtain ⟨m, rfl⟩ := Int.eq_ofNat_of_zero_le hb.1
  have e : (56 - 8 * (k : Int)).toNat = 56 - 8 * k := by omega
  have e2 : (2 : Int) ^ (56 - 8 * k) = ((2 ^ (56 - 8 * k) : Nat) : Int) := by simp
  have e3 : ∀ x : Nat, IntKind.u8.wrap (x : Int) = ((x % 256 : Nat) : Int) := by intro x; simp [IntKind.wrap, IntKind.signed, IntKind.bits]
  rw [e, e2, ← Int.natCast_ediv, e3]
  simp
theorem be8_length (n : Int) : (be8 n).length = 8 := by simp [be8]
theorem be8_at (n : Int) (k : Nat) (hk : k < 8) : (be8 n)[k]? = some (byteAt n k) := by simp [be8, hk]
theorem be8_succ (n : Int) (k : Nat) (hk : k < 8) : (be8 n).take (k + 1) = (be8 n).take k ++ [byteAt n k] := by
  rw [List.take_succ_eq_append_getElem (by rw [be8_length]; exact hk)]
  congr 2
  have := be8_at n k hk
  rw [List.getElem?_eq_getElem (by rw [be8_length]; exact hk)] at this
  exact Option.some.inj this
theorem rdU_snoc (l : List UInt8) (c : UInt8) : rdU (l ++ [c]) = rdU l * 256 + c.toNat := by simp [rdU]
theorem rdU_lt (l : List UInt8) : rdU l < 256 ^ l.length := by
  induction l using rev_ind with
  | h0 => simp [rdU]
  | h1 l c ih =>
    have hc := c.toNat_lt
    rw [rdU_snoc, List.length_append, List.length_singleton, Nat.pow_succ]
    omega
theorem rdU_take (n : Int) (k : Nat) (hk : k ≤ 8) : rdU ((be8 n).take k) = (IntKind.u64.wrap n).toNat / 2 ^ (64 - 8 * k) := by
  have hb := u64_bounds n
  induction k with
  | zero =>
    have : (IntKind.u64.wrap n).toNat / 2 ^ (64 - 8 * 0) = 0 := Nat.div_eq_of_lt (by simp only [Nat.mul_zero, Nat.sub_zero]; omega)
    rw [this]; rfl
  | succ k ih =>
    rw [be8_succ n k (by omega), rdU_snoc, ih (by omega)]
    have e1 : 64 - 8 * k = (56 - 8 * k) + 8 := by omega
    have e2 : 64 - 8 * (k + 1) = 56 - 8 * k := by omega
    rw [e1, e2, Nat.pow_add, ← Nat.div_div_eq_div_mul]
    unfold byteAt
    have e3 : (UInt8.ofNat ((IntKind.u64.wrap n).toNat / 2 ^ (56 - 8 * k))).toNat = (IntKind.u64.wrap n).toNat / 2 ^ (56 - 8 * k) % 256 := by simp
    rw [e3]
    omega
theorem rdU_be8 (n : Int) : rdU (be8 n) = (IntKind.u64.wrap n).toNat := by
  have h := rdU_take n 8 (by omega)
  rw [List.take_of_length_le (by rw [be8_length]; omega)] at h
  simpa using h
theorem rdN_be8 (n : Int) (h1 : -9223372036854775808 ≤ n) (h2 : n ≤ 9223372036854775807) : rdN (be8 n) = n := by
  unfold rdN
  rw [rdU_be8]
  have h : IntKind.u64.wrap n = n % 18446744073709551616 := by simp [IntKind.wrap, IntKind.signed, IntKind.bits]
  have hb := u64_bounds n
  rw [Int.toNat_of_nonneg hb.1, h]
  unfold wrap64
  omega
theorem rdN_bounds (l : List UInt8) : -9223372036854775808 ≤ rdN l ∧ rdN l ≤ 9223372036854775807 := by
  unfold rdN wrap64
  omega

theorem or_step (a : Nat) (x : UInt8) (ha : a < 72057594037927936) : bits .or .u64 (IntKind.u64.wrap ((a : Int) * 256)) (IntKind.u64.wrap (x.toNat : Int)) = ((a * 256 + x.toNat : Nat) : Int) := by
  have hx := x.toNat_lt
  rw [wraps_u64 _ (by omega) (by omega), wraps_u64 _ (by omega) (by omega)]
  rw [bits_join .u64 64 (by decide) wraps_u64 8 _ _ (by omega) (by omega) (by omega) (by omega) (by omega) (by omega)]
  omega
theorem rdU_lt8 (l : List UInt8) (h : l.length < 8) : rdU l < 72057594037927936 := by
  have h1 := rdU_lt l
  have h2 : 256 ^ l.length ≤ 256 ^ 7 := Nat.pow_le_pow_right (by decide) (by omega)
  have h3 : 256 ^ 7 = 72057594037927936 := rfl
  omega

end Go.Proofs.Ytjijdkdpmbfdmaa

/-
  The contracts of package pack: what a Writer's and a Reader's methods do. No statement is proved here.
-/
namespace Go.Proofs.Ytjijdkdpmbfdmaa
open Go.RowKit

theorem Try.infoU8 : (Try.prog.info? 5).map (fun i => (i.zero, i.size, i.bytes)) = some (some (.int .u8 0), 1, 1) := by kernel_rfl

/-- A Writer at block b has the bytes xs; it and its row lie in F. -/
def Wr (w : World) (F : Nat → Prop) (b : Nat) (xs : List UInt8) : Prop :=
  ∃ A c, w.heap[b]? = some (.cells #[.slice A xs.length c] 77 (0, 0)) ∧ w.ownsRow 0 5 1 (.slice A xs.length c) xs.length (xs.map bv) ∧ F b ∧
    (∀ k, (Value.slice A xs.length c).ownBlock = some k → F k) ∧ ∀ k, F k → k < w.heap.size

theorem Wr.keep {S F : Nat → Prop} {w w' : World} {b : Nat} {xs : List UInt8} (h : Wr w F b xs) (k : Kept S w w') (hd : ∀ i, F i → ¬ S i) : Wr w' F b xs := by
  obtain ⟨A, c, hb, hown, hF, hFv, hlt⟩ := h
  exact ⟨A, c, k.blk hb (hd b hF), own_keep hown k (fun i hi => hd i (hFv i hi)), hF, hFv, fun i hi => Nat.lt_of_lt_of_le (hlt i hi) k.size⟩

theorem Wr.lt {F : Nat → Prop} {w : World} {b : Nat} {xs : List UInt8} (h : Wr w F b xs) : ∀ i, F i → i < w.heap.size := by
  obtain ⟨A, c, _, _, _, _, hlt⟩ := h
  exact hlt
theorem Wr.mono {F G : Nat → Prop} {w : World} {b : Nat} {xs : List UInt8} (h : Wr w F b xs) (hF : ∀ i, F i → G i) (hG : ∀ i, G i → i < w.heap.size) : Wr w G b xs := by
  obtain ⟨A, c, hb, hown, hF', hFv, _⟩ := h
  exact ⟨A, c, hb, hown, hF _ hF', fun k hk => hF _ (hFv k hk), hG⟩

theorem Wr.new (w : World) : Wr (w.alloc (.cells #[.slice none 0 0] 77)) (fun k => k = w.heap.size) w.heap.size [] :=
  ⟨none, 0, heap_alloc_new w _, World.ownsRow_nil _ _ _ _, rfl, fun k hk => by simp [Value.ownBlock] at hk, fun k hk => by simp; omega⟩

/-- What is stored back into a Writer behind an append. -/
theorem Wr.next {F : Nat → Prop} {w w0 w1 : World} {b : Nat} {xs ys : List UInt8} {A A' : Option Addr} {c c' n : Nat}
    (hb : w.heap[b]? = some (.cells #[.slice A xs.length c] 77 (0, 0))) (hF : F b) (hFv : ∀ k, (Value.slice A xs.length c).ownBlock = some k → F k) (hlt : ∀ k, F k → k < w.heap.size)
    (hn : (xs ++ ys).length = n) (k0 : Kept noBlock w w0) (hown : w1.ownsRow 0 5 1 (.slice A' n c') n ((xs ++ ys).map bv)) (k1 : Kept (fun k => (Value.slice A xs.length c).ownBlock = some k) w0 w1)
    (hat : ∀ k, (Value.slice A' n c').ownBlock = some k → (Value.slice A xs.length c).ownBlock = some k ∨ fresh w0 w1 k) (hne : (Value.slice A xs.length c).ownBlock ≠ some b) :
    Kept F w (w1.setCell ⟨b, 0, none⟩ (.slice A' n c')) ∧ Wr (w1.setCell ⟨b, 0, none⟩ (.slice A' n c')) (fun k => F k ∨ fresh w (w1.setCell ⟨b, 0, none⟩ (.slice A' n c')) k) b (xs ++ ys) := by
  subst hn
  have k2 : Kept F w0 w1 := k1.mono fun i _ hi => hFv i hi
  have k01 : Kept F w w1 := (k0.mono (fun _ _ h => h.elim)).step k2
  have kk : Kept F w (w1.setCell ⟨b, 0, none⟩ (.slice A' (xs ++ ys).length c')) := k01.step (Kept.setCell w1 (by exact hF) _)
  have hb1 : w1.heap[b]? = some (.cells #[.slice A xs.length c] 77 (0, 0)) := k1.blk (k0.blk hb (fun h => h)) hne
  have hsz : (w1.setCell ⟨b, 0, none⟩ (.slice A' (xs ++ ys).length c')).heap.size = w1.heap.size := by simp [World.setCell]
  refine ⟨kk, A', c', ?_, ?_, .inl hF, ?_, ?_⟩
  · have := heap_setCell_same w1 b 0 _ 77 (.slice A' (xs ++ ys).length c') hb1
    simpa using this
  · refine own_keep hown (Kept.setCell (S := fun k => k = b) w1 (by rfl) _) fun i hi e => ?_
    subst e
    exact own_ne hown hb1 (by decide) hi
  · intro k hk
    rcases hat k hk with h | h
    · exact .inl (hFv k h)
    · exact .inr ⟨Nat.le_trans k0.size h.1, by rw [hsz]; exact h.2⟩
  · intro k hk
    rcases hk with h | h
    · exact Nat.lt_of_lt_of_le (hlt k h) kk.size
    · exact h.2

/-- Two steps on a Writer are one. -/
theorem Wr.join {F : Nat → Prop} {w w1 w2 : World} {b : Nat} {xs : List UInt8} (k1 : Kept F w w1) (r : Kept (fun k => F k ∨ fresh w w1 k) w1 w2 ∧ Wr w2 (fun k => (F k ∨ fresh w w1 k) ∨ fresh w1 w2 k) b xs) :
    Kept F w w2 ∧ Wr w2 (fun k => F k ∨ fresh w w2 k) b xs := by
  refine ⟨k1.trans r.1 (fun i hi h => h.elim (fun h => h) (fun h => absurd h.1 (by omega))), r.2.mono (fun i hi => ?_) (fun i hi => ?_)⟩
  · rcases hi with (h | h) | h
    · exact .inl h
    · exact .inr ⟨h.1, Nat.lt_of_lt_of_le h.2 r.1.size⟩
    · exact .inr ⟨Nat.le_trans k1.size h.1, h.2⟩
  · rcases hi with h | h
    · exact r.2.lt i (.inl (.inl h))
    · exact h.2

/-- A step on a Writer, behind one that only made new blocks. -/
theorem Wr.after {F : Nat → Prop} {w w0 w1 : World} {b : Nat} {xs : List UInt8} (k0 : Kept noBlock w w0) (hlt : ∀ k, F k → k < w.heap.size) (r : Kept F w0 w1 ∧ Wr w1 (fun k => F k ∨ fresh w0 w1 k) b xs) :
    Kept F w w1 ∧ Wr w1 (fun k => F k ∨ fresh w w1 k) b xs := by
  have kk : Kept F w w1 := (k0.mono (fun _ _ h => h.elim)).step r.1
  refine ⟨kk, r.2.mono (fun i hi => ?_) (fun i hi => ?_)⟩
  · rcases hi with h | h
    · exact .inl h
    · exact .inr ⟨Nat.le_trans k0.size h.1, h.2⟩
  · rcases hi with h | h
    · exact Nat.lt_of_lt_of_le (hlt i h) kk.size
    · exact h.2

set_option maxHeartbeats 400000 in
theorem wbyte_any (b : Nat) (F : Nat → Prop) (xs : List UInt8) (c : UInt8) (w : World) (h : Wr w F b xs) (hx : xs.length + 1 ≤ 140737488355328) :
    Calls Try.prog 34 #[.pointer (some ⟨b, 0, none⟩), bv c] w fun e w' => e = .returned (.pointer (some ⟨b, 0, none⟩)) ∧ Kept F w w' ∧ Wr w' (fun k => F k ∨ fresh w w' k) b (xs ++ [c]) := by
  obtain ⟨A, cp, hb, hown, hF, hFv, hlt⟩ := h
  have hbl : b < w.heap.size := hlt b hF
  have hne := own_ne hown hb (by decide)
  have hcell : w.cell? ⟨b, 0, none⟩ = some (.slice A xs.length cp) := by simp [World.cell?, hb]
  have HB := Lib.hid hb; clear hb
  have HN := Lib.hid hne; clear hne
  unfold bv
  go_enter Try.func34, Try.ntmps34
  go_wp2_with (at_builtin; refine wpList_append_src rfl (.tmp 9) (.tmp 11) 28 28 rfl 5 (.int .u8 0) 1 1 Try.underlying28 Try.infoU8 rfl (.slice A xs.length cp) xs.length (xs.map bv) rfl (hown.alloc _) _ 1 [bv c] rfl (src_new Try.underlying28 _ rfl (heap_alloc_new _ _)) ?c3 ?c4 ?_)
  case c3 => unfold maxLen; omega
  case c4 => omega
  intro A' c' w1 hown1 k1 hat
  have hb1 := k1.blk ((Kept.alloc noBlock w _).blk HB.out (fun h => h)) HN.out
  have hc1 : w1.cell? ⟨b, 0, none⟩ = some (.slice A xs.length cp) := by simp [World.cell?, hb1]
  have hf1 : w1.frozen? ⟨b, 0, none⟩ = false := frozen_of_row _ _ _ _ _ hb1
  have R := Lib.hid (Wr.next (ys := [c]) HB.out hF hFv hlt (by simp) (Kept.alloc noBlock w _) (by simpa using hown1) k1 hat HN.out)
  clear hown1 hat hb1 hown k1
  go_wp2
  go_ret
  exact ⟨rfl, R.out⟩


theorem wnum_step {n : Int} {k : Nat} {xs ys : List UInt8} (hk : k < 8) (h : Hid (ys = xs ++ (be8 n).take k)) : Hid (ys ++ [byteAt n k] = xs ++ (be8 n).take (k + 1)) := by
  unfold Hid at *
  rw [h, be8_succ n k hk, List.append_assoc]

set_option maxHeartbeats 400000 in
theorem wnum_any (b : Nat) (F : Nat → Prop) (xs : List UInt8) (n : Int) (w : World) (h : Wr w F b xs) (hx : xs.length + 8 ≤ 140737488355328) :
    Calls Try.prog 32 #[.pointer (some ⟨b, 0, none⟩), .int .i64 n] w fun e w' => e = .returned (.pointer (some ⟨b, 0, none⟩)) ∧ Kept F w w' ∧ Wr w' (fun k => F k ∨ fresh w w' k) b (xs ++ be8 n) := by
  go_enter Try.func32, Try.ntmps32
  go_wp2
  go_loopw [5] (fun s wr => ∃ (k : Nat) (ys : List UInt8), k ≤ 8 ∧ s = .int .i64 (56 - 8 * (k : Int)) ∧ Hid (ys = xs ++ (be8 n).take k) ∧ ys.length + 8 ≤ 140737488355328 + k ∧ Kept F w wr ∧ Wr wr (fun k => F k ∨ fresh w wr k) b ys) (fun s _ => (intOf s + 8).toNat)
  case atStart => exact ⟨0, xs, by omega, rfl, by unfold Hid; simp, by omega, Kept.refl _ _, h.mono (fun k hk => .inl hk) (fun k hk => hk.elim (h.lt k) (fun h => h.2))⟩
  case round =>
    obtain ⟨k, ys, hk, rfl, hys, hly, hkept, A, cp, hb, hown, hF, hFv, hlt⟩ := hrel
    have hcell : wr.cell? ⟨b, 0, none⟩ = some (.slice A ys.length cp) := by simp [World.cell?, hb]
    by_cases hlt8 : k < 8
    · have hbl : b < wr.heap.size := hlt b hF
      have HN := Lib.hid (own_ne hown hb (by decide))
      have HB := Lib.hid hb; clear hb
      have HV := Lib.hid (bv_byteAt n k hlt8)
      go_wp2
      go_region_law (refine step_append_src rfl (.tmp 14) (.tmp 20) 28 28 rfl 5 (.int .u8 0) 1 1 Try.underlying28 Try.infoU8 rfl (.slice A ys.length cp) ys.length (ys.map bv) rfl (by exact hown.alloc _) _ 1 [bv (byteAt n k)] rfl (by rw [HV.out]; exact src_new Try.underlying28 _ rfl (heap_alloc_new _ _)) (by unfold maxLen; omega) (by omega) ?_; intro A' c' w1 hown1 k1 hat; have hb1 := k1.blk ((Kept.alloc noBlock wr _).blk HB.out (fun h => h)) HN.out; have hc1 : w1.cell? ⟨b, 0, none⟩ = some (.slice A ys.length cp) := (cell_of_row _ _ _ _ _ _ hb1); have hf1 : w1.frozen? ⟨b, 0, none⟩ = false := frozen_of_row _ _ _ _ _ hb1; have R := Lib.hid (Wr.next (ys := [byteAt n k]) HB.out hF hFv hlt (by simp) ((Kept.alloc noBlock wr _).step (Kept.drew noBlock _)) (by simpa using hown1) k1 hat HN.out); clear hown1 hat hb1 hown k1)
      all_goals
        go_wp2
        go_roundw
        case rel =>
          have J := Wr.join hkept R.out
          exact ⟨k + 1, ys ++ [byteAt n k], by omega, by go_num, wnum_step hlt8 hys, by simp; omega, J.1, J.2⟩
        case measure => simp [intOf]; omega
    · obtain rfl : k = 8 := by omega
      go_wp2
      go_ret
      rw [List.take_of_length_le (by rw [be8_length]; omega)] at hys
      refine ⟨rfl, hkept, ?_⟩
      rw [← hys.out]
      exact ⟨A, cp, hb, hown, hF, hFv, hlt⟩

set_option maxHeartbeats 400000 in
theorem wtext_any (b : Nat) (F : Nat → Prop) (xs : List UInt8) (s : ByteArray) (w : World) (h : Wr w F b xs) (hx : xs.length + 8 + s.size ≤ 140737488355328) :
    Calls Try.prog 33 #[.pointer (some ⟨b, 0, none⟩), .string s] w fun e w' => e = .returned (.pointer (some ⟨b, 0, none⟩)) ∧ Kept F w w' ∧ Wr w' (fun k => F k ∨ fresh w w' k) b (xs ++ (be8 s.size ++ s.data.toList)) := by
  obtain ⟨ys, hys⟩ : ∃ ys, ys = xs ++ be8 s.size := ⟨_, rfl⟩
  have hyl : ys.length = xs.length + 8 := by rw [hys, List.length_append, be8_length]
  have hye : xs ++ (be8 s.size ++ s.data.toList) = ys ++ s.data.toList := by rw [hys, List.append_assoc]
  rw [hye]
  have HY := Lib.hid hys; clear hys hye
  have HL := Lib.hid hyl; clear hyl
  go_enter Try.func33, Try.ntmps33
  go_wp2_with fail
  refine (wnum_any b F xs _ w h (by omega)).mono ?_
  rintro e w1 ⟨rfl, k1, hw⟩
  rw [← HY.out] at hw
  obtain ⟨A, cp, hb, hown, hF, hFv, hlt⟩ := hw
  have hbl : b < w1.heap.size := hlt b hF
  have HN := Lib.hid (own_ne hown hb (by decide))
  have hc0 : w1.cell? ⟨b, 0, none⟩ = some (.slice A ys.length cp) := cell_of_row _ _ _ _ _ _ hb
  have HB := Lib.hid hb; clear hb
  go_wp2_with (at_builtin; refine wpList_append_src rfl (.tmp 13) (.tmp 14) 28 9 rfl 5 (.int .u8 0) 1 1 Try.underlying28 Try.infoU8 rfl (.slice A ys.length cp) ys.length (ys.map bv) rfl hown _ s.size (byteCells s) rfl (Src.ofString w1 Try.underlying9 s) ?c3 ?c4 ?_)
  case c3 => unfold maxLen; have := HL.out; omega
  case c4 => have := HL.out; omega
  intro A' c' w2 hown2 k2 hat
  have hb2 := k2.blk HB.out HN.out
  have hc2 : w2.cell? ⟨b, 0, none⟩ = some (.slice A ys.length cp) := cell_of_row _ _ _ _ _ _ hb2
  have hf2 : w2.frozen? ⟨b, 0, none⟩ = false := frozen_of_row _ _ _ _ _ hb2
  have R := Lib.hid (Wr.next (ys := s.data.toList) HB.out hF hFv hlt (by simp) (Kept.refl noBlock w1) (by rw [List.map_append]; exact hown2) k2 hat HN.out)
  clear hown2 hat hb2 hown
  go_wp2
  go_ret
  exact ⟨rfl, Wr.join k1 R.out⟩

end Go.Proofs.Ytjijdkdpmbfdmaa

/-
  The contracts of package pack, second part: a Writer's Bytes, and a Reader's methods. No statement is proved here.
-/
namespace Go.Proofs.Ytjijdkdpmbfdmaa
open Go.RowKit

set_option maxHeartbeats 400000 in
theorem clone_any (F : Nat → Prop) (a : Option Addr) (n c : Nat) (l : List UInt8) (w : World) (h : Lies w F a (l.map bv)) (hl : l.length = n) (hx : n ≤ 140737488355328) :
    Calls Try.prog 52 #[.slice a n c] w fun e w' => ∃ A c', e = .returned (.slice A n c') ∧ w'.ownsRow w.heap.size 5 1 (.slice A n c') n (l.map bv) ∧ Kept noBlock w w' := by
  have hq : ∀ (w : World) (a : Option Addr) (n c n' c' : Nat), (binOp .eql 28 (.slice a n c) (.slice none n' c')).run Try.prog w = .ok (.bool a.isNone) w := fun w a n c n' c' => Lib.run_eql_slice_nil w _ _ a n c n' c' Try.underlying28
  cases a with
  | none =>
    obtain rfl : l = [] := by
      cases l with
      | nil => rfl
      | cons x r => obtain ⟨ad, h, _⟩ := h (by simp); cases h
    obtain rfl : n = 0 := hl.symm
    go_enter Try.func52, Try.ntmps52
    go_wp2
    go_ret
    exact ⟨none, 0, rfl, World.ownsRow_nil _ _ _ _, Kept.refl _ _⟩
  | some ad =>
    have hsrc : Src Try.prog 1 28 (.slice (some ad) n c) n (l.map bv) (w.alloc (.cells #[] 5)) :=
      src_lies Try.underlying28 (h.keep (Kept.alloc noBlock w _) (fun _ _ h => h)) (by simpa using hl) (bv_one l)
    have hown : (w.alloc (.cells #[] 5)).ownsRow 0 5 1 (.slice (some ⟨w.heap.size, 0, none⟩) 0 0) 0 [] := World.ownsRow_made w #[] 0 (Nat.zero_le _) (Nat.zero_le _) rfl
    go_enter Try.func52, Try.ntmps52
    go_wp2_with (at_builtin; refine wpList_append_src rfl (.tmp 5) (.tmp 6) 28 28 rfl 5 (.int .u8 0) 1 1 Try.underlying28 Try.infoU8 rfl _ 0 [] rfl hown _ n (l.map bv) rfl hsrc ?c3 ?c4 ?_)
    case c3 => unfold maxLen; omega
    case c4 => omega
    intro A' c' w1 hown1 k1 hat
    have R := Lib.hid hown1
    have k2 : Kept noBlock w w1 := (Kept.alloc noBlock w _).trans k1 (fun i hi h => by simp [Value.ownBlock] at h; omega)
    have hb2 : ∀ k, (Value.slice A' n c').ownBlock = some k → w.heap.size ≤ k := fun k hk => by
      rcases hat k hk with h | h
      · simp [Value.ownBlock] at h; omega
      · have := h.1; simp at this; omega
    clear hown1 hat k1
    go_wp2
    go_ret
    refine ⟨A', c', by simp, ?_, k2⟩
    have := own_base R.out hb2
    simpa using this

set_option maxHeartbeats 400000 in
theorem wbytes_any (b : Nat) (F : Nat → Prop) (xs : List UInt8) (w : World) (h : Wr w F b xs) (hx : xs.length ≤ 140737488355328) :
    Calls Try.prog 35 #[.pointer (some ⟨b, 0, none⟩)] w fun e w' => ∃ A c', e = .returned (.slice A xs.length c') ∧ w'.ownsRow w.heap.size 5 1 (.slice A xs.length c') xs.length (xs.map bv) ∧ Kept noBlock w w' := by
  obtain ⟨A, cp, hb, hown, hF, hFv, hlt⟩ := h
  have hc0 : w.cell? ⟨b, 0, none⟩ = some (.slice A xs.length cp) := cell_of_row _ _ _ _ _ _ hb
  clear hb
  go_enter Try.func35, Try.ntmps35
  go_wp2_with fail
  refine (clone_any F A xs.length cp xs w (Lies.of_own hown hFv) rfl hx).mono ?_
  rintro e w' ⟨A', c', rfl, h1, h2⟩
  have R := Lib.hid h1; clear h1
  go_wp2
  go_ret
  exact ⟨A', c', rfl, R.out, h2⟩

theorem wbytes_n (b : Nat) (F : Nat → Prop) (xs : List UInt8) (n : Nat) (w : World) (h : Wr w F b xs) (hn : xs.length = n) (hx : n ≤ 140737488355328) :
    Calls Try.prog 35 #[.pointer (some ⟨b, 0, none⟩)] w fun e w' => ∃ A c', e = .returned (.slice A n c') ∧ w'.ownsRow w.heap.size 5 1 (.slice A n c') n (xs.map bv) ∧ Kept noBlock w w' := by
  subst hn
  exact wbytes_any b F xs w h hx

/-- A Reader at block b: the bytes l are left; it reads blocks of F, of which it is one. -/
def Rd (w : World) (F : Nat → Prop) (b : Nat) (l : List UInt8) (bad : Bool) : Prop :=
  ∃ A c, w.heap[b]? = some (.cells #[.slice A l.length c, .bool bad] 112 (0, 0)) ∧ Lies w F A (l.map bv) ∧ l.length ≤ c ∧ F b ∧ ∀ k, F k → k < w.heap.size

theorem Rd.foot {F : Nat → Prop} {w : World} {b : Nat} {l : List UInt8} {bad : Bool} (h : Rd w F b l bad) : F b := by
  obtain ⟨A, c, _, _, _, hF, _⟩ := h
  exact hF

theorem Rd.lt {F : Nat → Prop} {w : World} {b : Nat} {l : List UInt8} {bad : Bool} (h : Rd w F b l bad) : ∀ i, F i → i < w.heap.size := by
  obtain ⟨A, c, _, _, _, _, hlt⟩ := h
  exact hlt

theorem Rd.keep {S F : Nat → Prop} {w w' : World} {b : Nat} {l : List UInt8} {bad : Bool} (h : Rd w F b l bad) (k : Kept S w w') (hd : ∀ i, F i → ¬ S i) : Rd w' F b l bad := by
  obtain ⟨A, c, hb, hl, hc, hF, hlt⟩ := h
  exact ⟨A, c, k.blk hb (hd b hF), hl.keep k hd, hc, hF, fun i hi => Nat.lt_of_lt_of_le (hlt i hi) k.size⟩

set_option maxHeartbeats 400000 in
theorem of_any (F : Nat → Prop) (a : Option Addr) (n c : Nat) (l : List UInt8) (w : World) (h : Lies w F a (l.map bv)) (hl : l.length = n) (hx : n ≤ 140737488355328) :
    Calls Try.prog 40 #[.slice a n c] w fun e w' => ∃ b, e = .returned (.pointer (some ⟨b, 0, none⟩)) ∧ Rd w' (fresh w w') b l false ∧ Kept noBlock w w' := by
  obtain rfl := hl
  go_enter Try.func40, Try.ntmps40
  go_wp2_with fail
  refine (clone_any F a l.length c l w h rfl hx).mono ?_
  rintro e w1 ⟨A', c', rfl, h1, h2⟩
  have R := Lib.hid h1; clear h1
  go_wp2
  go_ret
  have k3 : Kept noBlock w (w1.alloc (.cells #[.slice A' l.length c', .bool false] 112)) := h2.step (Kept.alloc _ _ _)
  refine ⟨w1.heap.size, rfl, ⟨A', c', heap_alloc_new _ _, ?_, ?_, ⟨h2.size, by simp⟩, fun k hk => hk.2⟩, k3⟩
  · refine Lies.keep (S := noBlock) (w := w1) (Lies.of_own R.out fun k hk => ⟨(R.out.lt k hk).1, ?_⟩) (Kept.alloc _ _ _) (fun _ _ h => h)
    have := (R.out.lt k hk).2; simp; omega
  · obtain ⟨_, _, e, hle⟩ := own_form R.out
    injection e with _ _ e
    omega

theorem Rd.spoil {F : Nat → Prop} {w : World} {b : Nat} {l : List UInt8} {bad : Bool} (h : Rd w F b l bad) : Rd (w.setCell ⟨b, 1, none⟩ (.bool true)) F b l true ∧ Kept (fun k => k = b) w (w.setCell ⟨b, 1, none⟩ (.bool true)) := by
  obtain ⟨A, c, hb, hl, hc, hF, hlt⟩ := h
  refine ⟨⟨A, c, ?_, fun hx => ?_, hc, hF, fun k hk => ?_⟩, Kept.setCell w (by rfl) _⟩
  · have := heap_setCell_same w b 1 _ 112 (.bool true) hb
    simpa using this
  · obtain ⟨ad, e, hf, hcell⟩ := hl hx
    refine ⟨ad, e, hf, fun j u hu => ?_⟩
    rw [World.cell?_setCell_other _ _ _ _ (fun e => ?_)]
    · exact hcell j u hu
    · have h1 := hcell j u hu
      rw [← e, cell_of_row w b 1 _ _ _ hb] at h1
      obtain ⟨x, _, hx⟩ := List.mem_map.1 (List.mem_of_getElem? hu)
      simp [← hx, bv] at h1
  · have := hlt k hk
    simpa [World.setCell] using this

set_option maxHeartbeats 400000 in
theorem take_no (b : Nat) (F : Nat → Prop) (l : List UInt8) (bad : Bool) (n : Int) (w : World) (h : Rd w F b l bad) (hn : bad = true ∨ n < 0 ∨ (l.length : Int) < n) :
    Calls Try.prog 56 #[.pointer (some ⟨b, 0, none⟩), .int .i64 n] w fun e w' => e = .returned (.slice none 0 0) ∧ Rd w' F b l true ∧ Kept (fun k => k = b) w w' := by
  have R := Lib.hid h.spoil
  obtain ⟨A, c, hb, hl, hc, hF, hlt⟩ := h
  have hc0 : w.cell? ⟨b, 0, none⟩ = some (.slice A l.length c) := cell_of_row _ _ _ _ _ _ hb
  have hc1 : w.cell? ⟨b, 1, none⟩ = some (.bool bad) := cell_of_row _ _ _ _ _ _ hb
  have hf1 : w.frozen? ⟨b, 1, none⟩ = false := frozen_of_row _ _ _ _ _ hb
  clear hb
  cases bad
  · by_cases h0 : n < 0
    · clear hn
      go_enter Try.func56, Try.ntmps56
      go_wp2
      go_ret
      exact ⟨rfl, R.out⟩
    · have h2 : (l.length : Int) < n := by
        rcases hn with hn | hn | hn
        · cases hn
        · exact absurd hn h0
        · exact hn
      clear hn
      go_enter Try.func56, Try.ntmps56
      go_wp2
      go_ret
      exact ⟨rfl, R.out⟩
  · clear hn
    go_enter Try.func56, Try.ntmps56
    go_wp2
    go_ret
    exact ⟨rfl, R.out⟩

theorem Rd.next {F : Nat → Prop} {w : World} {b n c c' : Nat} {l : List UInt8} {A A' : Option Addr} (hb : w.heap[b]? = some (.cells #[.slice A l.length c, .bool false] 112 (0, 0))) (hF : F b) (hlt : ∀ k, F k → k < w.heap.size)
    (hl : Lies w F A (l.map bv)) (hl' : Lies w F A' ((l.drop n).map bv)) (hc : (l.drop n).length ≤ c') :
    Lies (w.setCell ⟨b, 0, none⟩ (.slice A' (l.length - n) c')) F A ((l.take n).map bv) ∧ Rd (w.setCell ⟨b, 0, none⟩ (.slice A' (l.length - n) c')) F b (l.drop n) false ∧ Kept (fun k => k = b) w (w.setCell ⟨b, 0, none⟩ (.slice A' (l.length - n) c')) := by
  have far : ∀ {B : Option Addr} {r : List UInt8}, Lies w F B (r.map bv) → Lies (w.setCell ⟨b, 0, none⟩ (.slice A' (l.length - n) c')) F B (r.map bv) := by
    intro B r hr hx
    obtain ⟨ad, e, hf, hcell⟩ := hr hx
    refine ⟨ad, e, hf, fun j u hu => ?_⟩
    rw [World.cell?_setCell_other _ _ _ _ (fun e => ?_)]
    · exact hcell j u hu
    · have h1 := hcell j u hu
      rw [← e, cell_of_row w b 0 _ _ _ hb] at h1
      obtain ⟨x, _, hx⟩ := List.mem_map.1 (List.mem_of_getElem? hu)
      simp [← hx, bv] at h1
  refine ⟨?_, ⟨A', c', ?_, far hl', hc, hF, fun k hk => ?_⟩, Kept.setCell w (by rfl) _⟩
  · rw [List.map_take]
    exact (far hl).take n
  · have := heap_setCell_same w b 0 _ 112 (.slice A' (l.length - n) c') hb
    simpa using this
  · have := hlt k hk
    simpa [World.setCell] using this

/-- What 'take' leaves where the bytes are there. -/
def Took (w : World) (F : Nat → Prop) (b n : Nat) (l : List UInt8) (e : Ending) (w' : World) : Prop :=
  ∃ A c, e = .returned (.slice A n c) ∧ Lies w' F A ((l.take n).map bv) ∧ Rd w' F b (l.drop n) false ∧ Kept (fun k => k = b) w w'

set_option maxHeartbeats 400000 in
theorem take_yes (b : Nat) (F : Nat → Prop) (l : List UInt8) (n : Nat) (w : World) (h : Rd w F b l false) (hn : n ≤ l.length) :
    Calls Try.prog 56 #[.pointer (some ⟨b, 0, none⟩), .int .i64 (n : Int)] w (Took w F b n l) := by
  obtain ⟨A, c, hb, hl, hc, hF, hlt⟩ := h
  have hc0 : w.cell? ⟨b, 0, none⟩ = some (.slice A l.length c) := cell_of_row _ _ _ _ _ _ hb
  have hc1 : w.cell? ⟨b, 1, none⟩ = some (.bool false) := cell_of_row _ _ _ _ _ _ hb
  have hf0 : w.frozen? ⟨b, 0, none⟩ = false := frozen_of_row _ _ _ _ _ hb
  have HB := Lib.hid hb
  clear hb
  have hd := hl.drop n (cap := c) (by simpa using hc)
  rw [← List.map_drop] at hd
  by_cases hcn : c = n
  · rw [if_pos hcn] at hd
    have R := Lib.hid (Rd.next (n := n) (c' := 0) HB.out hF hlt hl hd (by simp; omega))
    clear hd
    go_enter Try.func56, Try.ntmps56
    go_wp2
    go_ret
    exact ⟨A, _, rfl, R.out⟩
  · rw [if_neg hcn] at hd
    have R := Lib.hid (Rd.next (n := n) (c' := c - n) HB.out hF hlt hl hd (by simp; omega))
    clear hd
    go_enter Try.func56, Try.ntmps56
    go_wp2
    go_ret
    exact ⟨A, _, rfl, R.out⟩

end Go.Proofs.Ytjijdkdpmbfdmaa

/-
  The contracts of package pack, third part: what a Reader reads. No statement is proved here.
-/
namespace Go.Proofs.Ytjijdkdpmbfdmaa
open Go.RowKit

/-- What Num reads: the number, what is left, and whether the Reader is bad. -/
def rNum (l : List UInt8) (bad : Bool) : Int × List UInt8 × Bool := if bad = true ∨ l.length < 8 then (0, l, true) else (rdN (l.take 8), l.drop 8, false)

theorem rNum_be8 (n : Int) (r : List UInt8) (h1 : -9223372036854775808 ≤ n) (h2 : n ≤ 9223372036854775807) : rNum (be8 n ++ r) false = (n, r, false) := by
  unfold rNum
  have hl := be8_length n
  rw [if_neg (by simp [hl]), List.take_left' hl, List.drop_left' hl, rdN_be8 n h1 h2]

/-- A Reader's method came back: with this value, and this is left. -/
def Read (w : World) (F : Nat → Prop) (b : Nat) (v : Value) (r : List UInt8 × Bool) (e : Ending) (w' : World) : Prop :=
  e = .returned v ∧ Rd w' F b r.1 r.2 ∧ Kept (fun k => k = b) w w'

set_option maxHeartbeats 400000 in
theorem rnum_any (b : Nat) (F : Nat → Prop) (l : List UInt8) (bad : Bool) (w : World) (h : Rd w F b l bad) :
    Calls Try.prog 41 #[.pointer (some ⟨b, 0, none⟩)] w (Read w F b (.int .i64 (rNum l bad).1) (rNum l bad).2) := by
  by_cases hc : bad = true ∨ l.length < 8
  · go_enter Try.func41, Try.ntmps41
    go_wp2_with fail
    refine (take_no b F l bad 8 w h (by rcases hc with h | h; exact .inl h; exact .inr (.inr (by omega)))).mono ?_
    rintro e w1 ⟨rfl, h1, h2⟩
    have R := Lib.hid h1; clear h1
    go_wp2
    refine wp_loop_rounds 1 ?_
    rw [rounds_succ]
    go_wp2
    go_ret
    unfold rNum
    rw [if_pos hc]
    exact ⟨rfl, R.out, h2⟩
  · go_enter Try.func41, Try.ntmps41
    go_wp2_with fail
    obtain rfl : bad = false := by cases bad; rfl; exact absurd (.inl rfl) hc
    refine (take_yes b F l 8 w h (by omega)).mono ?_
    rintro e w1 ⟨A, c, rfl, h1, h2, h3⟩
    have R := Lib.hid h2; clear h2
    go_wp2
    go_loop [3, 9] (fun s i => ∃ k : Nat, k ≤ 8 ∧ i = .int .i64 k ∧ s = .int .u64 (rdU (l.take k))) (fun _ i => 8 - (intOf i).toNat)
    case atStart => exact ⟨0, by omega, rfl, rfl⟩
    case round =>
      obtain ⟨k, hk, rfl, rfl⟩ := hrel
      by_cases hlt : k < 8
      · have hkl : k < l.length := by omega
        obtain ⟨x, hx⟩ : ∃ x, l[k]? = some x := ⟨_, List.getElem?_eq_getElem hkl⟩
        obtain ⟨ad, rfl, _, hcell⟩ := h1.at_ (k := k) (u := bv x) (by simp [hlt, hx])
        unfold bv at hcell
        have HX := Lib.hid hx; clear hx
        have hlen : (l.take k).length < 8 := by rw [List.length_take]; omega
        have HO := Lib.hid (or_step (rdU (l.take k)) x (rdU_lt8 _ hlen))
        go_wp2
        go_round
        case rel => exact ⟨k + 1, by omega, by go_num, by rw [HO.out, take_snoc l k x HX.out, rdU_snoc]⟩
        case measure => simp [intOf]; omega
      · obtain rfl : k = 8 := by omega
        go_wp2
        go_ret
        unfold rNum
        rw [if_neg hc]
        exact ⟨rfl, R.out, h3⟩

/-- What Byte reads. -/
def rByte (l : List UInt8) (bad : Bool) : UInt8 × List UInt8 × Bool := if bad = true ∨ l.length < 1 then (0, l, true) else (l.headD 0, l.drop 1, false)

set_option maxHeartbeats 400000 in
theorem rbyte_any (b : Nat) (F : Nat → Prop) (l : List UInt8) (bad : Bool) (w : World) (h : Rd w F b l bad) :
    Calls Try.prog 57 #[.pointer (some ⟨b, 0, none⟩)] w (Read w F b (.int .u8 ((rByte l bad).1.toNat : Int)) (rByte l bad).2) := by
  by_cases hc : bad = true ∨ l.length < 1
  · go_enter Try.func57, Try.ntmps57
    go_wp2_with fail
    refine (take_no b F l bad 1 w h (by rcases hc with h | h; exact .inl h; exact .inr (.inr (by omega)))).mono ?_
    rintro e w1 ⟨rfl, h1, h2⟩
    have R := Lib.hid h1
    obtain ⟨A, c, hb, _⟩ := h1
    have hc1 : w1.cell? ⟨b, 1, none⟩ = some (.bool true) := cell_of_row _ _ _ _ _ _ hb
    clear hb
    go_wp2
    go_ret
    unfold rByte
    rw [if_pos hc]
    exact ⟨rfl, R.out, h2⟩
  · obtain rfl : bad = false := by cases bad; rfl; exact absurd (.inl rfl) hc
    obtain ⟨x, hx⟩ : ∃ x, l[0]? = some x := ⟨_, List.getElem?_eq_getElem (by omega)⟩
    have hv : rByte l false = (x, l.drop 1, false) := by
      unfold rByte
      rw [if_neg hc]
      cases l <;> simp at hx ⊢
      exact hx
    rw [hv]
    have HV := Lib.hid hx
    clear hv hx
    go_enter Try.func57, Try.ntmps57
    go_wp2_with fail
    refine (take_yes b F l 1 w h (by omega)).mono ?_
    rintro e w1 ⟨A, c, rfl, h1, h2, h3⟩
    have R := Lib.hid h2
    obtain ⟨A2, c2, hb, _⟩ := h2
    have hc1 : w1.cell? ⟨b, 1, none⟩ = some (.bool false) := cell_of_row _ _ _ _ _ _ hb
    clear hb
    obtain ⟨ad, rfl, _, hcell⟩ := h1.at_ (k := 0) (u := bv x) (by simp [HV.out])
    have hcell' : w1.cell? ad = some (.int .u8 (x.toNat : Int)) := hcell
    clear hcell
    go_wp2
    go_ret
    exact ⟨rfl, R.out, h3⟩

/-- What Text reads. -/
def rText (l : List UInt8) (bad : Bool) : List UInt8 × List UInt8 × Bool :=
  if (rNum l bad).2.2 = true ∨ (rNum l bad).1 < 0 ∨ ((rNum l bad).2.1.length : Int) < (rNum l bad).1 then ([], (rNum l bad).2.1, true)
  else ((rNum l bad).2.1.take (rNum l bad).1.toNat, (rNum l bad).2.1.drop (rNum l bad).1.toNat, false)

set_option maxHeartbeats 400000 in
theorem rtext_any (b : Nat) (F : Nat → Prop) (l : List UInt8) (bad : Bool) (w : World) (h : Rd w F b l bad) :
    Calls Try.prog 44 #[.pointer (some ⟨b, 0, none⟩)] w (Read w F b (.string ⟨(rText l bad).1.toArray⟩) (rText l bad).2) := by
  obtain ⟨q, hq⟩ : ∃ q, rNum l bad = q := ⟨_, rfl⟩
  have hr := rnum_any b F l bad w h
  have ht : rText l bad = rText l bad := rfl
  conv at ht => rhs; unfold rText
  rw [hq] at hr ht
  obtain ⟨n, l', bad'⟩ := q
  simp only at hr ht
  by_cases hc : bad' = true ∨ n < 0 ∨ (l'.length : Int) < n
  · rw [if_pos hc] at ht
    rw [ht]
    clear ht hq
    go_enter Try.func44, Try.ntmps44
    go_wp2_with fail
    refine hr.mono ?_
    rintro e w1 ⟨rfl, h1, h2⟩
    simp only at h1
    clear hr
    go_wp2_with fail
    refine (take_no b F l' bad' n w1 h1 hc).mono ?_
    rintro e w2 ⟨rfl, h3, h4⟩
    have hcv := fun c => run_str_lies (P := Try.prog) (w := w2) (F := noBlock) 28 9 5 Try.underlying28 Try.underlying5 Try.underlying9 (a := none) (n := 0) (l := []) (Lies.nil _ _ _) rfl c
    clear h1
    go_wp2
    go_ret
    exact ⟨rfl, h3, h2.step h4⟩
  · rw [if_neg hc] at ht
    rw [ht]
    clear ht hq
    obtain rfl : bad' = false := by cases bad'; rfl; exact absurd (.inl rfl) hc
    obtain ⟨m, rfl⟩ : ∃ m : Nat, n = m := Int.eq_ofNat_of_zero_le (by omega)
    go_enter Try.func44, Try.ntmps44
    go_wp2_with fail
    refine hr.mono ?_
    rintro e w1 ⟨rfl, h1, h2⟩
    simp only at h1
    clear hr
    go_wp2_with fail
    refine (take_yes b F l' m w1 h1 (by omega)).mono ?_
    rintro e w2 ⟨A, c, rfl, h3, h4, h5⟩
    have hcv := fun c => run_str_lies (P := Try.prog) (w := w2) (F := F) 28 9 5 Try.underlying28 Try.underlying5 Try.underlying9 (a := A) (n := m) (l := l'.take m) h3 (by rw [List.length_take]; omega) c
    clear h1 h3
    go_wp2
    go_ret
    exact ⟨rfl, h4, h2.step h5⟩

end Go.Proofs.Ytjijdkdpmbfdmaa

/-
  A Reader's Bad. No statement is proved here.
-/
namespace Go.Proofs.Ytjijdkdpmbfdmaa
open Go.RowKit

theorem rbad_any (b : Nat) (F : Nat → Prop) (l : List UInt8) (bad : Bool) (w : World) (h : Rd w F b l bad) :
    Calls Try.prog 42 #[.pointer (some ⟨b, 0, none⟩)] w fun e w' => e = .returned (.bool bad) ∧ w = w' := by
  obtain ⟨A, c, hb, hl, hc, hF, hlt⟩ := h
  have hc1 : w.cell? ⟨b, 1, none⟩ = some (.bool bad) := cell_of_row _ _ _ _ _ _ hb
  clear hb
  go_enter Try.func42, Try.ntmps42
  go_wp2
  go_ret
  exact ⟨rfl, rfl⟩

end Go.Proofs.Ytjijdkdpmbfdmaa
