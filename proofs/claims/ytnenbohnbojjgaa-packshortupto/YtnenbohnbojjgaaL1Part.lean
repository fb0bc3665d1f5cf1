/-
  The parts of layer 1's statements: how one is laid, what its bytes are, how it is read. No statement is proved here.
-/
import Derived.Test.YtnenbohnbojjgaaL1Awake
import Derived.Deep.DeepCutAuto
import Derived.Deep.RegionHeld3
namespace Go.Proofs.Ytnenbohnbojjgaa
open Go.RowKit

/-- A part: its kind, its number, its text. -/
structure PartV where
  kind : UInt8
  num : Int
  text : ByteArray
def PartV.cells (p : PartV) : List Value := [.int .u8 (p.kind.toNat : Int), .int .i64 p.num, .string p.text]
def PartV.val (p : PartV) : Value := .agg #[.int .u8 (p.kind.toNat : Int), .int .i64 p.num, .string p.text]
/-- The lowest byte of a number. -/
def low (n : Int) : UInt8 := UInt8.ofNat (n % 256).toNat
theorem low_eq (n : Int) : n % 256 = ((low n).toNat : Int) := by
  unfold low
  have h2 : (UInt8.ofNat (n % 256).toNat).toNat = (n % 256).toNat % 256 := by simp
  rw [h2]
  omega
/-- The bytes of a part. -/
def PartV.bytes (p : PartV) : List UInt8 :=
  if p.kind.toNat % 3 = 0 then be8 p.num else if p.kind.toNat % 3 = 1 then [low p.num] else be8 p.text.size ++ p.text.data.toList
def PartV.ok (p : PartV) : Prop := -9223372036854775808 ≤ p.num ∧ p.num ≤ 9223372036854775807 ∧ p.text.size ≤ 1048576

theorem PartV.bytes_length (p : PartV) (h : p.ok) : p.bytes.length ≤ 1048584 := by
  unfold PartV.bytes
  have h1 := be8_length p.num
  have h2 := be8_length p.text.size
  have h3 : p.text.data.toList.length = p.text.size := by rw [Array.length_toList]; rfl
  have h4 := h.2.2
  split
  · omega
  · split
    · simp
    · rw [List.length_append]; omega

set_option maxHeartbeats 400000 in
theorem lay_any (b : Nat) (F : Nat → Prop) (xs : List UInt8) (p : PartV) (w : World) (h : Wr w F b xs) (hx : xs.length + p.bytes.length ≤ 140737488355328) :
    Calls Try.prog 11 #[.pointer (some ⟨b, 0, none⟩), p.val] w fun e w' => e = .returned (.tuple #[]) ∧ Kept F w w' ∧ Wr w' (fun k => F k ∨ fresh w w' k) b (xs ++ p.bytes) := by
  obtain ⟨kind, num, text⟩ := p
  unfold PartV.val
  unfold PartV.bytes at hx ⊢
  simp only at hx ⊢
  have h1 := h.keep (Kept.alloc noBlock w (.cells #[.int .u8 (kind.toNat : Int), .int .i64 num, .string text] 29)) (fun _ _ h => h)
  have hx3 : kind.toNat % 3 = 0 ∨ kind.toNat % 3 = 1 ∨ kind.toNat % 3 = 2 := by omega
  rcases hx3 with hx3 | hx3 | hx3
  · have t0 : ((kind.toNat : Int) % 3 == 0) = true := by simp; omega
    rw [if_pos hx3] at hx ⊢
    rw [be8_length] at hx
    clear hx3
    go_enter Try.func11, Try.ntmps11
    go_wp2_with fail
    refine (wnum_any b F xs _ _ h1 hx).mono ?_
    rintro e w1 ⟨rfl, r1⟩
    have R := Lib.hid (Wr.after (Kept.alloc noBlock w _) h.lt r1)
    clear r1 h1
    go_wp2
    go_end0
    exact ⟨rfl, R.out⟩
  · have t0 : ((kind.toNat : Int) % 3 == 0) = false := by simp; omega
    have t1 : ((kind.toNat : Int) % 3 == 1) = true := by simp; omega
    rw [if_neg (by omega), if_pos hx3] at hx ⊢
    simp only [List.length_singleton] at hx
    clear hx3
    have HU := Lib.hid (low_eq num)
    go_enter Try.func11, Try.ntmps11
    go_wp2_with fail
    rw [HU.out]
    refine (wbyte_any b F xs _ _ h1 hx).mono ?_
    rintro e w1 ⟨rfl, r1⟩
    have R := Lib.hid (Wr.after (Kept.alloc noBlock w _) h.lt r1)
    clear r1 h1
    go_wp2
    go_end0
    exact ⟨rfl, R.out⟩
  · have t0 : ((kind.toNat : Int) % 3 == 0) = false := by simp; omega
    have t1 : ((kind.toNat : Int) % 3 == 1) = false := by simp; omega
    rw [if_neg (by omega), if_neg (by omega)] at hx ⊢
    have h3 : text.data.toList.length = text.size := by rw [Array.length_toList]; rfl
    rw [List.length_append, be8_length, h3] at hx
    clear hx3 h3
    go_enter Try.func11, Try.ntmps11
    go_wp2_with fail
    refine (wtext_any b F xs _ _ h1 (by omega)).mono ?_
    rintro e w1 ⟨rfl, r1⟩
    have R := Lib.hid (Wr.after (Kept.alloc noBlock w _) h.lt r1)
    clear r1 h1
    go_wp2
    go_end0
    exact ⟨rfl, R.out⟩

theorem shr_byteAt (n : Int) (j : Nat) (hj : j < 8) : n / 2 ^ (8 * (7 - j)) % 256 = ((byteAt n j).toNat : Int) := by
  have hb := u64_bounds n
  have hu : IntKind.u64.wrap n = n % 18446744073709551616 := by simp [IntKind.wrap, IntKind.signed, IntKind.bits]
  unfold byteAt
  have h2 : ∀ m : Nat, ((UInt8.ofNat m).toNat : Int) = (m : Int) % 256 := by intro m; simp
  rw [h2, Int.natCast_ediv, Int.toNat_of_nonneg hb.1, hu]
  match j, hj with
  | 0, _ => simp; omega
  | 1, _ => simp; omega
  | 2, _ => simp; omega
  | 3, _ => simp; omega
  | 4, _ => simp; omega
  | 5, _ => simp; omega
  | 6, _ => simp; omega
  | 7, _ => simp

/-- A byte in a block of its own, as a string. -/
theorem run_str_one {w : World} {g : Nat} {y : UInt8} {fr : Nat × Nat} (hb : w.heap[g]? = some (.cells #[.int .u8 (y.toNat : Int)] 5 fr)) (c : Nat) :
    (convert 25 9 (.slice (some ⟨g, 0, none⟩) 1 c)).run Try.prog w = .ok (.string ⟨#[y]⟩) w := by
  have hl : Lies w (fun _ => True) (some ⟨g, 0, none⟩) ([y].map bv) := fun _ => ⟨⟨g, 0, none⟩, rfl, trivial, fun j u hu => by
    have := World.news_of_block hb j u (by simpa [bv] using hu)
    exact this⟩
  exact run_str_lies 25 9 5 Try.underlying25 Try.underlying5 Try.underlying9 hl rfl c

theorem add_one_byte {S : ByteArray} {l : List UInt8} {y : UInt8} (h : Hid (S.data.toList = l)) : Hid ((S ++ ByteArray.mk #[y]).data.toList = l ++ [y]) := by
  unfold Hid at *
  simp [h]

set_option maxRecDepth 100000 in
set_option maxHeartbeats 800000 in
theorem bytes_any (p : PartV) (w : World) (hp : p.ok) :
    Calls Try.prog 12 #[p.val] w fun e w' => e = .returned (.string ⟨p.bytes.toArray⟩) ∧ Kept noBlock w w' := by
  obtain ⟨kind, num, text⟩ := p
  obtain ⟨_, _, ht⟩ := hp
  simp only at ht
  rename_i hn1 hn2
  clear hn1 hn2
  unfold PartV.val PartV.bytes
  simp only
  have hx3 : kind.toNat % 3 = 0 ∨ kind.toNat % 3 = 1 ∨ kind.toNat % 3 = 2 := by omega
  rcases hx3 with hx3 | hx3 | hx3
  · have t1 : ((kind.toNat : Int) % 3 == 1) = false := by simp; omega
    have t2 : ((kind.toNat : Int) % 3 == 2) = false := by simp; omega
    rw [if_pos hx3]
    clear hx3
    go_enter Try.func12, Try.ntmps12
    go_wp2
    go_loopw [4, 5] (fun s k wr => ∃ (j : Nat) (S : ByteArray), j ≤ 8 ∧ k = .int .i64 (7 - (j : Int)) ∧ s = .string S ∧ Hid (S.data.toList = (be8 num).take j) ∧ S.size ≤ j ∧ Kept noBlock w wr ∧ wr.cell? ⟨w.heap.size, 0, none⟩ = some (.int .u8 (kind.toNat : Int)) ∧ wr.cell? ⟨w.heap.size, 2, none⟩ = some (.string text)) (fun _ k _ => (intOf k + 1).toNat)
    case atStart => exact ⟨0, ByteArray.empty, by omega, rfl, rfl, rfl, by simp, Kept.alloc _ _ _, by simp, by simp⟩
    case round =>
      obtain ⟨j, S, hj, rfl, rfl, hS, hSs, hkept, hc0, hc2⟩ := hrel
      by_cases hlt : j < 8
      · have hsz : w.heap.size < wr.heap.size := block_lt_of_cell hc0
        have HB := Lib.hid (shr_byteAt num j hlt)
        obtain ⟨y, hy⟩ : ∃ y, byteAt num j = y := ⟨_, rfl⟩
        have hcv : ∀ c, (convert 25 9 (.slice (some ⟨wr.heap.size, 0, none⟩) 1 c)).run Try.prog (wr.alloc (.cells #[.int .u8 (num / 2 ^ (8 * (7 - j)) % 256)] 5)) =
            .ok (.string ⟨#[y]⟩) (wr.alloc (.cells #[.int .u8 (num / 2 ^ (8 * (7 - j)) % 256)] 5)) := fun c => by
          rw [HB.out, hy]
          exact run_str_one (heap_alloc_new wr _) c
        have HS := Lib.hid (be8_succ num j hlt)
        have HY := Lib.hid hy
        clear hy HB
        go_wp2
        go_roundw
        case rel =>
          refine ⟨j + 1, S ++ ByteArray.mk #[y], by omega, by go_num, rfl, ?_, ?_, hkept.step (Kept.alloc _ _ _), ?_, ?_⟩
          · have := add_one_byte (y := y) hS
            unfold Hid at this ⊢
            rw [this, HS.out, HY.out]
          · rw [ByteArray.size_append]
            show S.size + 1 ≤ _
            omega
          · rw [World.cell?_alloc_past _ _ _ hsz]; exact hc0
          · rw [World.cell?_alloc_past _ _ _ hsz]; exact hc2
        case measure => simp [intOf]; omega
      · obtain rfl : j = 8 := by omega
        rw [List.take_of_length_le (by rw [be8_length]; omega)] at hS
        go_wp2
        go_ret
        refine ⟨?_, hkept⟩
        show Ending.returned (.string S) = _
        rw [← hS.out]
  · have t1 : ((kind.toNat : Int) % 3 == 1) = true := by simp; omega
    rw [if_neg (by omega), if_pos hx3]
    clear hx3
    obtain ⟨y, hy⟩ : ∃ y, low num = y := ⟨_, rfl⟩
    have hyn := low_eq num
    rw [hy] at hyn ⊢
    have hcv := fun (o : Obj) c => run_str_one (w := (w.alloc o).alloc (.cells #[.int .u8 (y.toNat : Int)] 5)) (g := w.heap.size + 1) (y := y) (by simpa using heap_alloc_new (w.alloc o) (.cells #[.int .u8 (y.toNat : Int)] 5)) c
    go_enter Try.func12, Try.ntmps12
    go_wp2
    go_ret
    exact ⟨rfl, (Kept.alloc _ _ _).step (Kept.alloc _ _ _)⟩
  · have t1 : ((kind.toNat : Int) % 3 == 1) = false := by simp; omega
    have t2 : ((kind.toNat : Int) % 3 == 2) = true := by simp; omega
    rw [if_neg (by omega), if_neg (by omega)]
    clear hx3
    go_enter Try.func12, Try.ntmps12
    go_wp2
    go_loopw [4, 5] (fun s k wr => ∃ (j : Nat) (S : ByteArray), j ≤ 8 ∧ k = .int .i64 (7 - (j : Int)) ∧ s = .string S ∧ Hid (S.data.toList = (be8 (text.size : Int)).take j) ∧ S.size ≤ j ∧ Kept noBlock w wr ∧ wr.cell? ⟨w.heap.size, 0, none⟩ = some (.int .u8 (kind.toNat : Int)) ∧ wr.cell? ⟨w.heap.size, 2, none⟩ = some (.string text)) (fun _ k _ => (intOf k + 1).toNat)
    case atStart => exact ⟨0, ByteArray.empty, by omega, rfl, rfl, rfl, by simp, Kept.alloc _ _ _, by simp, by simp⟩
    case round =>
      obtain ⟨j, S, hj, rfl, rfl, hS, hSs, hkept, hc0, hc2⟩ := hrel
      by_cases hlt : j < 8
      · have hsz : w.heap.size < wr.heap.size := block_lt_of_cell hc0
        have HB := Lib.hid (shr_byteAt (text.size : Int) j hlt)
        obtain ⟨y, hy⟩ : ∃ y, byteAt (text.size : Int) j = y := ⟨_, rfl⟩
        have hcv : ∀ c, (convert 25 9 (.slice (some ⟨wr.heap.size, 0, none⟩) 1 c)).run Try.prog (wr.alloc (.cells #[.int .u8 ((text.size : Int) / 2 ^ (8 * (7 - j)) % 256)] 5)) =
            .ok (.string ⟨#[y]⟩) (wr.alloc (.cells #[.int .u8 ((text.size : Int) / 2 ^ (8 * (7 - j)) % 256)] 5)) := fun c => by
          rw [HB.out, hy]
          exact run_str_one (heap_alloc_new wr _) c
        have HS := Lib.hid (be8_succ (text.size : Int) j hlt)
        have HY := Lib.hid hy
        clear hy HB
        go_wp2
        go_roundw
        case rel =>
          refine ⟨j + 1, S ++ ByteArray.mk #[y], by omega, by go_num, rfl, ?_, ?_, hkept.step (Kept.alloc _ _ _), ?_, ?_⟩
          · have := add_one_byte (y := y) hS
            unfold Hid at this ⊢
            rw [this, HS.out, HY.out]
          · rw [ByteArray.size_append]
            show S.size + 1 ≤ _
            omega
          · rw [World.cell?_alloc_past _ _ _ hsz]; exact hc0
          · rw [World.cell?_alloc_past _ _ _ hsz]; exact hc2
        case measure => simp [intOf]; omega
      · obtain rfl : j = 8 := by omega
        rw [List.take_of_length_le (by rw [be8_length]; omega)] at hS
        go_wp2
        go_ret
        refine ⟨?_, hkept⟩
        show Ending.returned (.string (S ++ text)) = _
        rw [← hS.out]
        congr 2

theorem beq_low (y : UInt8) (n : Int) : ((y.toNat : Int) == IntKind.u8.wrap n) = (y == low n) := by
  have h : IntKind.u8.wrap n = n % 256 := by simp [IntKind.wrap, IntKind.signed, IntKind.bits]
  rw [h, low_eq n, Bool.eq_iff_iff]
  simp only [beq_iff_eq]
  constructor
  · intro e
    exact UInt8.toNat_inj.1 (by omega)
  · intro e
    rw [e]
/-- Whether a Reader has a part, and what is left. -/
def PartV.read (p : PartV) (l : List UInt8) (bad : Bool) : Bool × List UInt8 × Bool :=
  if p.kind.toNat % 3 = 0 then ((rNum l bad).1 == p.num, (rNum l bad).2) else if p.kind.toNat % 3 = 1 then ((rByte l bad).1 == low p.num, (rByte l bad).2) else ((rText l bad).1 == p.text.data.toList, (rText l bad).2)

set_option maxHeartbeats 800000 in
theorem reads_any (b : Nat) (F : Nat → Prop) (l : List UInt8) (bad : Bool) (p : PartV) (w : World) (h : Rd w F b l bad) :
    Calls Try.prog 16 #[.pointer (some ⟨b, 0, none⟩), p.val] w (Read w F b (.bool (p.read l bad).1) (p.read l bad).2) := by
  obtain ⟨kind, num, text⟩ := p
  unfold PartV.val PartV.read
  simp only
  have hbl := h.lt b h.foot
  obtain ⟨w0, hw0⟩ : ∃ w0, w0 = w.alloc (.cells #[.int .u8 (kind.toNat : Int), .int .i64 num, .string text] 29) := ⟨_, rfl⟩
  have k0 : Kept noBlock w w0.drew := by rw [hw0]; exact (Kept.alloc _ _ _).step (Kept.drew _ _)
  have h1 := h.keep k0 (fun _ _ h => h)
  have hg : w0.drew.heap[w.heap.size]? = some (.cells #[.int .u8 (kind.toNat : Int), .int .i64 num, .string text] 29 (0, 0)) := by rw [hw0]; exact heap_alloc_new w _
  have c1 : w0.drew.cell? ⟨w.heap.size, 1, none⟩ = some (.int .i64 num) := cell_of_row _ _ _ _ _ _ hg
  have c2 : w0.drew.cell? ⟨w.heap.size, 2, none⟩ = some (.string text) := cell_of_row _ _ _ _ _ _ hg
  have HG := Lib.hid hg
  clear hg
  have hx3 : kind.toNat % 3 = 0 ∨ kind.toNat % 3 = 1 ∨ kind.toNat % 3 = 2 := by omega
  rcases hx3 with hx3 | hx3 | hx3
  · have t0 : ((kind.toNat : Int) % 3 == 0) = true := by simp; omega
    rw [if_pos hx3]
    clear hx3
    obtain ⟨q, hq⟩ : ∃ q, rNum l bad = q := ⟨_, rfl⟩
    have hr := rnum_any b F l bad w0.drew h1
    rw [hq] at hr ⊢
    go_enter Try.func16, Try.ntmps16
    go_wp2
    rw [← hw0]
    clear hw0
    refine wp_region_noPanic ?_
    refine wp_region_held_drew (S := fun w' => w'.cell? ⟨w.heap.size, 1, none⟩ = some (.int .i64 num)) (by kernel_rfl) c1 (fun hHeld => ?_)
    refine wpAnyH_take (i := 0) (oi := ⟨some 10, Op.move (Operand.tmp 0), 33, _, _, none⟩) (v := ?v0n1) rfl (by kernel_rfl) (by kernel_rfl) (by kernel_rfl) (fun _ _ _ h => h) (Or.inl ⟨by rfl, ?y0n1⟩) hHeld ?z0n1
    case y0n1 => intro w hSw; (try dsimp only at hSw); go_simp <;> rfl
    try simp only [Act.put, List.setIfInBounds_toArray, List.set_cons_zero, List.set_cons_succ]
    refine wpAnyH_take (i := 2) (oi := ⟨some 12, Op.fieldAddr 29 (Operand.tmp 3) 1, 0, _, _, none⟩) (v := ?v2n1) rfl (by kernel_rfl) (by kernel_rfl) (by kernel_rfl) (fun _ _ _ h => h) (Or.inl ⟨by rfl, ?y2n1⟩) hHeld ?z2n1
    case y2n1 => intro w hSw; (try dsimp only at hSw); go_simp <;> rfl
    try simp only [Act.put, List.setIfInBounds_toArray, List.set_cons_zero, List.set_cons_succ]
    refine wpAnyH_take (i := 3) (oi := ⟨some 13, Op.load 3 (Operand.tmp 12), 3, _, _, none⟩) (v := ?v3n1) rfl (by kernel_rfl) (by kernel_rfl) (by kernel_rfl) (fun _ _ _ h => h) (Or.inl ⟨by rfl, ?y3n1⟩) hHeld ?z3n1
    case y3n1 => intro w hSw; (try dsimp only at hSw); go_simp <;> rfl
    try simp only [Act.put, List.setIfInBounds_toArray, List.set_cons_zero, List.set_cons_succ]
    refine wpAnyH_ready (rs := [1]) (by kernel_rfl) (by simp) ?_
    refine AllReadyH.cons (o := ⟨some 11, Op.call { callee := Callee.value (Operand.func 18), args := #[Operand.tmp 10], argTypes := #[33] }, 3, _, _, none⟩) rfl (fun K hK => ?_) AllReadyH.nil
    go_simp
    refine hr.mono ?_
    rintro e w1 ⟨rfl, h2, k2⟩
    have c3 := k2.cell c1 (by show ¬ w.heap.size = b; omega)
    dsimp only
    refine hK.out _ _ c3 (fun hHeld => ?_)
    clear hK K
    try simp only [Act.put, List.setIfInBounds_toArray, List.set_cons_zero, List.set_cons_succ]
    refine wpAnyH_take (i := 4) (oi := ⟨some 14, Op.binOp BinOp.eql 3 (Operand.tmp 11) (Operand.tmp 13) 3, 4, _, _, none⟩) (v := ?v4n1) rfl (by kernel_rfl) (by kernel_rfl) (by kernel_rfl) (fun _ _ _ h => h) (Or.inl ⟨by rfl, ?y4n1⟩) hHeld ?z4n1
    case y4n1 => intro w hSw; (try dsimp only at hSw); go_simp <;> rfl
    try simp only [Act.put, List.setIfInBounds_toArray, List.set_cons_zero, List.set_cons_succ]
    refine wpAnyH_take (i := 5) (oi := ⟨some 4, Op.assign (Operand.tmp 14), 4, _, _, none⟩) (v := ?v5n1) rfl (by kernel_rfl) (by kernel_rfl) (by kernel_rfl) (fun _ _ _ h => h) (Or.inl ⟨by rfl, ?y5n1⟩) hHeld ?z5n1
    case y5n1 => intro w hSw; (try dsimp only at hSw); go_simp <;> rfl
    try simp only [Act.put, List.setIfInBounds_toArray, List.set_cons_zero, List.set_cons_succ]
    refine wpAnyH_done (by kernel_rfl) ?_ _
    refine NoPanic.normal ?_
    go_wp2
    go_ret
    exact ⟨rfl, h2, (k0.mono (fun _ _ h => h.elim)).step k2⟩
  · have t0 : ((kind.toNat : Int) % 3 == 0) = false := by simp; omega
    have t1 : ((kind.toNat : Int) % 3 == 1) = true := by simp; omega
    rw [if_neg (by omega), if_pos hx3]
    clear hx3
    obtain ⟨q, hq⟩ : ∃ q, rByte l bad = q := ⟨_, rfl⟩
    have hr := rbyte_any b F l bad w0.drew h1
    rw [hq] at hr ⊢
    go_enter Try.func16, Try.ntmps16
    go_wp2
    rw [← hw0]
    clear hw0
    refine wp_region_noPanic ?_
    refine wp_region_held_drew (S := fun w' => w'.cell? ⟨w.heap.size, 1, none⟩ = some (.int .i64 num)) (by kernel_rfl) c1 (fun hHeld => ?_)
    refine wpAnyH_take (i := 0) (oi := ⟨some 17, Op.move (Operand.tmp 0), 33, _, _, none⟩) (v := ?v0n2) rfl (by kernel_rfl) (by kernel_rfl) (by kernel_rfl) (fun _ _ _ h => h) (Or.inl ⟨by rfl, ?y0n2⟩) hHeld ?z0n2
    case y0n2 => intro w hSw; (try dsimp only at hSw); go_simp <;> rfl
    try simp only [Act.put, List.setIfInBounds_toArray, List.set_cons_zero, List.set_cons_succ]
    refine wpAnyH_take (i := 2) (oi := ⟨some 19, Op.fieldAddr 29 (Operand.tmp 3) 1, 0, _, _, none⟩) (v := ?v2n2) rfl (by kernel_rfl) (by kernel_rfl) (by kernel_rfl) (fun _ _ _ h => h) (Or.inl ⟨by rfl, ?y2n2⟩) hHeld ?z2n2
    case y2n2 => intro w hSw; (try dsimp only at hSw); go_simp <;> rfl
    try simp only [Act.put, List.setIfInBounds_toArray, List.set_cons_zero, List.set_cons_succ]
    refine wpAnyH_take (i := 3) (oi := ⟨some 20, Op.load 3 (Operand.tmp 19), 3, _, _, none⟩) (v := ?v3n2) rfl (by kernel_rfl) (by kernel_rfl) (by kernel_rfl) (fun _ _ _ h => h) (Or.inl ⟨by rfl, ?y3n2⟩) hHeld ?z3n2
    case y3n2 => intro w hSw; (try dsimp only at hSw); go_simp <;> rfl
    try simp only [Act.put, List.setIfInBounds_toArray, List.set_cons_zero, List.set_cons_succ]
    refine wpAnyH_take (i := 4) (oi := ⟨some 21, Op.convert 3 5 (Operand.tmp 20), 5, _, _, none⟩) (v := ?v4n2) rfl (by kernel_rfl) (by kernel_rfl) (by kernel_rfl) (fun _ _ _ h => h) (Or.inl ⟨by rfl, ?y4n2⟩) hHeld ?z4n2
    case y4n2 => intro w hSw; (try dsimp only at hSw); go_simp <;> rfl
    try simp only [Act.put, List.setIfInBounds_toArray, List.set_cons_zero, List.set_cons_succ]
    refine wpAnyH_ready (rs := [1]) (by kernel_rfl) (by simp) ?_
    refine AllReadyH.cons (o := ⟨some 18, Op.call { callee := Callee.value (Operand.func 19), args := #[Operand.tmp 17], argTypes := #[33] }, 5, _, _, none⟩) rfl (fun K hK => ?_) AllReadyH.nil
    go_simp
    refine hr.mono ?_
    rintro e w1 ⟨rfl, h2, k2⟩
    have c3 := k2.cell c1 (by show ¬ w.heap.size = b; omega)
    dsimp only
    refine hK.out _ _ c3 (fun hHeld => ?_)
    clear hK K
    try simp only [Act.put, List.setIfInBounds_toArray, List.set_cons_zero, List.set_cons_succ]
    refine wpAnyH_take (i := 5) (oi := ⟨some 22, Op.binOp BinOp.eql 5 (Operand.tmp 18) (Operand.tmp 21) 5, 4, _, _, none⟩) (v := ?v5n2) rfl (by kernel_rfl) (by kernel_rfl) (by kernel_rfl) (fun _ _ _ h => h) (Or.inl ⟨by rfl, ?y5n2⟩) hHeld ?z5n2
    case y5n2 => intro w hSw; (try dsimp only at hSw); go_simp <;> rfl
    try simp only [Act.put, List.setIfInBounds_toArray, List.set_cons_zero, List.set_cons_succ]
    refine wpAnyH_take (i := 6) (oi := ⟨some 4, Op.assign (Operand.tmp 22), 4, _, _, none⟩) (v := ?v6n2) rfl (by kernel_rfl) (by kernel_rfl) (by kernel_rfl) (fun _ _ _ h => h) (Or.inl ⟨by rfl, ?y6n2⟩) hHeld ?z6n2
    case y6n2 => intro w hSw; (try dsimp only at hSw); go_simp <;> rfl
    try simp only [Act.put, List.setIfInBounds_toArray, List.set_cons_zero, List.set_cons_succ]
    refine wpAnyH_done (by kernel_rfl) ?_ _
    refine NoPanic.normal ?_
    go_wp2
    go_ret
    refine ⟨?_, h2, (k0.mono (fun _ _ h => h.elim)).step k2⟩
    show Ending.returned (.bool ((q.1.toNat : Int) == IntKind.u8.wrap num)) = .returned (.bool (q.1 == low num))
    rw [beq_low]
  · have t0 : ((kind.toNat : Int) % 3 == 0) = false := by simp; omega
    have t1 : ((kind.toNat : Int) % 3 == 1) = false := by simp; omega
    rw [if_neg (by omega), if_neg (by omega)]
    clear hx3
    obtain ⟨q, hq⟩ : ∃ q, rText l bad = q := ⟨_, rfl⟩
    have hr := rtext_any b F l bad w0.drew h1
    rw [hq] at hr ⊢
    go_enter Try.func16, Try.ntmps16
    go_wp2
    rw [← hw0]
    clear hw0
    refine wp_region_noPanic ?_
    refine wp_region_held_drew (S := fun w' => w'.cell? ⟨w.heap.size, 2, none⟩ = some (.string text)) (by kernel_rfl) c2 (fun hHeld => ?_)
    refine wpAnyH_take (i := 0) (oi := ⟨some 23, Op.move (Operand.tmp 0), 33, _, _, none⟩) (v := ?v0n3) rfl (by kernel_rfl) (by kernel_rfl) (by kernel_rfl) (fun _ _ _ h => h) (Or.inl ⟨by rfl, ?y0n3⟩) hHeld ?z0n3
    case y0n3 => intro w hSw; (try dsimp only at hSw); go_simp <;> rfl
    try simp only [Act.put, List.setIfInBounds_toArray, List.set_cons_zero, List.set_cons_succ]
    refine wpAnyH_take (i := 2) (oi := ⟨some 25, Op.fieldAddr 29 (Operand.tmp 3) 2, 0, _, _, none⟩) (v := ?v2n3) rfl (by kernel_rfl) (by kernel_rfl) (by kernel_rfl) (fun _ _ _ h => h) (Or.inl ⟨by rfl, ?y2n3⟩) hHeld ?z2n3
    case y2n3 => intro w hSw; (try dsimp only at hSw); go_simp <;> rfl
    try simp only [Act.put, List.setIfInBounds_toArray, List.set_cons_zero, List.set_cons_succ]
    refine wpAnyH_take (i := 3) (oi := ⟨some 26, Op.load 9 (Operand.tmp 25), 9, _, _, none⟩) (v := ?v3n3) rfl (by kernel_rfl) (by kernel_rfl) (by kernel_rfl) (fun _ _ _ h => h) (Or.inl ⟨by rfl, ?y3n3⟩) hHeld ?z3n3
    case y3n3 => intro w hSw; (try dsimp only at hSw); go_simp <;> rfl
    try simp only [Act.put, List.setIfInBounds_toArray, List.set_cons_zero, List.set_cons_succ]
    refine wpAnyH_ready (rs := [1]) (by kernel_rfl) (by simp) ?_
    refine AllReadyH.cons (o := ⟨some 24, Op.call { callee := Callee.value (Operand.func 20), args := #[Operand.tmp 23], argTypes := #[33] }, 9, _, _, none⟩) rfl (fun K hK => ?_) AllReadyH.nil
    go_simp
    refine hr.mono ?_
    rintro e w1 ⟨rfl, h2, k2⟩
    have c3 := k2.cell c2 (by show ¬ w.heap.size = b; omega)
    dsimp only
    refine hK.out _ _ c3 (fun hHeld => ?_)
    clear hK K
    try simp only [Act.put, List.setIfInBounds_toArray, List.set_cons_zero, List.set_cons_succ]
    refine wpAnyH_take (i := 4) (oi := ⟨some 27, Op.binOp BinOp.eql 9 (Operand.tmp 24) (Operand.tmp 26) 9, 4, _, _, none⟩) (v := ?v4n3) rfl (by kernel_rfl) (by kernel_rfl) (by kernel_rfl) (fun _ _ _ h => h) (Or.inl ⟨by rfl, ?y4n3⟩) hHeld ?z4n3
    case y4n3 => intro w hSw; (try dsimp only at hSw); go_simp <;> rfl
    try simp only [Act.put, List.setIfInBounds_toArray, List.set_cons_zero, List.set_cons_succ]
    refine wpAnyH_take (i := 5) (oi := ⟨some 4, Op.assign (Operand.tmp 27), 4, _, _, none⟩) (v := ?v5n3) rfl (by kernel_rfl) (by kernel_rfl) (by kernel_rfl) (fun _ _ _ h => h) (Or.inl ⟨by rfl, ?y5n3⟩) hHeld ?z5n3
    case y5n3 => intro w hSw; (try dsimp only at hSw); go_simp <;> rfl
    try simp only [Act.put, List.setIfInBounds_toArray, List.set_cons_zero, List.set_cons_succ]
    refine wpAnyH_done (by kernel_rfl) ?_ _
    refine NoPanic.normal ?_
    go_wp2
    go_ret
    refine ⟨?_, h2, (k0.mono (fun _ _ h => h.elim)).step k2⟩
    show Ending.returned (.bool (q.1 == text.toList)) = .returned (.bool (q.1 == text.data.toList))
    rw [ByteArray.toList_eq]

end Go.Proofs.Ytnenbohnbojjgaa
