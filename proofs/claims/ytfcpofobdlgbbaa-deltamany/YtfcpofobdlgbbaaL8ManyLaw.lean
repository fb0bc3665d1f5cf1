/-
  The walk of DeltaMany. No statement is proved here.
-/
import Derived.Test.YtfcpofobdlgbbaaL8Keys
namespace Go.Proofs.Ytfcpofobdlgbbaa
open Go.RowKit Tot

def manyX (m : Nat) : DltV := ⟨0, 1, 0, keysOf key3 m, []⟩
def manyY (b : Nat) : DltV := ⟨1, 2, 0, keysOf (key2 98 0) b, []⟩
theorem manyX_right {m : Nat} (hm : m ≤ 500) : (manyX m).Right :=
  ⟨⟨by show (0 : Int) ≤ 0; omega, by show (0 : Int) ≤ 1; omega, by show (1 : Int) ≤ 1048576; omega⟩, ⟨by show (0 : Int) ≤ 0; omega, by show (0 : Int) ≤ 1048576; omega⟩,
    ⟨by show ((keysOf key3 m).length : Int) ≤ 512; rw [keysOf_len]; omega, keysOf_ok (fun i j hij hj => key3_lt hij (by omega)) (fun i _ => by rw [key3_size]; omega), ⟨List.Pairwise.nil, fun _ h => by cases h⟩⟩⟩
theorem manyY_right {b : Nat} (h : b ≤ 64) : (manyY b).Right :=
  ⟨⟨by show (0 : Int) ≤ 1; omega, by show (1 : Int) ≤ 2; omega, by show (2 : Int) ≤ 1048576; omega⟩, ⟨by show (0 : Int) ≤ 0; omega, by show (0 : Int) ≤ 1048576; omega⟩,
    ⟨by show ((keysOf (key2 98 0) b).length : Int) ≤ 512; rw [keysOf_len]; omega, keysOf_ok (fun i j hij hj => key2_lt hij (by omega)) (fun i _ => by rw [key2_size]; omega), ⟨List.Pairwise.nil, fun _ h => by cases h⟩⟩⟩
theorem many_join {m b : Nat} (hm : m ≤ 500) (hm' : 500 ≤ m) (hb : b ≤ 64) : (12 < b ∧ joinV (manyX m) (manyY b) = (noDelta, 4)) ∨ (b ≤ 12 ∧ ∃ t : DltV, joinV (manyX m) (manyY b) = (t, 0) ∧ t.pairs.length = m + b ∧ t.Right ∧ t.sess.length = 0) := by
  have hx := manyX_right hm
  have hy := manyY_right hb
  have he : Srt.mrg (manyX m).pairs (manyY b).pairs = keysOf key3 m ++ keysOf (key2 98 0) b := mrg_apart hx.2.2.2.1.1 hy.2.2.2.1.1 (fun p hp q hq => by
    obtain ⟨i, _, rfl⟩ := keysOf_mem hp
    obtain ⟨j, _, rfl⟩ := keysOf_mem hq
    exact key3_apart 0 i j)
  have hl : (Srt.mrg (manyX m).pairs (manyY b).pairs).length = m + b := by rw [he, List.length_append, keysOf_len, keysOf_len]
  have e0 : joinV (manyX m) (manyY b) = if 512 < (Srt.mrg (manyX m).pairs (manyY b).pairs).length then (noDelta, 4) else (⟨0, 2, 0, Srt.mrg (manyX m).pairs (manyY b).pairs, []⟩, 0) := by
    unfold joinV
    rw [if_neg (show ¬ ((manyX m).to_ ≠ (manyY b).from_ ∨ (manyY b).term < (manyX m).term) from by show ¬ ((1 : Int) ≠ 1 ∨ (0 : Int) < 0); omega)]
    rfl
  rw [e0]
  by_cases h : 12 < b
  · rw [if_pos (by omega)]
    exact .inl ⟨h, rfl⟩
  · rw [if_neg (by omega)]
    exact .inr ⟨by omega, _, rfl, hl, ⟨⟨by show (0 : Int) ≤ 0; omega, by show (0 : Int) ≤ 2; omega, by show (2 : Int) ≤ 1048576; omega⟩, ⟨by show (0 : Int) ≤ 0; omega, by show (0 : Int) ≤ 1048576; omega⟩, ⟨by show ((Srt.mrg (manyX m).pairs (manyY b).pairs).length : Int) ≤ 512; omega, mrg_ok hx.2.2.2.1 hy.2.2.2.1, ⟨List.Pairwise.nil, fun _ h => by cases h⟩⟩⟩, rfl⟩

set_option maxRecDepth 100000 in
set_option maxHeartbeats 2000000 in
theorem many8_walk (hB : BetweenC) (hD : DoC) (hJ : JoinC) (hR : DRightC) (n : UInt8) (w : World) :
    Calls Try.prog 7 #[.int .u8 (n.toNat : Int)] w fun e w' => e = .returned (.bool true) ∧ Kept noBlock w w' := by
  have AW := Lib.hid (awake8_any hB hD w)
  obtain ⟨nb, hnb⟩ : ∃ q, q = n.toNat % 30 := ⟨_, rfl⟩
  have t2 : ((n.toNat : Int)).tmod 30 = (nb : Int) := by rw [hnb]; exact tmod_nat _ 30
  have hb30 : nb < 30 := by omega
  have hq2 : IntKind.i64.wrap (nb : Int) = (nb : Int) := wrap_nat nb (by omega)
  clear hnb
  go_enter Try.func7, Try.ntmps7
  go_wp2_with fail
  refine AW.out.mono ?_
  rintro en w1 ⟨rfl, k1⟩
  have K1 := Lib.hid k1
  clear k1 AW
  go_upto_region 4 with (fail)
  have ka : Kept noBlock w1 ((w1.alloc (.cells #[.int .i64 0, .int .i64 1, .int .i64 0, .slice none 0 0, .slice none 0 0] 31)).alloc (.cells #[.int .i64 1, .int .i64 2, .int .i64 0, .slice none 0 0, .slice none 0 0] 31)) := (Kept.alloc _ _ _).step (Kept.alloc _ _ _)
  have hx := (Kept.alloc noBlock (w1.alloc (.cells #[.int .i64 0, .int .i64 1, .int .i64 0, .slice none 0 0, .slice none 0 0] 31)) (.cells #[.int .i64 1, .int .i64 2, .int .i64 0, .slice none 0 0, .slice none 0 0] 31)).blk (heap_alloc_new w1 (.cells #[.int .i64 0, .int .i64 1, .int .i64 0, .slice none 0 0, .slice none 0 0] 31)) (fun h => h)
  have hy : ((w1.alloc (.cells #[.int .i64 0, .int .i64 1, .int .i64 0, .slice none 0 0, .slice none 0 0] 31)).alloc (.cells #[.int .i64 1, .int .i64 2, .int .i64 0, .slice none 0 0, .slice none 0 0] 31)).heap[w1.heap.size + 1]? = some (.cells #[.int .i64 1, .int .i64 2, .int .i64 0, .slice none 0 0, .slice none 0 0] 31 (0, 0)) := heap_alloc_at (by simp)
  obtain ⟨PY, hPY⟩ : ∃ P, P = w1.heap.size + 1 := ⟨_, rfl⟩
  obtain ⟨PX, hPX⟩ : ∃ P, P = w1.heap.size := ⟨_, rfl⟩
  rw [← hPY] at hy ⊢
  rw [← hPX] at hx ⊢
  generalize (w1.alloc (.cells #[.int .i64 0, .int .i64 1, .int .i64 0, .slice none 0 0, .slice none 0 0] 31)).alloc (.cells #[.int .i64 1, .int .i64 2, .int .i64 0, .slice none 0 0, .slice none 0 0] 31) = u1 at ka hx hy ⊢
  have hpo : PX < PY := by omega
  have HPPX := Lib.hid hx
  have HPY := Lib.hid hy
  have KPPX := Lib.hid ka
  have HWPX : Hid (w1.heap.size ≤ PX) := Nat.le_of_eq hPX.symm
  have HWPY : Hid (w1.heap.size ≤ PY) := by have := HWPX.out; unfold Hid; omega
  obtain ⟨m5, hm5⟩ : ∃ m, m = 500 := ⟨_, rfl⟩
  have hm5a : m5 ≤ 500 := by omega
  have hm5b : 500 ≤ m5 := by omega
  clear ka hx hy hPX hPY hm5
  go_wp2_with fail
  go_loopw [5] (fun i wr => ∃ (k : Nat) (A : Option Addr) (c : Nat), k ≤ m5 ∧ i = .int .i64 (k : Int) ∧ Hid (wr.heap[PX]? = some (.cells #[.int .i64 0, .int .i64 1, .int .i64 0, .slice A k c, .slice none 0 0] 31 (0, 0))) ∧ Hid (wr.ownsRow 0 39 3 (.slice A k c) k (PR.cells (keysOf (key3) k))) ∧ Hid (∀ b, (Value.slice A k c).ownBlock = some b → PY < b) ∧ Hid (wr.heap[PY]? = some (.cells #[.int .i64 1, .int .i64 2, .int .i64 0, .slice none 0 0, .slice none 0 0] 31 (0, 0))) ∧ Hid (Kept noBlock w1 wr)) (fun i _ => m5 - (intOf i).toNat)
  case atStart => exact ⟨0, none, 0, by omega, rfl, HPPX, World.ownsRow_nil _ _ _ _, fun b hb => by simp [Value.ownBlock] at hb, HPY, KPPX⟩
  case round =>
    obtain ⟨k, A, c, hk, rfl, HBX, HOW, HOB, HX0, HKK⟩ := hrel
    by_cases hlt : k < m5
    · have hBX := HBX.out
      have x0 : wr.cell? ⟨PX, 3, none⟩ = some (.slice A k c) := cell_of_row _ _ _ _ _ _ hBX
      obtain ⟨q, hq⟩ : ∃ q, q = k / 250 := ⟨_, rfl⟩
      obtain ⟨r, hr⟩ : ∃ r, r = k % 250 := ⟨_, rfl⟩
      have hq1 : (k : Int).tdiv 250 = (q : Int) := by rw [hq]; exact (Int.ofNat_tdiv k 250).symm
      have hr1 : (k : Int).tmod 250 = (r : Int) := by rw [hr]; exact tmod_nat k 250
      have hq2 : q < 256 := by omega
      have hr2 : r < 250 := by omega
      obtain ⟨y, hy⟩ : ∃ y, y = UInt8.ofNat q := ⟨_, rfl⟩
      obtain ⟨z, hz⟩ : ∃ z, z = UInt8.ofNat (1 + r) := ⟨_, rfl⟩
      have hyn : (q : Int) = (y.toNat : Int) := by rw [hy]; simp; omega
      have hzn : 1 + (r : Int) = (z.toNat : Int) := by rw [hz]; simp; omega
      have hyb : IntKind.u8.wrap (q : Int) = (y.toNat : Int) := by rw [hyn]; have := y.toNat_lt; simp [IntKind.wrap, IntKind.signed, IntKind.bits]; omega
      have hzb : IntKind.u8.wrap (1 + (r : Int)) = (z.toNat : Int) := by rw [hzn]; have := z.toNat_lt; simp [IntKind.wrap, IntKind.signed, IntKind.bits]; omega
      have hk3 : key3 k = str [97, y, z] := by rw [hy, hz, hq, hr]; rfl
      have hcv : ∀ c, (convert 46 9 (.slice (some ⟨wr.heap.size, 0, none⟩) 3 c)).run Try.prog (wr.alloc (.cells #[.int .u8 97, .int .u8 (y.toNat : Int), .int .u8 (z.toNat : Int)] 5)) = .ok (.string (key3 k)) (wr.alloc (.cells #[.int .u8 97, .int .u8 (y.toNat : Int), .int .u8 (z.toNat : Int)] 5)) := fun c => by
        rw [hk3]
        exact run_str_lies (P := Try.prog) 46 9 5 Try.underlying46 Try.underlying5 Try.underlying9 (Lies.new wr (fun _ => True) ([97, y, z].map bv) 5 (0, 0) trivial) rfl c
      clear hk3 hy hz hyn hzn hq hr
      have ka := (Kept.alloc noBlock wr (.cells #[.int .u8 97, .int .u8 (y.toNat : Int), .int .u8 (z.toNat : Int)] 5)).step (Kept.alloc _ _ (.cells (PR.enc (keyP (key3) k)).toArray 39))
      have HOA := Lib.hid (own_keep HOW.out ka (fun _ _ h => h))
      have KA := Lib.hid ka
      have HPW := Lib.hid (show PY < wr.heap.size from lt_of_blk HX0.out)
      clear ka hBX
      go_wp2_with (at_builtin; refine wpList_append_src rfl (.tmp 18) (.tmp 29) 24 24 rfl 39 (.agg #[.string ByteArray.empty, .string ByteArray.empty, .bool false]) 3 40 Try.underlying24 PR.infoPr rfl (.slice A k c) k (PR.cells (keysOf (key3) k)) rfl HOA.out _ 1 (PR.cells [keyP (key3) k]) rfl (src_pair (keyP (key3) k) (heap_alloc_at (n := wr.heap.size + 1) (by simp))) ?c3 ?c4 ?_)
      case c3 => unfold maxLen; omega
      case c4 => omega
      intro A' c' w4 hown4 k4 hat
      have hnP : ¬ (Value.slice A k c).ownBlock = some PX := fun h => by have := HOB.out PX h; omega
      have hb4 := k4.blk (KA.out.blk HBX.out (fun h => h)) hnP
      have y0 : w4.cell? ⟨PX, 3, none⟩ = some (.slice A k c) := cell_of_row _ _ _ _ _ _ hb4
      have f0 : w4.frozen? ⟨PX, 3, none⟩ = false := frozen_of_row _ _ _ _ _ hb4
      have hz := heap_setCell_same w4 PX 3 _ 31 (.slice A' (k + 1) c') hb4
      have kz := Kept.setCell (S := fun i => i = PX) w4 (p := ⟨PX, 3, none⟩) (by rfl) (.slice A' (k + 1) c')
      have hob : ∀ b, (Value.slice A' (k + 1) c').ownBlock = some b → PY < b := fun b hb => by
        rcases hat b hb with h | h
        · exact HOB.out b h
        · exact Nat.lt_of_lt_of_le HPW.out (Nat.le_trans KA.out.size h.1)
      have HZ : Hid ((w4.setCell ⟨PX, 3, none⟩ (.slice A' (k + 1) c')).heap[PX]? = some (.cells #[.int .i64 0, .int .i64 1, .int .i64 0, .slice A' (k + 1) c', .slice none 0 0] 31 (0, 0))) := by unfold Hid; rw [hz]; simp
      have HOZ : Hid ((w4.setCell ⟨PX, 3, none⟩ (.slice A' (k + 1) c')).ownsRow 0 39 3 (.slice A' (k + 1) c') (k + 1) (PR.cells (keysOf (key3) (k + 1)))) := by
        have h1 := own_keep hown4 kz (fun b hb (e : b = PX) => by have := hob b hb; omega)
        have h2 : PR.cells (keysOf (key3) (k + 1)) = PR.cells (keysOf (key3) k) ++ PR.cells [keyP (key3) k] := by rw [keysOf_succ]; exact flat_append _ _
        unfold Hid
        rw [h2]
        exact h1
      have HOBZ := Lib.hid hob
      have hkz : Kept (fun i => (Value.slice A k c).ownBlock = some i ∨ i = PX) wr (w4.setCell ⟨PX, 3, none⟩ (.slice A' (k + 1) c')) := ((KA.out.mono (T := fun i => (Value.slice A k c).ownBlock = some i ∨ i = PX) (fun _ _ h => h.elim)).trans k4 (fun i _ h => .inl h)).trans kz (fun i _ h => .inr h)
      have HKZ : Hid (Kept noBlock w1 (w4.setCell ⟨PX, 3, none⟩ (.slice A' (k + 1) c'))) := ((HKK.out.mono (T := fun i => w1.heap.size ≤ i) (fun _ _ h => h.elim)).trans hkz (fun i _ h => h.elim (fun h => by have := HOB.out i h; have := HWPX.out; omega) (fun h => by have := HWPX.out; omega))).mono (fun i hi h => by omega)
      have HX0Z : Hid ((w4.setCell ⟨PX, 3, none⟩ (.slice A' (k + 1) c')).heap[PY]? = some (.cells #[.int .i64 1, .int .i64 2, .int .i64 0, .slice none 0 0, .slice none 0 0] 31 (0, 0))) := (hkz.blk HX0.out (fun h => h.elim (fun h => by have := HOB.out _ h; omega) (fun h => by omega)))
      clear hz kz hob hkz hown4 k4 hat hnP hb4 hcv HOA KA x0
      go_wp2
      go_roundw
      case rel => exact ⟨k + 1, A', c', by omega, by go_num, HZ, HOZ, HOBZ, HX0Z, HKZ⟩
      case measure => simp [intOf]; omega
    · obtain rfl : m5 = k := by omega
      rename World => w2
      have hc1 : m5 ≤ c := by obtain ⟨_, _, e, hle⟩ := own_form HOW.out; injection e with _ _ e; omega
      have hxl : Lies w2 (fun i => i < w2.heap.size ∧ i ≠ PY) A (PR.cells (keysOf key3 m5)) := by
        have h1 := Lies.of_rows (F := fun i => i ≠ PY ∧ i < w2.heap.size) HOW.out (fun b hb => ⟨fun e => by have := HOB.out b hb; omega, own_lt HOW.out b hb⟩)
        exact h1.mono (fun i hi => ⟨hi.2, hi.1⟩)
      obtain ⟨ZZ, hZZ⟩ : ∃ Z, Z + 1 = w2.heap.size := ⟨w2.heap.size - 1, by have := lt_of_blk HX0.out; omega⟩
      have hpx : PX ≤ ZZ := by have := lt_of_blk HBX.out; omega
      have hpy : PY ≤ ZZ := by have := lt_of_blk HX0.out; omega
      have HXS : Hid (∃ As cs, w2.heap[PX]? = some (.cells #[.int .i64 0, .int .i64 1, .int .i64 0, .slice As m5 cs, .slice none 0 0] 31 (0, 0)) ∧ Dv w2 (fun i => i ≤ ZZ ∧ i ≠ PY) (manyX m5) As cs none 0) :=
        ⟨A, c, HBX.out, hxl.mono (fun i hi => ⟨by omega, hi.2⟩), Lies.nil _ _ _, by show (keysOf key3 m5).length ≤ c; rw [keysOf_len]; exact hc1, Nat.le_refl _⟩
      have HZZ : Hid (ZZ < w2.heap.size) := by unfold Hid; omega
      have HPPY := Lib.hid HX0.out
      have KPPY := Lib.hid HKK.out
      clear HOW HOB HKK HBX HPPX KPPX hlt hk hxl hc1 hZZ HX0 HPY
      go_wp2_with fail
      go_loopw [6] (fun i wr => ∃ (k : Nat) (A : Option Addr) (c : Nat), k ≤ nb ∧ i = .int .i64 (k : Int) ∧ Hid (wr.heap[PY]? = some (.cells #[.int .i64 1, .int .i64 2, .int .i64 0, .slice A k c, .slice none 0 0] 31 (0, 0))) ∧ Hid (wr.ownsRow 0 39 3 (.slice A k c) k (PR.cells (keysOf (key2 98 0) k))) ∧ Hid (∀ b, (Value.slice A k c).ownBlock = some b → ZZ < b) ∧ Hid (∃ As cs, wr.heap[PX]? = some (.cells #[.int .i64 0, .int .i64 1, .int .i64 0, .slice As m5 cs, .slice none 0 0] 31 (0, 0)) ∧ Dv wr (fun i => i ≤ ZZ ∧ i ≠ PY) (manyX m5) As cs none 0) ∧ Hid (ZZ < wr.heap.size) ∧ Hid (Kept noBlock w1 wr)) (fun i _ => nb - (intOf i).toNat)
      case atStart => exact ⟨0, none, 0, by omega, rfl, HPPY, World.ownsRow_nil _ _ _ _, fun b hb => by simp [Value.ownBlock] at hb, HXS, HZZ, KPPY⟩
      case round =>
        obtain ⟨k, A, c, hk, rfl, HBX, HOW, HOB, HX0, HX1, HKK⟩ := hrel
        by_cases hlt : k < nb
        · have hBX := HBX.out
          have x0 : wr.cell? ⟨PY, 3, none⟩ = some (.slice A k c) := cell_of_row _ _ _ _ _ _ hBX
          obtain ⟨y, hy⟩ : ∃ y, y = UInt8.ofNat (k + 0) := ⟨_, rfl⟩
          have hyn : (k : Int) = (y.toNat : Int) := by rw [hy]; simp; omega
          have hyb : IntKind.u8.wrap ((k : Int)) = (y.toNat : Int) := by rw [hyn]; have := y.toNat_lt; simp [IntKind.wrap, IntKind.signed, IntKind.bits]; omega
          have hk2 : key2 98 0 k = str [98, y] := by rw [hy]; rfl
          have hcv : ∀ c, (convert 46 9 (.slice (some ⟨wr.heap.size, 0, none⟩) 2 c)).run Try.prog (wr.alloc (.cells #[.int .u8 98, .int .u8 (y.toNat : Int)] 5)) = .ok (.string (key2 98 0 k)) (wr.alloc (.cells #[.int .u8 98, .int .u8 (y.toNat : Int)] 5)) := fun c => by
            rw [hk2]
            exact run_str_lies (P := Try.prog) 46 9 5 Try.underlying46 Try.underlying5 Try.underlying9 (Lies.new wr (fun _ => True) ([98, y].map bv) 5 (0, 0) trivial) rfl c
          clear hk2 hy hyn
          have ka := (Kept.alloc noBlock wr (.cells #[.int .u8 98, .int .u8 (y.toNat : Int)] 5)).step (Kept.alloc _ _ (.cells (PR.enc (keyP (key2 98 0) k)).toArray 39))
          have HOA := Lib.hid (own_keep HOW.out ka (fun _ _ h => h))
          have KA := Lib.hid ka
          have HPW := Lib.hid (show ZZ < wr.heap.size from HX1.out)
          clear ka hBX
          go_wp2_with (at_builtin; refine wpList_append_src rfl (.tmp 40) (.tmp 46) 24 24 rfl 39 (.agg #[.string ByteArray.empty, .string ByteArray.empty, .bool false]) 3 40 Try.underlying24 PR.infoPr rfl (.slice A k c) k (PR.cells (keysOf (key2 98 0) k)) rfl HOA.out _ 1 (PR.cells [keyP (key2 98 0) k]) rfl (src_pair (keyP (key2 98 0) k) (heap_alloc_at (n := wr.heap.size + 1) (by simp))) ?c3 ?c4 ?_)
          case c3 => unfold maxLen; omega
          case c4 => omega
          intro A' c' w4 hown4 k4 hat
          have hnP : ¬ (Value.slice A k c).ownBlock = some PY := fun h => by have := HOB.out PY h; omega
          have hb4 := k4.blk (KA.out.blk HBX.out (fun h => h)) hnP
          have y0 : w4.cell? ⟨PY, 3, none⟩ = some (.slice A k c) := cell_of_row _ _ _ _ _ _ hb4
          have f0 : w4.frozen? ⟨PY, 3, none⟩ = false := frozen_of_row _ _ _ _ _ hb4
          have hz := heap_setCell_same w4 PY 3 _ 31 (.slice A' (k + 1) c') hb4
          have kz := Kept.setCell (S := fun i => i = PY) w4 (p := ⟨PY, 3, none⟩) (by rfl) (.slice A' (k + 1) c')
          have hob : ∀ b, (Value.slice A' (k + 1) c').ownBlock = some b → ZZ < b := fun b hb => by
            rcases hat b hb with h | h
            · exact HOB.out b h
            · exact Nat.lt_of_lt_of_le HPW.out (Nat.le_trans KA.out.size h.1)
          have HZ : Hid ((w4.setCell ⟨PY, 3, none⟩ (.slice A' (k + 1) c')).heap[PY]? = some (.cells #[.int .i64 1, .int .i64 2, .int .i64 0, .slice A' (k + 1) c', .slice none 0 0] 31 (0, 0))) := by unfold Hid; rw [hz]; simp
          have HOZ : Hid ((w4.setCell ⟨PY, 3, none⟩ (.slice A' (k + 1) c')).ownsRow 0 39 3 (.slice A' (k + 1) c') (k + 1) (PR.cells (keysOf (key2 98 0) (k + 1)))) := by
            have h1 := own_keep hown4 kz (fun b hb (e : b = PY) => by have := hob b hb; omega)
            have h2 : PR.cells (keysOf (key2 98 0) (k + 1)) = PR.cells (keysOf (key2 98 0) k) ++ PR.cells [keyP (key2 98 0) k] := by rw [keysOf_succ]; exact flat_append _ _
            unfold Hid
            rw [h2]
            exact h1
          have HOBZ := Lib.hid hob
          have hkz : Kept (fun i => (Value.slice A k c).ownBlock = some i ∨ i = PY) wr (w4.setCell ⟨PY, 3, none⟩ (.slice A' (k + 1) c')) := ((KA.out.mono (T := fun i => (Value.slice A k c).ownBlock = some i ∨ i = PY) (fun _ _ h => h.elim)).trans k4 (fun i _ h => .inl h)).trans kz (fun i _ h => .inr h)
          have HKZ : Hid (Kept noBlock w1 (w4.setCell ⟨PY, 3, none⟩ (.slice A' (k + 1) c'))) := ((HKK.out.mono (T := fun i => w1.heap.size ≤ i) (fun _ _ h => h.elim)).trans hkz (fun i _ h => h.elim (fun h => by have := HOB.out i h; have := HWPY.out; omega) (fun h => by have := HWPY.out; omega))).mono (fun i hi h => by omega)
          have HX0Z : Hid (∃ As cs, (w4.setCell ⟨PY, 3, none⟩ (.slice A' (k + 1) c')).heap[PX]? = some (.cells #[.int .i64 0, .int .i64 1, .int .i64 0, .slice As m5 cs, .slice none 0 0] 31 (0, 0)) ∧ Dv (w4.setCell ⟨PY, 3, none⟩ (.slice A' (k + 1) c')) (fun i => i ≤ ZZ ∧ i ≠ PY) (manyX m5) As cs none 0) := (by obtain ⟨As, cs, h1, h2⟩ := HX0.out; exact ⟨As, cs, hkz.blk h1 (fun h => h.elim (fun h => by have := HOB.out _ h; omega) (fun h => by omega)), h2.keep hkz (fun i hi h => h.elim (fun h => by have := HOB.out i h; have := hi.1; omega) (fun h => hi.2 h))⟩)
          have HX1Z : Hid (ZZ < (w4.setCell ⟨PY, 3, none⟩ (.slice A' (k + 1) c')).heap.size) := (Nat.lt_of_lt_of_le HX1.out hkz.size)
          clear hz kz hob hkz hown4 k4 hat hnP hb4 hcv HOA KA x0
          go_wp2
          go_roundw
          case rel => exact ⟨k + 1, A', c', by omega, by go_num, HZ, HOZ, HOBZ, HX0Z, HX1Z, HKZ⟩
          case measure => simp [intOf]; omega
        · obtain rfl : nb = k := by omega
          rename World => w5
          obtain ⟨As, cs, hbs, dvs⟩ := HX0.out
          have hc2 : nb ≤ c := by obtain ⟨_, _, e, hle⟩ := own_form HOW.out; injection e with _ _ e; omega
          have DY : Hid (Dv w5 Aw (manyY nb) A c none 0) := ⟨Lies.of_rows (F := Aw) HOW.out (fun _ _ => trivial), Lies.nil _ _ _, by show (keysOf (key2 98 0) nb).length ≤ c; rw [keysOf_len]; exact hc2, Nat.le_refl _⟩
          have DX := Lib.hid (dvs.mono (G := Aw) (fun _ _ => trivial))
          have HBS := Lib.hid hbs
          have HBD := Lib.hid HBX.out
          have KW := Lib.hid (K1.out.step HKK.out)
          have hs := manyX_right hm5a
          have hd := manyY_right (b := nb) (by omega)
          have e1 : (manyX m5).pairs.length = m5 := keysOf_len _ _
          have e2 : (manyY nb).pairs.length = nb := keysOf_len _ _
          have JO : Hid (∀ (t : DltV) (x : Int), joinV (manyX m5) (manyY nb) = (t, x) → Calls _ _ _ w5 fun en w' => ∃ A2 c2 B2 d2, en = .returned (.tuple #[.agg #[.int .i64 t.from_, .int .i64 t.to_, .int .i64 t.term, .slice A2 t.pairs.length c2, .slice B2 t.sess.length d2], .int .i64 x]) ∧ Dv w' Aw t A2 c2 B2 d2 ∧ Kept noBlock w5 w') := fun t x he => by
            have h := join_at hJ hs hd he w5 _ _ _ _ _ _ _ _ DX.out DY.out
            unfold dtv at h
            rw [e1, e2] at h
            exact h
          have FD := Lib.hid (many_join hm5a hm5b (b := nb) (by omega))
          have RI := Lib.hid (fun (t : DltV) (ht : t.Right) u A c B d (h : Dv u Aw t A c B d) => by
            have := hR Aw t A c B d u h (by have := ht.2.2.1; omega) (by have := sess_len ht.2.2.2.2; omega)
            rw [decide_eq_true ht] at this
            exact this)
          clear hs hd e1 e2 hbs dvs hc2 HX0 HX1 HOW HOB HBX HKK HXS HPPY KPPY HWPY HWPX hD hB hJ hR hlt hk DX DY K1 hpo hpx hpy HZZ
          obtain ⟨s0, s1, s2, s3, s4⟩ := dl_cells HBS.out
          obtain ⟨g0, g1, g2, g3, g4⟩ := dl_cells HBD.out
          rcases FD.out with ⟨hgt, hap⟩ | ⟨hle, t, hap, htl, htr, hts⟩
          · have JO1 := Lib.hid (JO.out noDelta 4 hap)
            have h9 : (12 : Int) < (nb : Int) := by omega
            clear hap JO FD
            go_wp2_with fail
            refine JO1.out.mono ?_
            rintro en w6 ⟨A6, c6, B6, d6, rfl, _, k6⟩
            unfold noDelta
            simp only [List.length_nil]
            have ha := heap_alloc_new w6 (.cells #[.int .i64 0, .int .i64 0, .int .i64 0, .slice A6 0 c6, .slice B6 0 d6] 31)
            have K6 := Lib.hid (KW.out.step (k6.step (Kept.alloc noBlock w6 (.cells #[.int .i64 0, .int .i64 0, .int .i64 0, .slice A6 0 c6, .slice B6 0 d6] 31))))
            clear k6 JO1 s0 s1 s2 s3 s4 g0 g1 g2 g3 g4
            go_upto_region 13 with (fail)
            obtain ⟨PT, hPT⟩ : ∃ P, P = w6.heap.size := ⟨_, rfl⟩
            rw [← hPT] at ha ⊢
            generalize w6.alloc (.cells #[.int .i64 0, .int .i64 0, .int .i64 0, .slice A6 0 c6, .slice B6 0 d6] 31) = w7 at ha K6 ⊢
            clear hPT
            obtain ⟨s0, s1, s2, s3, s4⟩ := dl_cells ha
            clear ha
            go_wp2
            go_ret
            exact ⟨rfl, K6.out⟩
          · have JO1 := Lib.hid (JO.out t 0 hap)
            have RI1 := Lib.hid (RI.out t htr)
            have h9 : ¬ (12 : Int) < (nb : Int) := by omega
            unfold dtv at RI1
            rw [htl, hts] at JO1 RI1
            clear hap JO FD htl hts htr RI
            go_wp2_with fail
            refine JO1.out.mono ?_
            rintro en w6 ⟨A6, c6, B6, d6, rfl, dv6, k6⟩
            have ha := heap_alloc_new w6 (.cells #[.int .i64 t.from_, .int .i64 t.to_, .int .i64 t.term, .slice A6 (m5 + nb) c6, .slice B6 0 d6] 31)
            have ka := Kept.alloc noBlock w6 (.cells #[.int .i64 t.from_, .int .i64 t.to_, .int .i64 t.term, .slice A6 (m5 + nb) c6, .slice B6 0 d6] 31)
            have K6 := Lib.hid (KW.out.step (k6.step ka))
            have DV6 := Lib.hid (dv6.kept ka)
            clear k6 JO1 s0 s1 s2 s3 s4 g0 g1 g2 g3 g4 ka dv6
            go_upto_region 13 with (fail)
            obtain ⟨PT, hPT⟩ : ∃ P, P = w6.heap.size := ⟨_, rfl⟩
            rw [← hPT] at ha ⊢
            generalize w6.alloc (.cells #[.int .i64 t.from_, .int .i64 t.to_, .int .i64 t.term, .slice A6 (m5 + nb) c6, .slice B6 0 d6] 31) = w7 at ha K6 DV6 ⊢
            clear hPT
            obtain ⟨s0, s1, s2, s3, s4⟩ := dl_cells ha
            clear ha
            have e9 : (((m5 + nb : Nat) : Int) == 500 + (nb : Int)) = true := by simp; omega
            go_wp2_with fail
            refine (RI1.out w7 _ _ _ _ DV6.out).mono ?_
            rintro en w8 ⟨rfl, k8⟩
            have K8 := Lib.hid (K6.out.step k8)
            clear k8 s0 s1 s2 s3 s4 RI1
            go_wp2
            go_ret
            exact ⟨rfl, K8.out⟩
end Go.Proofs.Ytfcpofobdlgbbaa
