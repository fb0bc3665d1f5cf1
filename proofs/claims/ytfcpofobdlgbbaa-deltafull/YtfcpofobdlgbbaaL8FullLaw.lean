/-
  The walk of DeltaFull. No statement is proved here.
-/
import Derived.Test.YtfcpofobdlgbbaaL8Keys
namespace Go.Proofs.Ytfcpofobdlgbbaa
open Go.RowKit Tot

def fullS (a : Nat) : StV := ⟨0, 0, keysOf (key2 97 1) a, []⟩
def fullD (b : Nat) : DltV := ⟨0, 1, 0, keysOf (key2 98 1) b, []⟩
theorem fullS_right {a : Nat} (h : a ≤ 64) : (fullS a).Right :=
  ⟨⟨by show (0 : Int) ≤ 0; omega, by show (0 : Int) ≤ 1048576; omega⟩, ⟨by show (0 : Int) ≤ 0; omega, by show (0 : Int) ≤ 1048576; omega⟩,
    ⟨by show ((keysOf (key2 97 1) a).length : Int) ≤ 64; rw [keysOf_len]; omega, keysOf_ok (fun i j hij hj => key2_lt hij (by omega)) (fun i _ => by rw [key2_size]; omega), ⟨List.Pairwise.nil, fun _ h => by cases h⟩⟩, keysOf_here _ _⟩
theorem fullD_right {b : Nat} (h : b ≤ 64) : (fullD b).Right :=
  ⟨⟨by show (0 : Int) ≤ 0; omega, by show (0 : Int) ≤ 1; omega, by show (1 : Int) ≤ 1048576; omega⟩, ⟨by show (0 : Int) ≤ 0; omega, by show (0 : Int) ≤ 1048576; omega⟩,
    ⟨by show ((keysOf (key2 98 1) b).length : Int) ≤ 512; rw [keysOf_len]; omega, keysOf_ok (fun i j hij hj => key2_lt hij (by omega)) (fun i _ => by rw [key2_size]; omega), ⟨List.Pairwise.nil, fun _ h => by cases h⟩⟩⟩
theorem full_do {a b : Nat} (ha : a ≤ 64) (hb : b ≤ 64) : (64 < a + b ∧ applyD (fullS a) (fullD b) = (noState, 4)) ∨ (a + b ≤ 64 ∧ ∃ t : StV, applyD (fullS a) (fullD b) = (t, 0) ∧ t.pairs.length = a + b ∧ t.index = 1) := by
  have hs := fullS_right ha
  have hd := fullD_right hb
  have he : doP (fullS a).pairs (fullD b).pairs = keysOf (key2 97 1) a ++ keysOf (key2 98 1) b := do_apart hs.up hd.2.2.2.1.1 (fun p hp q hq => by
    obtain ⟨i, _, rfl⟩ := keysOf_mem hp
    obtain ⟨j, _, rfl⟩ := keysOf_mem hq
    exact key2_apart 1 1 i j) hs.here (keysOf_here _ _)
  have hl : (doP (fullS a).pairs (fullD b).pairs).length = a + b := by rw [he, List.length_append, keysOf_len, keysOf_len]
  have e0 : applyD (fullS a) (fullD b) = if 64 < (doP (fullS a).pairs (fullD b).pairs).length then (noState, 4) else (⟨1, 0, doP (fullS a).pairs (fullD b).pairs, []⟩, 0) := by
    unfold applyD
    rw [if_neg (show ¬ ((fullS a).index ≠ (fullD b).from_ ∨ (fullD b).term < (fullS a).term) from by show ¬ ((0 : Int) ≠ 0 ∨ (0 : Int) < 0); omega)]
    rfl
  rw [e0, hl]
  by_cases h : 64 < a + b
  · rw [if_pos h]
    exact .inl ⟨h, rfl⟩
  · rw [if_neg h]
    exact .inr ⟨by omega, _, rfl, hl, rfl⟩

set_option maxRecDepth 100000 in
set_option maxHeartbeats 2000000 in
theorem full8_walk (hB : BetweenC) (hD : DoC) (many more : UInt8) (w : World) :
    Calls Try.prog 6 #[.int .u8 (many.toNat : Int), .int .u8 (more.toNat : Int)] w fun e w' => e = .returned (.bool true) ∧ Kept noBlock w w' := by
  have AW := Lib.hid (awake8_any hB hD w)
  obtain ⟨qa, hqa⟩ : ∃ q, q = many.toNat % 64 := ⟨_, rfl⟩
  obtain ⟨nb, hnb⟩ : ∃ q, q = more.toNat % 64 := ⟨_, rfl⟩
  have t1 : ((many.toNat : Int)).tmod 64 = (qa : Int) := by rw [hqa]; exact tmod_nat _ 64
  have t2 : ((more.toNat : Int)).tmod 64 = (nb : Int) := by rw [hnb]; exact tmod_nat _ 64
  obtain ⟨na, hna⟩ : ∃ n, n = 1 + qa := ⟨_, rfl⟩
  have t3 : 1 + (qa : Int) = (na : Int) := by omega
  have ha64 : na ≤ 64 := by omega
  have hb64 : nb ≤ 63 := by omega
  have hq1 : IntKind.i64.wrap (qa : Int) = (qa : Int) := wrap_nat qa (by omega)
  have hq2 : IntKind.i64.wrap (nb : Int) = (nb : Int) := wrap_nat nb (by omega)
  have hna1 : 1 ≤ na := by omega
  clear hqa hnb hna
  go_enter Try.func6, Try.ntmps6
  go_wp2_with fail
  refine AW.out.mono ?_
  rintro en w1 ⟨rfl, k1⟩
  have K1 := Lib.hid k1
  clear k1 AW
  have ka := Kept.alloc noBlock w1 (.cells #[.int .i64 0, .int .i64 0, .slice none 0 0, .slice none 0 0] 27)
  have ha := heap_alloc_new w1 (.cells #[.int .i64 0, .int .i64 0, .slice none 0 0, .slice none 0 0] 27)
  go_upto_region 5 with (fail)
  obtain ⟨PS, hPS⟩ : ∃ P, P = w1.heap.size := ⟨_, rfl⟩
  rw [← hPS] at ha ⊢
  generalize w1.alloc (.cells #[.int .i64 0, .int .i64 0, .slice none 0 0, .slice none 0 0] 27) = u1 at ka ha ⊢
  have HPPS := Lib.hid ha
  have KPPS := Lib.hid ka
  have HWPS : Hid (w1.heap.size ≤ PS) := Nat.le_of_eq hPS.symm
  clear ka ha hPS t1 t2 t3 hq1 hq2
  go_wp2_with fail
  go_loopw [8] (fun i wr => ∃ (k : Nat) (A : Option Addr) (c : Nat), k ≤ na ∧ i = .int .i64 (k : Int) ∧ Hid (wr.heap[PS]? = some (.cells #[.int .i64 0, .int .i64 0, .slice A k c, .slice none 0 0] 27 (0, 0))) ∧ Hid (wr.ownsRow 0 39 3 (.slice A k c) k (PR.cells (keysOf (key2 97 1) k))) ∧ Hid (∀ b, (Value.slice A k c).ownBlock = some b → PS < b) ∧ Hid (Kept noBlock w1 wr)) (fun i _ => na - (intOf i).toNat)
  case atStart => exact ⟨0, none, 0, by omega, rfl, HPPS, World.ownsRow_nil _ _ _ _, fun b hb => by simp [Value.ownBlock] at hb, KPPS⟩
  case round =>
    obtain ⟨k, A, c, hk, rfl, HBX, HOW, HOB, HKK⟩ := hrel
    by_cases hlt : k < na
    · have hBX := HBX.out
      have x0 : wr.cell? ⟨PS, 2, none⟩ = some (.slice A k c) := cell_of_row _ _ _ _ _ _ hBX
      obtain ⟨y, hy⟩ : ∃ y, y = UInt8.ofNat (k + 1) := ⟨_, rfl⟩
      have hyn : (k : Int) + 1 = (y.toNat : Int) := by rw [hy]; simp; omega
      have hyb : IntKind.u8.wrap ((k : Int) + 1) = (y.toNat : Int) := by rw [hyn]; have := y.toNat_lt; simp [IntKind.wrap, IntKind.signed, IntKind.bits]; omega
      have hk2 : key2 97 1 k = str [97, y] := by rw [hy]; rfl
      have hcv : ∀ c, (convert 46 9 (.slice (some ⟨wr.heap.size, 0, none⟩) 2 c)).run Try.prog (wr.alloc (.cells #[.int .u8 97, .int .u8 (y.toNat : Int)] 5)) = .ok (.string (key2 97 1 k)) (wr.alloc (.cells #[.int .u8 97, .int .u8 (y.toNat : Int)] 5)) := fun c => by
        rw [hk2]
        exact run_str_lies (P := Try.prog) 46 9 5 Try.underlying46 Try.underlying5 Try.underlying9 (Lies.new wr (fun _ => True) ([97, y].map bv) 5 (0, 0) trivial) rfl c
      clear hk2 hy hyn
      have ka := (Kept.alloc noBlock wr (.cells #[.int .u8 97, .int .u8 (y.toNat : Int)] 5)).step (Kept.alloc _ _ (.cells (PR.enc (keyP (key2 97 1) k)).toArray 39))
      have HOA := Lib.hid (own_keep HOW.out ka (fun _ _ h => h))
      have KA := Lib.hid ka
      have HPW := Lib.hid (show PS < wr.heap.size from lt_of_blk hBX)
      clear ka hBX
      go_wp2_with (at_builtin; refine wpList_append_src rfl (.tmp 29) (.tmp 36) 24 24 rfl 39 (.agg #[.string ByteArray.empty, .string ByteArray.empty, .bool false]) 3 40 Try.underlying24 PR.infoPr rfl (.slice A k c) k (PR.cells (keysOf (key2 97 1) k)) rfl HOA.out _ 1 (PR.cells [keyP (key2 97 1) k]) rfl (src_pair (keyP (key2 97 1) k) (heap_alloc_at (n := wr.heap.size + 1) (by simp))) ?c3 ?c4 ?_)
      case c3 => unfold maxLen; omega
      case c4 => omega
      intro A' c' w4 hown4 k4 hat
      have hnP : ¬ (Value.slice A k c).ownBlock = some PS := fun h => by have := HOB.out PS h; omega
      have hb4 := k4.blk (KA.out.blk HBX.out (fun h => h)) hnP
      have y0 : w4.cell? ⟨PS, 2, none⟩ = some (.slice A k c) := cell_of_row _ _ _ _ _ _ hb4
      have f0 : w4.frozen? ⟨PS, 2, none⟩ = false := frozen_of_row _ _ _ _ _ hb4
      have hz := heap_setCell_same w4 PS 2 _ 27 (.slice A' (k + 1) c') hb4
      have kz := Kept.setCell (S := fun i => i = PS) w4 (p := ⟨PS, 2, none⟩) (by rfl) (.slice A' (k + 1) c')
      have hob : ∀ b, (Value.slice A' (k + 1) c').ownBlock = some b → PS < b := fun b hb => by
        rcases hat b hb with h | h
        · exact HOB.out b h
        · exact Nat.lt_of_lt_of_le HPW.out (Nat.le_trans KA.out.size h.1)
      have HZ : Hid ((w4.setCell ⟨PS, 2, none⟩ (.slice A' (k + 1) c')).heap[PS]? = some (.cells #[.int .i64 0, .int .i64 0, .slice A' (k + 1) c', .slice none 0 0] 27 (0, 0))) := by unfold Hid; rw [hz]; simp
      have HOZ : Hid ((w4.setCell ⟨PS, 2, none⟩ (.slice A' (k + 1) c')).ownsRow 0 39 3 (.slice A' (k + 1) c') (k + 1) (PR.cells (keysOf (key2 97 1) (k + 1)))) := by
        have h1 := own_keep hown4 kz (fun b hb (e : b = PS) => by have := hob b hb; omega)
        have h2 : PR.cells (keysOf (key2 97 1) (k + 1)) = PR.cells (keysOf (key2 97 1) k) ++ PR.cells [keyP (key2 97 1) k] := by rw [keysOf_succ]; exact flat_append _ _
        unfold Hid
        rw [h2]
        exact h1
      have HOBZ := Lib.hid hob
      have hkz : Kept (fun i => (Value.slice A k c).ownBlock = some i ∨ i = PS) wr (w4.setCell ⟨PS, 2, none⟩ (.slice A' (k + 1) c')) := ((KA.out.mono (T := fun i => (Value.slice A k c).ownBlock = some i ∨ i = PS) (fun _ _ h => h.elim)).trans k4 (fun i _ h => .inl h)).trans kz (fun i _ h => .inr h)
      have HKZ : Hid (Kept noBlock w1 (w4.setCell ⟨PS, 2, none⟩ (.slice A' (k + 1) c'))) := ((HKK.out.mono (T := fun i => w1.heap.size ≤ i) (fun _ _ h => h.elim)).trans hkz (fun i _ h => h.elim (fun h => by have := HOB.out i h; have := HWPS.out; omega) (fun h => by have := HWPS.out; omega))).mono (fun i hi h => by omega)
      clear hz kz hob hkz hown4 k4 hat hnP hb4 hcv HOA KA x0
      go_wp2
      go_roundw
      case rel => exact ⟨k + 1, A', c', by omega, by go_num, HZ, HOZ, HOBZ, HKZ⟩
      case measure => simp [intOf]; omega
    · obtain rfl : na = k := by omega
      rename World => w2
      have SS0 : Hid (Sv w2 (fun i => i < w2.heap.size) (fullS na) A c none 0) := by
        have h1 := (Lies.of_rows (F := fun _ => True) HOW.out (fun _ _ => trivial)).lt
        have h2 : na ≤ c := by obtain ⟨_, _, e, hle⟩ := own_form HOW.out; injection e with _ _ e; omega
        exact ⟨h1, Lies.nil _ _ _, by show (keysOf (key2 97 1) na).length ≤ c; rw [keysOf_len]; exact h2, Nat.le_refl _⟩
      have KW2 := Lib.hid (K1.out.step HKK.out)
      have HB2 := Lib.hid HBX.out
      have ka := Kept.alloc noBlock w2 (.cells #[.int .i64 0, .int .i64 1, .int .i64 0, .slice none 0 0, .slice none 0 0] 31)
      have ha := heap_alloc_new w2 (.cells #[.int .i64 0, .int .i64 1, .int .i64 0, .slice none 0 0, .slice none 0 0] 31)
      clear HOW HOB HKK HBX HPPS KPPS HWPS hlt hk K1
      go_upto_region 10 with (fail)
      obtain ⟨PD, hPD⟩ : ∃ P, P = w2.heap.size := ⟨_, rfl⟩
      rw [← hPD] at ha SS0 ⊢
      generalize w2.alloc (.cells #[.int .i64 0, .int .i64 1, .int .i64 0, .slice none 0 0, .slice none 0 0] 31) = wd at ka ha ⊢
      have HLT : Hid (PS < PD) := by have := lt_of_blk HB2.out; unfold Hid; omega
      have HXS : Hid (∃ As cs, wd.heap[PS]? = some (.cells #[.int .i64 0, .int .i64 0, .slice As na cs, .slice none 0 0] 27 (0, 0)) ∧ Sv wd (fun i => i < PD) (fullS na) As cs none 0) := ⟨A, c, ka.blk HB2.out (fun h => h), SS0.out.kept ka⟩
      have HPPD := Lib.hid ha
      have KPPD := Lib.hid ka
      have HWPD : Hid (w2.heap.size ≤ PD) := Nat.le_of_eq hPD.symm
      clear ka ha hPD SS0 HB2
      go_wp2_with fail
      go_loopw [10] (fun i wr => ∃ (k : Nat) (A : Option Addr) (c : Nat), k ≤ nb ∧ i = .int .i64 (k : Int) ∧ Hid (wr.heap[PD]? = some (.cells #[.int .i64 0, .int .i64 1, .int .i64 0, .slice A k c, .slice none 0 0] 31 (0, 0))) ∧ Hid (wr.ownsRow 0 39 3 (.slice A k c) k (PR.cells (keysOf (key2 98 1) k))) ∧ Hid (∀ b, (Value.slice A k c).ownBlock = some b → PD < b) ∧ Hid (∃ As cs, wr.heap[PS]? = some (.cells #[.int .i64 0, .int .i64 0, .slice As na cs, .slice none 0 0] 27 (0, 0)) ∧ Sv wr (fun i => i < PD) (fullS na) As cs none 0) ∧ Hid (Kept noBlock w2 wr)) (fun i _ => nb - (intOf i).toNat)
      case atStart => exact ⟨0, none, 0, by omega, rfl, HPPD, World.ownsRow_nil _ _ _ _, fun b hb => by simp [Value.ownBlock] at hb, HXS, KPPD⟩
      case round =>
        obtain ⟨k, A, c, hk, rfl, HBX, HOW, HOB, HX0, HKK⟩ := hrel
        by_cases hlt : k < nb
        · have hBX := HBX.out
          have x0 : wr.cell? ⟨PD, 3, none⟩ = some (.slice A k c) := cell_of_row _ _ _ _ _ _ hBX
          obtain ⟨y, hy⟩ : ∃ y, y = UInt8.ofNat (k + 1) := ⟨_, rfl⟩
          have hyn : (k : Int) + 1 = (y.toNat : Int) := by rw [hy]; simp; omega
          have hyb : IntKind.u8.wrap ((k : Int) + 1) = (y.toNat : Int) := by rw [hyn]; have := y.toNat_lt; simp [IntKind.wrap, IntKind.signed, IntKind.bits]; omega
          have hk2 : key2 98 1 k = str [98, y] := by rw [hy]; rfl
          have hcv : ∀ c, (convert 46 9 (.slice (some ⟨wr.heap.size, 0, none⟩) 2 c)).run Try.prog (wr.alloc (.cells #[.int .u8 98, .int .u8 (y.toNat : Int)] 5)) = .ok (.string (key2 98 1 k)) (wr.alloc (.cells #[.int .u8 98, .int .u8 (y.toNat : Int)] 5)) := fun c => by
            rw [hk2]
            exact run_str_lies (P := Try.prog) 46 9 5 Try.underlying46 Try.underlying5 Try.underlying9 (Lies.new wr (fun _ => True) ([98, y].map bv) 5 (0, 0) trivial) rfl c
          clear hk2 hy hyn
          have ka := (Kept.alloc noBlock wr (.cells #[.int .u8 98, .int .u8 (y.toNat : Int)] 5)).step (Kept.alloc _ _ (.cells (PR.enc (keyP (key2 98 1) k)).toArray 39))
          have HOA := Lib.hid (own_keep HOW.out ka (fun _ _ h => h))
          have KA := Lib.hid ka
          have HPW := Lib.hid (show PD < wr.heap.size from lt_of_blk hBX)
          clear ka hBX
          go_wp2_with (at_builtin; refine wpList_append_src rfl (.tmp 46) (.tmp 53) 24 24 rfl 39 (.agg #[.string ByteArray.empty, .string ByteArray.empty, .bool false]) 3 40 Try.underlying24 PR.infoPr rfl (.slice A k c) k (PR.cells (keysOf (key2 98 1) k)) rfl HOA.out _ 1 (PR.cells [keyP (key2 98 1) k]) rfl (src_pair (keyP (key2 98 1) k) (heap_alloc_at (n := wr.heap.size + 1) (by simp))) ?c3 ?c4 ?_)
          case c3 => unfold maxLen; omega
          case c4 => omega
          intro A' c' w4 hown4 k4 hat
          have hnP : ¬ (Value.slice A k c).ownBlock = some PD := fun h => by have := HOB.out PD h; omega
          have hb4 := k4.blk (KA.out.blk HBX.out (fun h => h)) hnP
          have y0 : w4.cell? ⟨PD, 3, none⟩ = some (.slice A k c) := cell_of_row _ _ _ _ _ _ hb4
          have f0 : w4.frozen? ⟨PD, 3, none⟩ = false := frozen_of_row _ _ _ _ _ hb4
          have hz := heap_setCell_same w4 PD 3 _ 31 (.slice A' (k + 1) c') hb4
          have kz := Kept.setCell (S := fun i => i = PD) w4 (p := ⟨PD, 3, none⟩) (by rfl) (.slice A' (k + 1) c')
          have hob : ∀ b, (Value.slice A' (k + 1) c').ownBlock = some b → PD < b := fun b hb => by
            rcases hat b hb with h | h
            · exact HOB.out b h
            · exact Nat.lt_of_lt_of_le HPW.out (Nat.le_trans KA.out.size h.1)
          have HZ : Hid ((w4.setCell ⟨PD, 3, none⟩ (.slice A' (k + 1) c')).heap[PD]? = some (.cells #[.int .i64 0, .int .i64 1, .int .i64 0, .slice A' (k + 1) c', .slice none 0 0] 31 (0, 0))) := by unfold Hid; rw [hz]; simp
          have HOZ : Hid ((w4.setCell ⟨PD, 3, none⟩ (.slice A' (k + 1) c')).ownsRow 0 39 3 (.slice A' (k + 1) c') (k + 1) (PR.cells (keysOf (key2 98 1) (k + 1)))) := by
            have h1 := own_keep hown4 kz (fun b hb (e : b = PD) => by have := hob b hb; omega)
            have h2 : PR.cells (keysOf (key2 98 1) (k + 1)) = PR.cells (keysOf (key2 98 1) k) ++ PR.cells [keyP (key2 98 1) k] := by rw [keysOf_succ]; exact flat_append _ _
            unfold Hid
            rw [h2]
            exact h1
          have HOBZ := Lib.hid hob
          have hkz : Kept (fun i => (Value.slice A k c).ownBlock = some i ∨ i = PD) wr (w4.setCell ⟨PD, 3, none⟩ (.slice A' (k + 1) c')) := ((KA.out.mono (T := fun i => (Value.slice A k c).ownBlock = some i ∨ i = PD) (fun _ _ h => h.elim)).trans k4 (fun i _ h => .inl h)).trans kz (fun i _ h => .inr h)
          have HKZ : Hid (Kept noBlock w2 (w4.setCell ⟨PD, 3, none⟩ (.slice A' (k + 1) c'))) := ((HKK.out.mono (T := fun i => w2.heap.size ≤ i) (fun _ _ h => h.elim)).trans hkz (fun i _ h => h.elim (fun h => by have := HOB.out i h; have := HWPD.out; omega) (fun h => by have := HWPD.out; omega))).mono (fun i hi h => by omega)
          have HX0Z : Hid (∃ As cs, (w4.setCell ⟨PD, 3, none⟩ (.slice A' (k + 1) c')).heap[PS]? = some (.cells #[.int .i64 0, .int .i64 0, .slice As na cs, .slice none 0 0] 27 (0, 0)) ∧ Sv (w4.setCell ⟨PD, 3, none⟩ (.slice A' (k + 1) c')) (fun i => i < PD) (fullS na) As cs none 0) := (by obtain ⟨As, cs, h1, h2⟩ := HX0.out; exact ⟨As, cs, hkz.blk h1 (fun h => h.elim (fun h => by have := HOB.out _ h; have := HLT.out; omega) (fun h => by have := HLT.out; omega)), h2.keep hkz (fun i hi h => h.elim (fun h => by have := HOB.out i h; omega) (fun h => by omega))⟩)
          clear hz kz hob hkz hown4 k4 hat hnP hb4 hcv HOA KA x0
          go_wp2
          go_roundw
          case rel => exact ⟨k + 1, A', c', by omega, by go_num, HZ, HOZ, HOBZ, HX0Z, HKZ⟩
          case measure => simp [intOf]; omega
        · obtain rfl : nb = k := by omega
          rename World => w5
          obtain ⟨As, cs, hbs, svs⟩ := HX0.out
          have hc2 : nb ≤ c := by obtain ⟨_, _, e, hle⟩ := own_form HOW.out; injection e with _ _ e; omega
          have DV : Hid (Dv w5 Aw (fullD nb) A c none 0) := ⟨Lies.of_rows (F := Aw) HOW.out (fun _ _ => trivial), Lies.nil _ _ _, by show (keysOf (key2 98 1) nb).length ≤ c; rw [keysOf_len]; exact hc2, Nat.le_refl _⟩
          have SV := Lib.hid (svs.mono (G := Aw) (fun _ _ => trivial))
          have HBS := Lib.hid hbs
          have HBD := Lib.hid HBX.out
          have KW := Lib.hid (KW2.out.step HKK.out)
          have hs := fullS_right ha64
          have hd := fullD_right (b := nb) (by omega)
          have e1 : (fullS na).pairs.length = na := keysOf_len _ _
          have e2 : (fullD nb).pairs.length = nb := keysOf_len _ _
          have DO : Hid (∀ (t : StV) (x : Int), applyD (fullS na) (fullD nb) = (t, x) → Calls _ _ _ w5 fun en w' => ∃ A2 c2 B2 d2, en = .returned (.tuple #[.agg #[.int .i64 t.index, .int .i64 t.term, .slice A2 t.pairs.length c2, .slice B2 t.sess.length d2], .int .i64 x]) ∧ Sv w' Aw t A2 c2 B2 d2 ∧ Kept noBlock w5 w') := fun t x he => by
            have h := do_at hD hs hd he w5 _ _ _ _ _ _ _ _ SV.out DV.out
            unfold stv dtv at h
            rw [e1, e2] at h
            exact h
          have FD := Lib.hid (full_do ha64 (b := nb) (by omega))
          clear hs hd e1 e2 hbs svs hc2 HX0 HOW HOB HBX HKK HLT HXS HPPD KPPD HWPD KW2 hD hB hlt hk SV DV
          obtain ⟨s0, s1, s2, s3⟩ := st_cells HBS.out
          obtain ⟨g0, g1, g2, g3, g4⟩ := dl_cells HBD.out
          rcases FD.out with ⟨hgt, hap⟩ | ⟨hle, t, hap, htl, hti⟩
          · have DO1 := Lib.hid (DO.out noState 4 hap)
            have h9 : (64 : Int) < (na : Int) + (nb : Int) := by omega
            clear hap DO FD
            go_wp2_with fail
            refine DO1.out.mono ?_
            rintro en w6 ⟨A6, c6, B6, d6, rfl, _, k6⟩
            unfold noState
            simp only [List.length_nil]
            have ha := heap_alloc_new w6 (.cells #[.int .i64 0, .int .i64 0, .slice A6 0 c6, .slice B6 0 d6] 27)
            have K6 := Lib.hid (KW.out.step (k6.step (Kept.alloc noBlock w6 (.cells #[.int .i64 0, .int .i64 0, .slice A6 0 c6, .slice B6 0 d6] 27))))
            clear k6 DO1 s0 s1 s2 s3 g0 g1 g2 g3 g4
            go_upto_region 15 with (fail)
            obtain ⟨PT, hPT⟩ : ∃ P, P = w6.heap.size := ⟨_, rfl⟩
            rw [← hPT] at ha ⊢
            generalize w6.alloc (.cells #[.int .i64 0, .int .i64 0, .slice A6 0 c6, .slice B6 0 d6] 27) = w7 at ha K6 ⊢
            clear hPT
            obtain ⟨s0, s1, s2, s3⟩ := st_cells ha
            clear ha
            go_wp2
            go_ret
            exact ⟨rfl, K6.out⟩
          · have DO1 := Lib.hid (DO.out t 0 hap)
            have h9 : ¬ (64 : Int) < (na : Int) + (nb : Int) := by omega
            rw [htl, hti] at DO1
            clear hap DO FD htl hti
            go_wp2_with fail
            refine DO1.out.mono ?_
            rintro en w6 ⟨A6, c6, B6, d6, rfl, _, k6⟩
            have ha := heap_alloc_new w6 (.cells #[.int .i64 1, .int .i64 t.term, .slice A6 (na + nb) c6, .slice B6 t.sess.length d6] 27)
            have K6 := Lib.hid (KW.out.step (k6.step (Kept.alloc noBlock w6 (.cells #[.int .i64 1, .int .i64 t.term, .slice A6 (na + nb) c6, .slice B6 t.sess.length d6] 27))))
            clear k6 DO1 s0 s1 s2 s3 g0 g1 g2 g3 g4
            go_upto_region 15 with (fail)
            obtain ⟨PT, hPT⟩ : ∃ P, P = w6.heap.size := ⟨_, rfl⟩
            rw [← hPT] at ha ⊢
            generalize w6.alloc (.cells #[.int .i64 1, .int .i64 t.term, .slice A6 (na + nb) c6, .slice B6 t.sess.length d6] 27) = w7 at ha K6 ⊢
            clear hPT
            obtain ⟨s0, s1, s2, s3⟩ := st_cells ha
            clear ha
            have e9 : (((na + nb : Nat) : Int) == (na : Int) + (nb : Int)) = true := by simp
            go_wp2
            go_ret
            exact ⟨rfl, K6.out⟩
end Go.Proofs.Ytfcpofobdlgbbaa
