/-
  PackTexts: what it does with whatever texts. No statement is proved here.
-/
import Derived.Test.YtnenbohnbojjgaaL1Awake
import Derived.Deep.DeepCutAuto
import Derived.Deep.RegionHeld3
namespace Go.Proofs.Ytnenbohnbojjgaa
open Go.RowKit

/-- A text, cut to a hundred bytes. -/
def cutTo (s : ByteArray) : ByteArray := s.extract 0 (min s.size 100)
/-- The bytes of a text. -/
def tx (s : ByteArray) : List UInt8 := be8 s.size ++ s.data.toList
theorem tx_length (s : ByteArray) : (tx s).length = s.size + 8 := by
  unfold tx
  rw [List.length_append, be8_length, Array.length_toList]
  show 8 + s.size = _
  omega
theorem cutTo_size (s : ByteArray) : (cutTo s).size ≤ 100 := by
  unfold cutTo
  rw [ByteArray.size_extract]
  omega
theorem cutTo_short (s : ByteArray) (h : s.size ≤ 100) : cutTo s = s := by
  unfold cutTo
  rw [Nat.min_eq_left h]
  simp
theorem cutTo_long (s : ByteArray) (h : ¬ s.size ≤ 100) : cutTo s = s.extract 0 100 := by
  unfold cutTo
  rw [Nat.min_eq_right (by omega)]
/-- The bytes of texts, each cut. -/
def txs (ts : List ByteArray) : List UInt8 := ts.flatMap fun t => tx (cutTo t)
theorem txs_snoc (ts : List ByteArray) (k : Nat) (t : ByteArray) (h : ts[k]? = some t) : txs (ts.take (k + 1)) = txs (ts.take k) ++ tx (cutTo t) := by
  rw [take_snoc ts k t h]
  simp [txs]
theorem txs_length (ts : List ByteArray) : (txs ts).length ≤ 108 * ts.length := by
  induction ts with
  | nil => simp [txs]
  | cons t r ih =>
    have e : txs (t :: r) = tx (cutTo t) ++ txs r := by simp [txs]
    have := cutTo_size t
    rw [e, List.length_append, tx_length, List.length_cons]
    omega
theorem mk_toList (s : ByteArray) : ByteArray.mk s.data.toList.toArray = s := by simp
theorem rText_tx (s : ByteArray) (r : List UInt8) (hs : s.size ≤ 9223372036854775807) : rText (tx s ++ r) false = (s.data.toList, r, false) := by
  unfold rText tx
  rw [List.append_assoc, rNum_be8 _ _ (by omega) (by omega)]
  have hl : s.data.toList.length = s.size := by rw [Array.length_toList]; rfl
  have e1 : ((s.size : Int)).toNat = s.data.toList.length := by omega
  rw [if_neg (by simp [hl]; omega), e1]
  simp

set_option maxHeartbeats 1000000 in
theorem texts_walk (F : Nat → Prop) (a : Option Addr) (n c : Nat) (ts : List ByteArray) (x : UInt8) (w : World) (h : Lies w F a (ts.map Value.string)) (hl : ts.length = n) (hnc : n ≤ c) (hn63 : n ≤ 9223372036854775807)
    (hz : ∀ t ∈ ts, t.size ≤ 9223372036854775807) :
    Calls Try.prog 9 #[.slice a n c, .int .u8 (x.toNat : Int)] w fun e w' => e = .returned (.bool true) ∧ Kept noBlock w w' := by
  go_enter Try.func9, Try.ntmps9
  go_wp2_with fail
  refine (awake_any w).mono ?_
  rintro e w1 ⟨rfl, k1⟩
  go_upto_region 4 with (fail)
  go_cut [0] (fun s wc => w1.alloc (.cells #[.slice none 0 0] 27) = wc ∧ s = .slice a (min n 50) c)
  case first =>
    go_wp2
    all_goals
      go_meet
      case rel => exact ⟨rfl, by congr 1; omega⟩
  case rest =>
    obtain ⟨rfl, rfl⟩ := hcut
    obtain ⟨us, hus⟩ : ∃ us, us = ts.take (min n 50) := ⟨_, rfl⟩
    have hul : min n 50 = us.length := by rw [hus, List.length_take]; omega
    have hu50 : us.length ≤ 50 := by omega
    have huz : ∀ t ∈ us, t.size ≤ 9223372036854775807 := fun t ht => hz t (by rw [hus] at ht; exact List.mem_of_mem_take ht)
    have hu : Lies w1 F a (us.map Value.string) := by
      rw [hus, List.map_take]
      exact (h.take _).keep k1 (fun _ _ h => h)
    rw [hul]
    clear hus hul h hz
    go_wp2
    go_loopw [22] (fun i wr => ∃ (k : Nat) (G : Nat → Prop), k ≤ us.length ∧ i = .int .i64 k ∧ Kept noBlock w1 wr ∧ Wr wr G w1.heap.size (txs (us.take k)) ∧ ∀ i, G i → w1.heap.size ≤ i) (fun i _ => us.length - (intOf i).toNat)
    case atStart => exact ⟨0, _, by omega, rfl, Kept.alloc _ _ _, Wr.new w1, fun i h => by omega⟩
    case round =>
      obtain ⟨k, G, hk, rfl, hkept, hw, hG⟩ := hrel
      have hbl : (txs (us.take k)).length ≤ 5400 := by have := txs_length (us.take k); rw [List.length_take] at this; omega
      by_cases hlt : k < us.length
      · obtain ⟨t, ht⟩ : ∃ t, us[k]? = some t := ⟨_, List.getElem?_eq_getElem hlt⟩
        obtain ⟨ad, rfl, _, hcell⟩ := (hu.keep hkept (fun _ _ h => h)).at_ (k := k) (u := .string t) (by simp [ht])
        have hts := huz t (List.mem_of_getElem? ht)
        have HX := Lib.hid ht
        clear ht
        have hcs := cutTo_size t
        by_cases ht100 : t.size ≤ 100
        · have HC := Lib.hid (cutTo_short t ht100)
          go_wp2_with fail
          refine (wtext_any _ G _ _ wr hw (by omega)).mono ?_
          rintro e w2 ⟨rfl, k2, h2⟩
          have e2 : txs (us.take k) ++ (be8 t.size ++ t.data.toList) = txs (us.take (k + 1)) := by rw [txs_snoc us k t HX.out, HC.out]; rfl
          rw [e2] at h2
          clear e2
          go_wp2
          go_roundw
          case rel => exact ⟨k + 1, _, by omega, by go_num, hkept.trans k2 (fun i hi h => absurd (hG i h) (by omega)), h2, fun i hi => by rcases hi with h | h; exact hG i h; exact Nat.le_trans hkept.size h.1⟩
          case measure => simp [intOf]; omega
        · have HC := Lib.hid (cutTo_long t ht100)
          go_wp2_with fail
          refine (wtext_any _ G _ _ wr hw (by rw [← HC.out]; omega)).mono ?_
          rintro e w2 ⟨rfl, k2, h2⟩
          have e2 : txs (us.take k) ++ (be8 (t.extract 0 100).size ++ (t.extract 0 100).data.toList) = txs (us.take (k + 1)) := by rw [txs_snoc us k t HX.out, HC.out]; rfl
          rw [e2] at h2
          clear e2
          go_wp2
          go_roundw
          case rel => exact ⟨k + 1, _, by omega, by go_num, hkept.trans k2 (fun i hi h => absurd (hG i h) (by omega)), h2, fun i hi => by rcases hi with h | h; exact hG i h; exact Nat.le_trans hkept.size h.1⟩
          case measure => simp [intOf]; omega
      · obtain rfl : k = us.length := by omega
        rw [List.take_length] at hw hbl
        go_wp2_with fail
        refine (wbyte_any _ G _ x wr hw (by omega)).mono ?_
        rintro e w2 ⟨rfl, k2, h2⟩
        have q2 : Kept noBlock w1 w2 := hkept.trans k2 (fun i hi h => absurd (hG i h) (by omega))
        obtain ⟨X, hX⟩ : ∃ X, X = txs us ++ [x] := ⟨_, rfl⟩
        have hXl : X.length ≤ 5401 := by rw [hX, List.length_append]; simp; omega
        rw [← hX] at h2
        have HX := Lib.hid hX
        clear hX hw
        go_wp2_with fail
        refine (wbytes_any _ _ X w2 h2 (by omega)).mono ?_
        rintro e w3 ⟨A, cp, rfl, h3, k3⟩
        go_wp2_with fail
        refine (of_any (fun _ => True) A X.length cp X w3 (Lies.of_own h3 (fun _ _ => trivial)) rfl (by omega)).mono ?_
        rintro e w4 ⟨b, rfl, h4, k4⟩
        have k14 : Kept noBlock w1 w4 := (q2.step k3).step k4
        have hb4 : w1.heap.size ≤ b := by have := h4.foot.1; have := (q2.step k3).size; omega
        clear h3 h2
        rw [HX.out] at h4
        clear HX hXl
        go_wp2
        go_loopw [42] (fun i wr => ∃ (k : Nat), k ≤ us.length ∧ i = .int .i64 k ∧ Kept noBlock w1 wr ∧ Rd wr (fresh w3 w4) b (txs (us.drop k) ++ [x]) false) (fun i _ => us.length - (intOf i).toNat)
        case atStart => exact ⟨0, by omega, rfl, k14, h4⟩
        case round =>
          obtain ⟨k, hk, rfl, hkept', hr⟩ := hrel
          by_cases hlt : k < us.length
          · obtain ⟨t, ht⟩ : ∃ t, us[k]? = some t := ⟨_, List.getElem?_eq_getElem hlt⟩
            obtain ⟨ad, rfl, _, hcell⟩ := (hu.keep hkept' (fun _ _ h => h)).at_ (k := k) (u := .string t) (by simp [ht])
            have hts := huz t (List.mem_of_getElem? ht)
            have hcs := cutTo_size t
            have e5 : txs (us.drop k) ++ [x] = tx (cutTo t) ++ (txs (us.drop (k + 1)) ++ [x]) := by
              obtain ⟨hk', et⟩ := List.getElem?_eq_some_iff.1 ht
              rw [List.drop_eq_getElem_cons hk', et, ← List.append_assoc]
              simp [txs]
            have e6 : rText (txs (us.drop k) ++ [x]) false = ((cutTo t).data.toList, txs (us.drop (k + 1)) ++ [x], false) := by rw [e5]; exact rText_tx _ _ (by omega)
            have e7 : (txs (us.drop k) ++ [x]).isEmpty = false := by simp
            have HX := Lib.hid ht
            clear ht e5
            go_upto_region 15 with (fail)
            have hrd := hr.keep (Kept.drew noBlock wr) (fun _ _ h => h)
            clear hr hcell
            by_cases ht100 : t.size ≤ 100
            · rw [cutTo_short t ht100] at e6
              have h100' : ¬ ((100 : Int) < (t.size : Int)) := by omega
              refine wp_region_noPanic ?_
              refine wp_region_held_drew (S := fun _ => True) (by kernel_rfl) trivial (fun hHeld => ?_)
              refine wpAnyH_take (i := 0) (oi := ⟨some 46, Op.move (Operand.tmp 8), 33, _, _, none⟩) (v := ?v0n1) rfl (by kernel_rfl) (by kernel_rfl) (by kernel_rfl) (fun _ _ _ h => h) (Or.inl ⟨by rfl, ?y0n1⟩) hHeld ?z0n1
              case y0n1 => intro w hSw; (try dsimp only at hSw); go_simp <;> rfl
              try simp only [Act.put, List.setIfInBounds_toArray, List.set_cons_zero, List.set_cons_succ]
              refine wpAnyH_ready (rs := [1]) (by kernel_rfl) (by simp) ?_
              refine AllReadyH.cons (o := ⟨some 47, Op.call { callee := Callee.value (Operand.func 17), args := #[Operand.tmp 46], argTypes := #[33] }, 4, _, _, none⟩) rfl (fun K hK => ?_) AllReadyH.nil
              go_simp
              refine (rdone_any b _ _ _ _ hrd).mono ?_
              rw [e7]
              rintro e w5 ⟨rfl, rfl⟩
              dsimp only
              refine hK.out _ _ trivial (fun hHeld => ?_)
              clear hK K
              try simp only [Act.put, List.setIfInBounds_toArray, List.set_cons_zero, List.set_cons_succ]
              refine wpAnyH_take (i := 2) (oi := ⟨some 48, Op.move (Operand.tmp 47), 4, _, _, none⟩) (v := ?v2n1) rfl (by kernel_rfl) (by kernel_rfl) (by kernel_rfl) (fun _ _ _ h => h) (Or.inl ⟨by rfl, ?y2n1⟩) hHeld ?z2n1
              case y2n1 => intro w hSw; (try dsimp only at hSw); go_simp <;> rfl
              try simp only [Act.put, List.setIfInBounds_toArray, List.set_cons_zero, List.set_cons_succ]
              refine wpAnyH_take (i := 3) (oi := ⟨some 49, Op.move (Operand.tmp 8), 33, _, _, some (2, false)⟩) (v := ?v3n1) rfl (by kernel_rfl) (by kernel_rfl) (by kernel_rfl) (fun _ _ _ h => h) (Or.inl ⟨by rfl, ?y3n1⟩) hHeld ?z3n1
              case y3n1 => intro w hSw; (try dsimp only at hSw); go_simp <;> rfl
              try simp only [Act.put, List.setIfInBounds_toArray, List.set_cons_zero, List.set_cons_succ]
              refine wpAnyH_take (i := 5) (oi := ⟨some 51, Op.move (Operand.tmp 10), 9, _, _, some (2, false)⟩) (v := ?v5n1) rfl (by kernel_rfl) (by kernel_rfl) (by kernel_rfl) (fun _ _ _ h => h) (Or.inl ⟨by rfl, ?y5n1⟩) hHeld ?z5n1
              case y5n1 => intro w hSw; (try dsimp only at hSw); go_simp <;> rfl
              try simp only [Act.put, List.setIfInBounds_toArray, List.set_cons_zero, List.set_cons_succ]
              refine wpAnyH_take (i := 6) (oi := ⟨some 52, Op.move (Operand.tmp 10), 9, _, _, some (2, false)⟩) (v := ?v6n1) rfl (by kernel_rfl) (by kernel_rfl) (by kernel_rfl) (fun _ _ _ h => h) (Or.inl ⟨by rfl, ?y6n1⟩) hHeld ?z6n1
              case y6n1 => intro w hSw; (try dsimp only at hSw); go_simp <;> rfl
              try simp only [Act.put, List.setIfInBounds_toArray, List.set_cons_zero, List.set_cons_succ]
              refine wpAnyH_take (i := 7) (oi := ⟨some 53, Op.call { callee := Callee.builtin Builtin.len, args := #[Operand.tmp 52], argTypes := #[9] }, 3, _, _, some (2, false)⟩) (v := ?v7n1) rfl (by kernel_rfl) (by kernel_rfl) (by kernel_rfl) (fun _ _ _ h => h) (Or.inl ⟨by rfl, ?y7n1⟩) hHeld ?z7n1
              case y7n1 => intro w hSw; (try dsimp only at hSw); go_simp <;> rfl
              try simp only [Act.put, List.setIfInBounds_toArray, List.set_cons_zero, List.set_cons_succ]
              refine wpAnyH_take (i := 8) (oi := ⟨some 54, Op.call { callee := Callee.builtin Builtin.min, args := #[Operand.tmp 53, Operand.const (Value.int IntKind.i64 100)], argTypes := #[3, 3] }, 3, _, _, some (2, false)⟩) (v := ?v8n1) rfl (by kernel_rfl) (by kernel_rfl) (by kernel_rfl) (fun _ _ _ h => h) (Or.inl ⟨by rfl, ?y8n1⟩) hHeld ?z8n1
              case y8n1 => intro w hSw; (try dsimp only at hSw); go_simp <;> rfl
              try simp only [Act.put, List.setIfInBounds_toArray, List.set_cons_zero, List.set_cons_succ]
              refine wpAnyH_take (i := 9) (oi := ⟨some 55, Op.slice 9 (Operand.tmp 51) none (some (Operand.tmp 54)) none, 9, _, _, some (2, false)⟩) (v := ?v9n1) rfl (by kernel_rfl) (by kernel_rfl) (by kernel_rfl) (fun _ _ _ h => h) (Or.inl ⟨by rfl, ?y9n1⟩) hHeld ?z9n1
              case y9n1 => intro w hSw; (try dsimp only at hSw); go_simp <;> rfl
              try simp only [Act.put, List.setIfInBounds_toArray, List.set_cons_zero, List.set_cons_succ]
              refine wpAnyH_ready (rs := [4]) (by kernel_rfl) (by simp) ?_
              refine AllReadyH.cons (o := ⟨some 50, Op.call { callee := Callee.value (Operand.func 20), args := #[Operand.tmp 49], argTypes := #[33] }, 9, _, _, some (2, false)⟩) rfl (fun K hK => ?_) AllReadyH.nil
              go_simp
              refine (rtext_any b _ _ _ _ hrd).mono ?_
              rw [e6]
              simp only [mk_toList]
              rintro e w5 ⟨rfl, h5, k5⟩
              simp only at h5
              have K5 := Lib.hid k5
              have H5 := Lib.hid h5
              clear h5 k5
              dsimp only
              refine hK.out _ _ trivial (fun hHeld => ?_)
              clear hK K
              try simp only [Act.put, List.setIfInBounds_toArray, List.set_cons_zero, List.set_cons_succ]
              refine wpAnyH_take (i := 10) (oi := ⟨some 56, Op.binOp BinOp.neq 9 (Operand.tmp 50) (Operand.tmp 55) 9, 4, _, _, some (2, false)⟩) (v := ?v10n1) rfl (by kernel_rfl) (by kernel_rfl) (by kernel_rfl) (fun _ _ _ h => h) (Or.inl ⟨by rfl, ?y10n1⟩) hHeld ?z10n1
              case y10n1 => intro w hSw; (try dsimp only at hSw); go_simp <;> rfl
              try simp only [Act.put, List.setIfInBounds_toArray, List.set_cons_zero, List.set_cons_succ]
              refine wpAnyH_take (i := 11) (oi := ⟨some 57, Op.pick (Operand.tmp 48) (Operand.const (Value.bool true)) (Operand.tmp 56), 4, _, _, none⟩) (v := ?v11n1) rfl (by kernel_rfl) (by kernel_rfl) (by kernel_rfl) (fun _ _ _ h => h) (Or.inl ⟨by rfl, ?y11n1⟩) hHeld ?z11n1
              case y11n1 => intro w hSw; (try dsimp only at hSw); go_simp <;> rfl
              try simp only [Act.put, List.setIfInBounds_toArray, List.set_cons_zero, List.set_cons_succ]
              refine wpAnyH_done (by kernel_rfl) ?_ _
              refine NoPanic.normal ?_
              go_wp2
              go_roundw
              case rel => exact ⟨k + 1, by omega, by go_num, (hkept'.step (Kept.drew _ _)).trans K5.out (fun i hi h => by omega), H5.out⟩
              case measure => simp [intOf]; omega
            · rw [cutTo_long t ht100] at e6
              have h100' : (100 : Int) < (t.size : Int) := by omega
              have h101' : (100 : Int) ≤ (t.size : Int) := by omega
              refine wp_region_noPanic ?_
              refine wp_region_held_drew (S := fun _ => True) (by kernel_rfl) trivial (fun hHeld => ?_)
              refine wpAnyH_take (i := 0) (oi := ⟨some 46, Op.move (Operand.tmp 8), 33, _, _, none⟩) (v := ?v0n2) rfl (by kernel_rfl) (by kernel_rfl) (by kernel_rfl) (fun _ _ _ h => h) (Or.inl ⟨by rfl, ?y0n2⟩) hHeld ?z0n2
              case y0n2 => intro w hSw; (try dsimp only at hSw); go_simp <;> rfl
              try simp only [Act.put, List.setIfInBounds_toArray, List.set_cons_zero, List.set_cons_succ]
              refine wpAnyH_ready (rs := [1]) (by kernel_rfl) (by simp) ?_
              refine AllReadyH.cons (o := ⟨some 47, Op.call { callee := Callee.value (Operand.func 17), args := #[Operand.tmp 46], argTypes := #[33] }, 4, _, _, none⟩) rfl (fun K hK => ?_) AllReadyH.nil
              go_simp
              refine (rdone_any b _ _ _ _ hrd).mono ?_
              rw [e7]
              rintro e w5 ⟨rfl, rfl⟩
              dsimp only
              refine hK.out _ _ trivial (fun hHeld => ?_)
              clear hK K
              try simp only [Act.put, List.setIfInBounds_toArray, List.set_cons_zero, List.set_cons_succ]
              refine wpAnyH_take (i := 2) (oi := ⟨some 48, Op.move (Operand.tmp 47), 4, _, _, none⟩) (v := ?v2n2) rfl (by kernel_rfl) (by kernel_rfl) (by kernel_rfl) (fun _ _ _ h => h) (Or.inl ⟨by rfl, ?y2n2⟩) hHeld ?z2n2
              case y2n2 => intro w hSw; (try dsimp only at hSw); go_simp <;> rfl
              try simp only [Act.put, List.setIfInBounds_toArray, List.set_cons_zero, List.set_cons_succ]
              refine wpAnyH_take (i := 3) (oi := ⟨some 49, Op.move (Operand.tmp 8), 33, _, _, some (2, false)⟩) (v := ?v3n2) rfl (by kernel_rfl) (by kernel_rfl) (by kernel_rfl) (fun _ _ _ h => h) (Or.inl ⟨by rfl, ?y3n2⟩) hHeld ?z3n2
              case y3n2 => intro w hSw; (try dsimp only at hSw); go_simp <;> rfl
              try simp only [Act.put, List.setIfInBounds_toArray, List.set_cons_zero, List.set_cons_succ]
              refine wpAnyH_take (i := 5) (oi := ⟨some 51, Op.move (Operand.tmp 10), 9, _, _, some (2, false)⟩) (v := ?v5n2) rfl (by kernel_rfl) (by kernel_rfl) (by kernel_rfl) (fun _ _ _ h => h) (Or.inl ⟨by rfl, ?y5n2⟩) hHeld ?z5n2
              case y5n2 => intro w hSw; (try dsimp only at hSw); go_simp <;> rfl
              try simp only [Act.put, List.setIfInBounds_toArray, List.set_cons_zero, List.set_cons_succ]
              refine wpAnyH_take (i := 6) (oi := ⟨some 52, Op.move (Operand.tmp 10), 9, _, _, some (2, false)⟩) (v := ?v6n2) rfl (by kernel_rfl) (by kernel_rfl) (by kernel_rfl) (fun _ _ _ h => h) (Or.inl ⟨by rfl, ?y6n2⟩) hHeld ?z6n2
              case y6n2 => intro w hSw; (try dsimp only at hSw); go_simp <;> rfl
              try simp only [Act.put, List.setIfInBounds_toArray, List.set_cons_zero, List.set_cons_succ]
              refine wpAnyH_take (i := 7) (oi := ⟨some 53, Op.call { callee := Callee.builtin Builtin.len, args := #[Operand.tmp 52], argTypes := #[9] }, 3, _, _, some (2, false)⟩) (v := ?v7n2) rfl (by kernel_rfl) (by kernel_rfl) (by kernel_rfl) (fun _ _ _ h => h) (Or.inl ⟨by rfl, ?y7n2⟩) hHeld ?z7n2
              case y7n2 => intro w hSw; (try dsimp only at hSw); go_simp <;> rfl
              try simp only [Act.put, List.setIfInBounds_toArray, List.set_cons_zero, List.set_cons_succ]
              refine wpAnyH_take (i := 8) (oi := ⟨some 54, Op.call { callee := Callee.builtin Builtin.min, args := #[Operand.tmp 53, Operand.const (Value.int IntKind.i64 100)], argTypes := #[3, 3] }, 3, _, _, some (2, false)⟩) (v := ?v8n2) rfl (by kernel_rfl) (by kernel_rfl) (by kernel_rfl) (fun _ _ _ h => h) (Or.inl ⟨by rfl, ?y8n2⟩) hHeld ?z8n2
              case y8n2 => intro w hSw; (try dsimp only at hSw); go_simp <;> rfl
              try simp only [Act.put, List.setIfInBounds_toArray, List.set_cons_zero, List.set_cons_succ]
              refine wpAnyH_take (i := 9) (oi := ⟨some 55, Op.slice 9 (Operand.tmp 51) none (some (Operand.tmp 54)) none, 9, _, _, some (2, false)⟩) (v := ?v9n2) rfl (by kernel_rfl) (by kernel_rfl) (by kernel_rfl) (fun _ _ _ h => h) (Or.inl ⟨by rfl, ?y9n2⟩) hHeld ?z9n2
              case y9n2 => intro w hSw; (try dsimp only at hSw); go_simp <;> rfl
              try simp only [Act.put, List.setIfInBounds_toArray, List.set_cons_zero, List.set_cons_succ]
              refine wpAnyH_ready (rs := [4]) (by kernel_rfl) (by simp) ?_
              refine AllReadyH.cons (o := ⟨some 50, Op.call { callee := Callee.value (Operand.func 20), args := #[Operand.tmp 49], argTypes := #[33] }, 9, _, _, some (2, false)⟩) rfl (fun K hK => ?_) AllReadyH.nil
              go_simp
              refine (rtext_any b _ _ _ _ hrd).mono ?_
              rw [e6]
              simp only [mk_toList]
              rintro e w5 ⟨rfl, h5, k5⟩
              simp only at h5
              have K5 := Lib.hid k5
              have H5 := Lib.hid h5
              clear h5 k5
              dsimp only
              refine hK.out _ _ trivial (fun hHeld => ?_)
              clear hK K
              try simp only [Act.put, List.setIfInBounds_toArray, List.set_cons_zero, List.set_cons_succ]
              refine wpAnyH_take (i := 10) (oi := ⟨some 56, Op.binOp BinOp.neq 9 (Operand.tmp 50) (Operand.tmp 55) 9, 4, _, _, some (2, false)⟩) (v := ?v10n2) rfl (by kernel_rfl) (by kernel_rfl) (by kernel_rfl) (fun _ _ _ h => h) (Or.inl ⟨by rfl, ?y10n2⟩) hHeld ?z10n2
              case y10n2 => intro w hSw; (try dsimp only at hSw); go_simp <;> rfl
              try simp only [Act.put, List.setIfInBounds_toArray, List.set_cons_zero, List.set_cons_succ]
              refine wpAnyH_take (i := 11) (oi := ⟨some 57, Op.pick (Operand.tmp 48) (Operand.const (Value.bool true)) (Operand.tmp 56), 4, _, _, none⟩) (v := ?v11n2) rfl (by kernel_rfl) (by kernel_rfl) (by kernel_rfl) (fun _ _ _ h => h) (Or.inl ⟨by rfl, ?y11n2⟩) hHeld ?z11n2
              case y11n2 => intro w hSw; (try dsimp only at hSw); go_simp <;> rfl
              try simp only [Act.put, List.setIfInBounds_toArray, List.set_cons_zero, List.set_cons_succ]
              refine wpAnyH_done (by kernel_rfl) ?_ _
              refine NoPanic.normal ?_
              go_wp2
              go_roundw
              case rel => exact ⟨k + 1, by omega, by go_num, (hkept'.step (Kept.drew _ _)).trans K5.out (fun i hi h => by omega), H5.out⟩
              case measure => simp [intOf]; omega
          · obtain rfl : k = us.length := by omega
            rw [List.drop_length] at hr
            have e8 : txs [] ++ [x] = [x] := rfl
            rw [e8] at hr
            go_wp2_with fail
            refine (rdone_any b _ _ _ _ hr).mono ?_
            rintro e w5 ⟨rfl, rfl⟩
            go_wp2_with fail
            refine (rbyte_any b _ _ _ _ hr).mono ?_
            have e9 : rByte [x] false = (x, [], false) := by unfold rByte; simp
            rw [e9]
            rintro e w6 ⟨rfl, h6, k6⟩
            simp only at h6
            go_wp2_with fail
            refine (rdone_any b _ _ _ _ h6).mono ?_
            rintro e w7 ⟨rfl, rfl⟩
            go_wp2
            go_ret
            exact ⟨rfl, k1.step (hkept'.trans k6 (fun i hi h => by omega))⟩

end Go.Proofs.Ytnenbohnbojjgaa
