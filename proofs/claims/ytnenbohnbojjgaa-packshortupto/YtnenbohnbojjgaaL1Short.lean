/-
  PackShort: what it does with whatever parts. No statement is proved here.
-/
import Derived.Test.YtnenbohnbojjgaaL1Lays
namespace Go.Proofs.Ytnenbohnbojjgaa
open Go.RowKit

theorem rNum_bad (l : List UInt8) : rNum l true = (0, l, true) := by unfold rNum; simp
theorem rByte_bad (l : List UInt8) : rByte l true = (0, l, true) := by unfold rByte; simp
theorem rText_bad (l : List UInt8) : rText l true = ([], l, true) := by unfold rText; rw [rNum_bad]; simp
theorem read_bad (p : PartV) (l : List UInt8) : (p.read l true).2.2 = true := by
  unfold PartV.read
  split
  · rw [rNum_bad]
  · split
    · rw [rByte_bad]
    · rw [rText_bad]
theorem rNum_few (l : List UInt8) (h : l.length < 8) : rNum l false = (0, l, true) := by unfold rNum; rw [if_pos (.inr h)]
/-- A part of which bytes are missing spoils the Reader. -/
theorem read_short (p : PartV) (r : List UInt8) (e : Nat) (hp : p.ok) (he : e < p.bytes.length) : (p.read ((p.bytes ++ r).take e) false).2.2 = true := by
  have hl : ((p.bytes ++ r).take e).length = e := by rw [List.length_take, List.length_append]; omega
  unfold PartV.bytes at he hl ⊢
  unfold PartV.read
  have h3 : p.text.data.toList.length = p.text.size := by rw [Array.length_toList]; rfl
  have h4 := hp.2.2
  split
  · rename_i hk
    rw [if_pos hk, be8_length] at he
    rw [rNum_few _ (by rw [if_pos hk] at hl; omega)]
  · rename_i hk
    rw [if_neg hk] at he hl
    split
    · rename_i hk1
      rw [if_pos hk1] at he hl
      obtain rfl : e = 0 := by simpa using he
      unfold rByte
      simp
    · rename_i hk1
      rw [if_neg hk1] at he hl
      rw [List.length_append, be8_length, h3] at he
      by_cases h8 : e < 8
      · unfold rText
        rw [rNum_few _ (by omega)]
        simp
      · have e1 : ((be8 p.text.size ++ p.text.data.toList ++ r).take e) = be8 p.text.size ++ (p.text.data.toList ++ r).take (e - 8) := by
          rw [List.append_assoc, List.take_append, be8_length, List.take_of_length_le (by rw [be8_length]; omega)]
        rw [e1]
        unfold rText
        rw [rNum_be8 _ _ (by omega) (by omega)]
        rw [if_pos (.inr (.inr (by rw [List.length_take]; omega)))]
/-- One of which none is missing is read. -/
theorem read_long (p : PartV) (r : List UInt8) (e : Nat) (hp : p.ok) (he : p.bytes.length ≤ e) : p.read ((p.bytes ++ r).take e) false = (true, r.take (e - p.bytes.length), false) := by
  have e1 : (p.bytes ++ r).take e = p.bytes ++ r.take (e - p.bytes.length) := by rw [List.take_append, List.take_of_length_le he]
  rw [e1]
  exact read_bytes p _ hp

/-- What a Reader of too few bytes has left. -/
def Left (us : List PartV) (k : Nat) (l : List UInt8) (bad : Bool) : Prop := bad = false → ∃ e, l = (laid (us.drop k)).take e ∧ e < (laid (us.drop k)).length
theorem Left.step {us : List PartV} {k : Nat} {l : List UInt8} {bad : Bool} {p : PartV} (h : Left us k l bad) (hp : us[k]? = some p) (hok : p.ok) :
    ∃ ok l' bad', p.read l bad = (ok, l', bad') ∧ Left us (k + 1) l' bad' ∧ ((bad = true ∧ bad' = true) ∨ (bad = false ∧ bad' = true) ∨ (bad = false ∧ bad' = false ∧ ok = true)) := by
  cases bad
  · obtain ⟨e, rfl, he⟩ := h rfl
    rw [laid_drop us k p hp] at he ⊢
    rw [List.length_append] at he
    by_cases hc : p.bytes.length ≤ e
    · refine ⟨true, _, false, read_long p _ e hok hc, fun _ => ⟨_, rfl, by omega⟩, .inr (.inr ⟨rfl, rfl, rfl⟩)⟩
    · have h1 := read_short p (laid (us.drop (k + 1))) e hok (by omega)
      obtain ⟨ok, l', bad', e1⟩ : ∃ ok l' bad', p.read ((p.bytes ++ laid (us.drop (k + 1))).take e) false = (ok, l', bad') := ⟨_, _, _, rfl⟩
      rw [e1] at h1 ⊢
      simp only at h1
      subst h1
      exact ⟨ok, l', true, rfl, fun h => (by cases h), .inr (.inl ⟨rfl, rfl⟩)⟩
  · have h1 := read_bad p l
    obtain ⟨ok, l', bad', e1⟩ : ∃ ok l' bad', p.read l true = (ok, l', bad') := ⟨_, _, _, rfl⟩
    rw [e1] at h1 ⊢
    simp only at h1
    subst h1
    exact ⟨ok, l', true, rfl, fun h => (by cases h), .inl ⟨rfl, rfl⟩⟩

set_option maxRecDepth 100000 in
set_option maxHeartbeats 2000000 in
theorem short_walk (F : Nat → Prop) (a : Option Addr) (n c : Nat) (ps : List PartV) (x : UInt8) (w : World) (h : Lies w F a (partCells ps)) (hl : ps.length = n) (hnc : n ≤ c) (hn : n ≤ 1048576) (hp : ∀ p ∈ ps, p.ok) :
    Calls Try.prog 4 #[.slice a n c, .int .u8 (x.toNat : Int)] w fun e w' => e = .returned (.bool true) ∧ Kept noBlock w w' := by
  go_enter Try.func4, Try.ntmps4
  go_wp2_with fail
  refine (awake_any w).mono ?_
  rintro e w1 ⟨rfl, k1⟩
  go_upto_region 4 with (fail)
  go_cut [0] (fun s wc => w1.alloc (.cells #[.slice none 0 0] 27) = wc ∧ s = .slice a (min n 60) c)
  case first =>
    go_wp2
    all_goals
      go_meet
      case rel => exact ⟨rfl, by congr 1; omega⟩
  case rest =>
    obtain ⟨rfl, rfl⟩ := hcut
    obtain ⟨us, hus⟩ : ∃ us, us = ps.take (min n 60) := ⟨_, rfl⟩
    have hul : min n 60 = us.length := by rw [hus, List.length_take]; omega
    have hu2 : us.length ≤ 60 := by omega
    have huo : ∀ p ∈ us, p.ok := fun p hm => hp p (by rw [hus] at hm; exact List.mem_of_mem_take hm)
    have hu : Lies w1 F a (partCells us) := by rw [hus]; exact (parts_take h _).keep k1 (fun _ _ h => h)
    rw [hul]
    clear hus hul h hp
    go_wp2
    go_loopw [26] (fun i wr => ∃ (k : Nat) (G : Nat → Prop), k ≤ us.length ∧ i = .int .i64 k ∧ Kept noBlock w1 wr ∧ Wr wr G w1.heap.size (laid (us.take k)) ∧ ∀ i, G i → w1.heap.size ≤ i) (fun i _ => us.length - (intOf i).toNat)
    case atStart => exact ⟨0, _, by omega, rfl, Kept.alloc _ _ _, Wr.new w1, fun i h => by omega⟩
    case round =>
      obtain ⟨k, G, hk, rfl, hkept, hw, hG⟩ := hrel
      have hbl := laid_length (us.take k) (fun q hq => huo q (List.mem_of_mem_take hq))
      have hkl : (us.take k).length ≤ 60 := by rw [List.length_take]; omega
      by_cases hlt : k < us.length
      · obtain ⟨p, hpk⟩ : ∃ p, us[k]? = some p := ⟨_, List.getElem?_eq_getElem hlt⟩
        obtain ⟨ba, oa, rfl, c0, c1, c2⟩ := parts_cell (hu.keep hkept (fun _ _ h => h)) hpk
        have hok := huo p (List.mem_of_getElem? hpk)
        have hbp := p.bytes_length hok
        have HX := Lib.hid (laid_snoc us k p hpk)
        clear hpk
        have hsx : ∀ i, G i → i < wr.heap.size := hw.lt
        go_wp2_with fail
        refine (lay_any _ G _ p _ (hw.keep (Kept.alloc noBlock wr _) (fun _ _ h => h)) (by omega)).mono ?_
        rintro e w3 ⟨rfl, r3⟩
        obtain ⟨q3, r4⟩ := Wr.after (Kept.alloc noBlock wr _) hsx r3
        rw [← HX.out] at r4
        clear r3 c0 c1 c2
        go_wp2
        go_roundw
        case rel => exact ⟨k + 1, _, by omega, by go_num, hkept.trans q3 (fun i hi h => absurd (hG i h) (by omega)), r4, fun i hi => by rcases hi with h | h; exact hG i h; exact Nat.le_trans hkept.size h.1⟩
        case measure => simp [intOf]; omega
      · obtain rfl : k = us.length := by omega
        rw [List.take_length] at hw
        obtain ⟨Y, hY⟩ : ∃ Y, Y = laid us := ⟨_, rfl⟩
        have hYl : Y.length ≤ 62915040 := by have := laid_length us huo; rw [hY]; omega
        rw [← hY] at hw
        have HY := Lib.hid hY
        clear hY
        go_wp2_with fail
        refine (wbytes_any _ G Y wr hw (by omega)).mono ?_
        rintro e w2 ⟨A, cp, rfl, h2, k2⟩
        have hl2 : Lies w2 (fun _ => True) A (Y.map bv) := Lies.of_own h2 (fun _ _ => trivial)
        have hcp : Y.length ≤ cp := by obtain ⟨_, _, e, hle⟩ := own_form h2; injection e with _ _ e; omega
        have q2 := hkept.step k2
        clear h2
        by_cases hY0 : Y.length = 0
        · obtain rfl : Y = [] := List.length_eq_zero_iff.1 hY0
          clear hY0
          simp only [List.length_nil] at hcp
          go_wp2_with fail
          refine (of_any (fun _ => True) A 0 cp [] w2 hl2 rfl (by omega)).mono ?_
          rintro e w3 ⟨b, rfl, h3, k3⟩
          have hb3 : w1.heap.size ≤ b := by have := h3.foot.1; have := q2.size; omega
          go_wp2_with fail
          refine (rdone_any b _ _ _ _ h3).mono ?_
          rintro e w4 ⟨rfl, rfl⟩
          go_wp2_with fail
          refine (rnum_any b _ _ _ _ h3).mono ?_
          rw [rNum_few [] (by decide)]
          rintro e w5 ⟨rfl, h5, k5⟩
          simp only at h5
          go_wp2_with fail
          refine (rbad_any b _ _ _ _ h5).mono ?_
          rintro e w6 ⟨rfl, rfl⟩
          go_wp2_with fail
          refine (rdone_any b _ _ _ _ h5).mono ?_
          rintro e w7 ⟨rfl, rfl⟩
          go_wp2
          go_ret
          exact ⟨rfl, k1.step ((q2.step k3).trans k5 (fun i hi h => by omega))⟩
        · have hb0 : ((Y.length : Int) == 0) = false := beq_eq_false_iff_ne.2 (by omega)
          obtain ⟨R, hR⟩ : ∃ R : Nat, (x.toNat : Int) % (Y.length : Int) = (R : Int) := ⟨x.toNat % Y.length, by rw [Int.natCast_emod]⟩
          have hx256 : (x.toNat : Int) ≤ 255 := by have := x.toNat_lt; omega
          have hRl : R < Y.length := by have := Int.emod_lt_of_pos (x.toNat : Int) (b := (Y.length : Int)) (by omega); omega
          go_wp2_with fail
          clear hR
          have hlm : (Y.take (Y.length - 1 - R)).length = Y.length - 1 - R := by rw [List.length_take]; omega
          refine (of_any (fun _ => True) A (Y.length - 1 - R) cp (Y.take (Y.length - 1 - R)) w2 (by rw [List.map_take]; exact hl2.take _) hlm (by omega)).mono ?_
          rintro e w3 ⟨b, rfl, h3, k3⟩
          have hL0 : Left us 0 (Y.take (Y.length - 1 - R)) false := fun _ => ⟨Y.length - 1 - R, by rw [List.drop_zero, ← HY.out], by rw [List.drop_zero, ← HY.out]; omega⟩
          have k13 : Kept noBlock w1 w3 := q2.step k3
          have hb3 : w1.heap.size ≤ b := by have := h3.foot.1; have := q2.size; omega
          clear hlm hl2
          go_wp2
          go_loopw [11, 71] (fun q i wr => ∃ (k : Nat) (l : List UInt8) (bad : Bool), k ≤ us.length ∧ i = .int .i64 k ∧ q = .bool bad ∧ Left us k l bad ∧ Kept noBlock w1 wr ∧ Rd wr (fresh w2 w3) b l bad) (fun _ i _ => us.length - (intOf i).toNat)
          case atStart => exact ⟨0, _, _, by omega, rfl, rfl, hL0, k13, h3⟩
          case round =>
            obtain ⟨k, l, bad, hk, rfl, rfl, hL, hkept', hr⟩ := hrel
            by_cases hlt : k < us.length
            · obtain ⟨p, hpk⟩ : ∃ p, us[k]? = some p := ⟨_, List.getElem?_eq_getElem hlt⟩
              obtain ⟨ba, oa, rfl, c0, c1, c2⟩ := parts_cell (hu.keep hkept' (fun _ _ h => h)) hpk
              obtain ⟨ok, l', bad', e1, hL', hcase⟩ := hL.step hpk (huo p (List.mem_of_getElem? hpk))
              clear hpk
              have hr1 := hr.keep (Kept.alloc noBlock wr (.cells #[.int .u8 (p.kind.toNat : Int), .int .i64 p.num, .string p.text] 29)) (fun _ _ h => h)
              rcases hcase with ⟨rfl, rfl⟩ | ⟨rfl, rfl⟩ | ⟨rfl, rfl, rfl⟩
              all_goals
                go_wp2_with fail
                refine (reads_any b _ _ _ p _ hr1).mono ?_
                rw [e1]
                rintro e w5 ⟨rfl, h5, k5⟩
                simp only at h5
                clear hr hr1 e1 c0 c1 c2
                go_wp2_with (go_at_call 15; refine (rbad_any b _ _ _ _ h5).mono ?_; rintro e w6 ⟨rfl, rfl⟩)
                go_roundw
                case rel => exact ⟨k + 1, l', _, by omega, by go_num, rfl, hL', (hkept'.step (Kept.alloc _ _ _)).trans k5 (fun i hi h => by omega), h5⟩
                case measure => simp [intOf]; omega
            · obtain rfl : k = us.length := by omega
              obtain rfl : bad = true := by
                cases bad
                · obtain ⟨e, _, he⟩ := hL rfl
                  rw [List.drop_length] at he
                  simp [laid] at he
                · rfl
              go_wp2_with fail
              refine (rnum_any b _ _ _ _ hr).mono ?_
              rw [rNum_bad]
              rintro e w5 ⟨rfl, h5, k5⟩
              simp only at h5
              go_wp2_with fail
              refine (rbyte_any b _ _ _ _ h5).mono ?_
              rw [rByte_bad]
              rintro e w6 ⟨rfl, h6, k6⟩
              simp only at h6
              go_wp2_with fail
              refine (rtext_any b _ _ _ _ h6).mono ?_
              rw [rText_bad]
              rintro e w7 ⟨rfl, h7, k7⟩
              simp only at h7
              go_wp2_with fail
              refine (rdone_any b _ _ _ _ h7).mono ?_
              rintro e w8 ⟨rfl, rfl⟩
              go_wp2
              go_ret
              exact ⟨rfl, k1.step (((hkept'.trans k5 (fun i hi h => by omega)).trans k6 (fun i hi h => by omega)).trans k7 (fun i hi h => by omega))⟩

end Go.Proofs.Ytnenbohnbojjgaa
