/-
  CheckBurst: what it does with whatever bytes, place and change. No statement is proved here.
-/
import Derived.Test.YtfegoeepjmjlcaaL2Awake
import Derived.Laws.OwnMore
import Derived.StillTailTactics
namespace Go.Proofs.Ytfegoeepjmjlcaa
open Go.RowKit

theorem Try.infoByte : (Try.prog.info? 5).map (fun i => (i.zero, i.size, i.bytes)) = some (some (.int .u8 0), 1, 1) := by kernel_rfl

theorem shift_in (p d q : Nat) : stpN p 8 (d ^^^ q) = stpN p 8 (d ^^^ q % 256) ^^^ q / 256 := by
  have h := split_low q 8
  have e8 : (2 : Nat) ^ 8 = 256 := rfl
  rw [e8] at h
  have e : d ^^^ q = (q / 256 * 2 ^ 8) ^^^ (d ^^^ q % 256) := by
    rw [e8]
    conv => lhs; rw [h]
    rw [← Nat.xor_assoc, ← Nat.xor_assoc, Nat.xor_comm d]
  rw [e, stpN_xor, stpN_high, Nat.xor_comm]
theorem upd_xor (p r d c e : Nat) : upd p (r ^^^ d) (c ^^^ e) = upd p r c ^^^ stpN p 8 (d ^^^ e) := by
  unfold upd
  rw [xor_swap, stpN_xor]

/-- Four bytes that are other: what comes of it. -/
theorem run_four (p v : Nat) (hv : v < 4294967296) (c0 c1 c2 c3 : UInt8) (r : Nat) :
    run p [c0 ^^^ lowByte v 0, c1 ^^^ lowByte v 1, c2 ^^^ lowByte v 2, c3 ^^^ lowByte v 3] r = run p [c0, c1, c2, c3] r ^^^ stpN p 32 v := by
  have s1 : stpN p 8 v = stpN p 8 (0 ^^^ v % 256) ^^^ v / 256 := by have := shift_in p 0 v; rwa [Nat.zero_xor] at this
  obtain ⟨d1, hd1⟩ : ∃ d, d = stpN p 8 (0 ^^^ v % 256) := ⟨_, rfl⟩
  rw [← hd1] at s1
  have s2 := shift_in p d1 (v / 256)
  obtain ⟨d2, hd2⟩ : ∃ d, d = stpN p 8 (d1 ^^^ v / 256 % 256) := ⟨_, rfl⟩
  rw [← hd2, Nat.div_div_eq_div_mul] at s2
  have s3 := shift_in p d2 (v / (256 * 256))
  obtain ⟨d3, hd3⟩ : ∃ d, d = stpN p 8 (d2 ^^^ v / (256 * 256) % 256) := ⟨_, rfl⟩
  rw [← hd3, Nat.div_div_eq_div_mul] at s3
  have s4 := shift_in p d3 (v / (256 * 256 * 256))
  obtain ⟨d4, hd4⟩ : ∃ d, d = stpN p 8 (d3 ^^^ v / (256 * 256 * 256) % 256) := ⟨_, rfl⟩
  rw [← hd4, Nat.div_div_eq_div_mul, Nat.div_eq_of_lt (a := v) (b := 256 * 256 * 256 * 256) hv, Nat.xor_zero] at s4
  have e : stpN p 32 v = d4 := by
    rw [show 32 = 8 + 8 + 8 + 8 from rfl, stpN_add, stpN_add, stpN_add, s1, s2, s3, s4]
  rw [e]
  have r0 : r = r ^^^ 0 := (Nat.xor_zero r).symm
  show upd p (upd p (upd p (upd p r _) _) _) _ = upd p (upd p (upd p (upd p r _) _) _) _ ^^^ d4
  simp only [UInt8.toNat_xor, lowByte_toNat]
  conv => lhs; rw [r0]
  rw [show v / 2 ^ (8 * 0) = v by simp, show v / 2 ^ (8 * 1) = v / 256 from rfl, show v / 2 ^ (8 * 2) = v / (256 * 256) from rfl, show v / 2 ^ (8 * 3) = v / (256 * 256 * 256) from rfl]
  rw [upd_xor, ← hd1, upd_xor, ← hd2, upd_xor, ← hd3, upd_xor, ← hd4]

/-- Bytes of which the first i from place k on are other. -/
def chg (xs : List UInt8) (k v : Nat) : Nat → List UInt8
  | 0 => xs
  | i + 1 => (chg xs k v i).set (k + i) (xs.getD (k + i) 0 ^^^ lowByte v i)
theorem chg_length (xs : List UInt8) (k v : Nat) : ∀ i, (chg xs k v i).length = xs.length
  | 0 => rfl
  | i + 1 => by rw [chg, List.length_set, chg_length xs k v i]
theorem chg_later (xs : List UInt8) (k v j : Nat) : ∀ i, i ≤ j → (chg xs k v i)[k + j]? = xs[k + j]?
  | 0, _ => rfl
  | i + 1, h => by rw [chg, List.getElem?_set_ne (by omega), chg_later xs k v j i (by omega)]
theorem chg_four (a b : List UInt8) (c0 c1 c2 c3 : UInt8) (v : Nat) : chg (a ++ ([c0, c1, c2, c3] ++ b)) a.length v 4 =
    a ++ ([c0 ^^^ lowByte v 0, c1 ^^^ lowByte v 1, c2 ^^^ lowByte v 2, c3 ^^^ lowByte v 3] ++ b) := by
  have g : ∀ i, i < 4 → (a ++ ([c0, c1, c2, c3] ++ b)).getD (a.length + i) 0 = [c0, c1, c2, c3].getD i 0 := by
    intro i hi
    simp only [List.getD_eq_getElem?_getD, List.getElem?_append_right (Nat.le_add_right _ _), Nat.add_sub_cancel_left]
    rw [List.getElem?_append_left (by simpa using hi)]
  simp only [chg]
  rw [g 0 (by omega), g 1 (by omega), g 2 (by omega), g 3 (by omega)]
  simp

/-- Four bytes that are other are seen. -/
theorem burst_seen (xs : List UInt8) (k v : Nat) (hv : v < 4294967296) (hk : k + 4 ≤ xs.length) : crc 3988292384 xs = crc 3988292384 (chg xs k v 4) ↔ v = 0 := by
  obtain ⟨a, ha⟩ : ∃ a, a = xs.take k := ⟨_, rfl⟩
  have hal : a.length = k := by rw [ha, List.length_take]; omega
  obtain ⟨c0, c1, c2, c3, b, e⟩ : ∃ c0 c1 c2 c3 b, xs.drop k = [c0, c1, c2, c3] ++ b := by
    have hd : (xs.drop k).length = xs.length - k := List.length_drop
    match hm : xs.drop k with
    | c0 :: c1 :: c2 :: c3 :: b => exact ⟨c0, c1, c2, c3, b, rfl⟩
    | [] => rw [hm] at hd; simp at hd; omega
    | [_] => rw [hm] at hd; simp at hd; omega
    | [_, _] => rw [hm] at hd; simp at hd; omega
    | [_, _, _] => rw [hm] at hd; simp at hd; omega
  have ex : xs = a ++ ([c0, c1, c2, c3] ++ b) := by rw [ha, ← e, List.take_append_drop]
  rw [ex, ← hal, chg_four, eq_comm, seen (by decide) (by decide) a _ _ b (stpN 3988292384 32 v) (stpN_lt (by decide) hv 32) (run_four _ v hv c0 c1 c2 c3)]
  exact ⟨stpN_inj (by decide) (by decide) hv 32, fun h => by rw [h, stpN_zero]⟩

set_option maxHeartbeats 1000000 in
theorem burst_walk (F : Nat → Prop) (a : Option Addr) (n c : Nat) (l : List UInt8) (at_ v : Nat) (w : World) (ha : at_ < 65536) (hv : v < 4294967296) (h : Lies w F a (l.map bv)) (hl : l.length = n) (hn : n ≤ 140737488351232) :
    Calls Try.prog 6 #[.slice a n c, .int .u16 (at_ : Int), .int .u32 (v : Int)] w fun e w' => e = .returned (.bool true) ∧ Kept noBlock w w' := by
  have HV := Lib.hid hv; clear hv
  go_enter Try.func6, Try.ntmps6
  go_wp2_with fail
  refine (awake_any w).mono ?_
  rintro e w1 ⟨rfl, k1⟩
  obtain ⟨w2, hw2⟩ : ∃ w2, w2 = w1.alloc (.cells #[.int .u8 0, .int .u8 0, .int .u8 0, .int .u8 0] 5) := ⟨_, rfl⟩
  have k2 : Kept noBlock w1 w2 := by rw [hw2]; exact Kept.alloc _ _ _
  have h2 := h.keep (k1.step k2) (fun _ _ h => h)
  have hown2 : w2.ownsRow 0 5 1 (.slice (some ⟨w1.heap.size, 0, none⟩) 4 4) 4 [.int .u8 0, .int .u8 0, .int .u8 0, .int .u8 0] := by rw [hw2]; exact World.ownsRow_lit w1 _ 4 (Nat.zero_le _) (by decide) rfl
  have hsrc : Src Try.prog 1 29 (.slice a n c) n (l.map bv) w2 := src_lies Try.underlying29 h2 (by simpa using hl) (bv_one l)
  rw [hw2] at hown2 hsrc
  go_wp2_with (at_builtin; refine wpList_append_src rfl _ _ 29 29 rfl 5 (.int .u8 0) 1 1 Try.underlying29 Try.infoByte rfl (.slice (some ⟨w1.heap.size, 0, none⟩) 4 4) 4 _ rfl hown2 _ n (l.map bv) rfl hsrc ?c3 ?c4 ?_)
  case c3 => unfold maxLen; omega
  case c4 => omega
  rw [← hw2]
  obtain ⟨xs, hxs⟩ : ∃ xs, xs = [0, 0, 0, 0] ++ l := ⟨_, rfl⟩
  have hxm : (.int .u8 0 :: .int .u8 0 :: .int .u8 0 :: .int .u8 0 :: l.map bv) = xs.map bv := by rw [hxs]; rfl
  rw [hxm]
  obtain ⟨N, hN⟩ : ∃ N, N = 4 + n := ⟨_, rfl⟩
  rw [← hN]
  have hxl : xs.length = N := by rw [hxs, hN, List.length_append, hl]; rfl
  intro A1 c1 w3 hown3 k3 hat3
  have hk3 : Kept noBlock w1 w3 := k2.trans k3 (fun i hi h => by simp [Value.ownBlock] at h; omega)
  have hx3 : Lies w3 (fun i => i < w3.heap.size) A1 (xs.map bv) := Lies.of_own hown3 (fun i hi => own_lt hown3 i hi)
  have hsrc3 : Src Try.prog 1 29 (.slice A1 N c1) N (xs.map bv) w3 := src_lies Try.underlying29 hx3 (by simpa using hxl) (bv_one xs)
  have hNb : N ≤ 140737488355328 := by omega
  have hN4 : 4 ≤ N := by omega
  have HN := Lib.hid hN; clear hN
  have HX := Lib.hid hxs; clear hxs
  clear hxm hown3 k3 hat3 hsrc hown2 h2 hw2 h
  go_wp2_with (at_builtin; refine wpList_append_src rfl _ _ 29 29 rfl 5 (.int .u8 0) 1 1 Try.underlying29 Try.infoByte rfl (.slice none 0 0) 0 [] rfl (World.ownsRow_nil _ _ _ _) _ N (xs.map bv) rfl hsrc3 ?c3 ?c4 ?_)
  case c3 => unfold maxLen; omega
  case c4 => omega
  intro A2 c2 w4 hown4 k4 hat4
  obtain ⟨g, cap, hvv, _, _⟩ := hown4.form (by omega)
  obtain ⟨rfl, rfl⟩ : A2 = some ⟨g, 0, none⟩ ∧ c2 = cap := by injection hvv with a b c; exact ⟨a, c⟩
  have hg : fresh w3 w4 g := by
    rcases hat4 g rfl with h | h
    · cases h
    · exact h
  have k34 : Kept noBlock w3 w4 := k4.mono (fun i _ h => by simp [Value.ownBlock] at h)
  clear hsrc3 hvv hat4 k4
  obtain ⟨k, hk⟩ : ∃ k, k = at_ % (N - 3) := ⟨_, rfl⟩
  have hkN : k + 4 ≤ N := by have := Nat.mod_lt at_ (y := N - 3) (by omega); omega
  have hrem : (at_ : Int) % ((N : Int) - 3) = (k : Int) := by
    have e : (N : Int) - 3 = ((N - 3 : Nat) : Int) := by omega
    rw [hk, e]
    omega
  have hN3 : (3 : Int) < N := by omega
  have HK := Lib.hid hk; clear hk
  have HO := Lib.hid hown4; clear hown4
  go_wp2
  rw [hrem]
  clear hrem
  go_loopw [10] (fun i wr => ∃ j : Nat, j ≤ 4 ∧ i = .int .i64 j ∧ Kept noBlock w3 wr ∧ Hid (wr.ownsRow 0 5 1 (.slice (some ⟨g, 0, none⟩) N c2) N ((chg xs k v j).map bv))) (fun i _ => 4 - (intOf i).toNat)
  case atStart => exact ⟨0, by omega, rfl, k34, HO⟩
  case round =>
    obtain ⟨j, hj, rfl, hkept, HR⟩ := hrel
    by_cases hj4 : j < 4
    · obtain ⟨m, hm⟩ : ∃ m, m = k + j := ⟨_, rfl⟩
      obtain ⟨x, hx⟩ : ∃ x, xs[m]? = some x := ⟨_, List.getElem?_eq_getElem (by omega)⟩
      have hc : wr.cell? ⟨g, m, none⟩ = some (.int .u8 (x.toNat : Int)) := by rw [HR.out.cellAt m (by omega)]; rw [List.getElem?_map, hm, chg_later xs k v j j (Nat.le_refl _), ← hm, hx]; rfl
      have hc' : ∀ d, World.cell? { heap := wr.heap, tape := wr.tape, drawn := d, os := wr.os, output := wr.output } ⟨g, m, none⟩ = some (.int .u8 (x.toNat : Int)) := fun _ => hc
      have hf : wr.frozen? ⟨g, m, none⟩ = false := HR.out.frozenAt _
      obtain ⟨z, hz⟩ : ∃ z : UInt8, z = x ^^^ lowByte v j := ⟨_, rfl⟩
      have HS := Lib.hid (HR.out.stored m (.int .u8 (z.toNat : Int)))
      have hmN : (m : Int) < (N : Int) := by omega
      have w1' : IntKind.i64.wrap ((k : Int) + (j : Int)) = (m : Int) := by rw [IntWalk.i64_in _ (by omega)]; omega
      obtain ⟨s8, hs8⟩ : ∃ s8, s8 = 8 * j := ⟨_, rfl⟩
      have w2' : IntKind.i64.wrap (8 * (j : Int)) = (s8 : Int) := by rw [IntWalk.i64_in _ (by omega)]; omega
      have hs32 : s8 < 32 := by omega
      have hxor : bits BinOp.xor IntKind.u8 (x.toNat : Int) (IntKind.u8.wrap ((v : Int) / 2 ^ s8)) = (z.toNat : Int) := by
        have e1 : (v : Int) / 2 ^ s8 = ((v / 2 ^ s8 : Nat) : Int) := by simp
        rw [e1, wrap_u8, hz, UInt8.toNat_xor, lowByte_toNat, ← hs8]
        exact u8_xor_nat _ _ x.toNat_lt (by omega)
      have HM := Lib.hid hm; clear hm
      have H8 := Lib.hid hs8; clear hs8
      have HZ := Lib.hid hz; clear hz
      have HX2 := Lib.hid hx; clear hx
      have hd : decide ((j : Int) < 4) = true := decide_eq_true (by omega)
      go_wp2
      go_still_tail 12, (by kernel_rfl)
      change wpList _ _ _ _ _ wr.drew
      have HQ : Hid ((wr.setCell ⟨g, m, none⟩ (.int .u8 (z.toNat : Int))).ownsRow 0 5 1 (.slice (some ⟨g, 0, none⟩) N c2) N ((chg xs k v (j + 1)).map bv)) := by
        have e1 : ((chg xs k v j).map bv).set m (.int .u8 (z.toNat : Int)) = (chg xs k v (j + 1)).map bv := by
          rw [chg, List.map_set, ← HM.out, HZ.out, List.getD_eq_getElem?_getD, HX2.out]
          rfl
        have := HS.out.1
        rw [e1] at this
        exact Lib.hid this
      clear HS hc' HZ HX2 H8 HM
      go_wp2
      go_roundw
      case rel => exact ⟨j + 1, by omega, by go_num, (hkept.step (Kept.drew _ _)).trans (Kept.setCell (S := fun i => i = g) _ (by rfl) _) (fun i hi h => by have := hg.1; omega), HQ⟩
      case measure => simp [intOf]; omega
    · obtain rfl : j = 4 := by omega
      go_wp2_with fail
      refine (sum_any _ A1 N c1 xs wr (hx3.keep hkept (fun _ _ h => h)) hxl (by omega)).mono ?_
      rintro e w5 ⟨rfl, k5⟩
      have hl5 := Lies.of_own (F := fun _ => True) (own_keep HR.out k5 (fun _ _ h => h)) (fun _ _ => trivial)
      go_wp2_with fail
      refine (sum_any _ _ N c2 (chg xs k v 4) w5 hl5 ((chg_length xs k v 4).trans hxl) (by omega)).mono ?_
      rintro e w6 ⟨rfl, k6⟩
      have hs := burst_seen xs k v HV.out (by omega)
      have kk := (((k1.step hk3).step hkept).step k5).step k6
      clear hl5 HR
      by_cases hv : v = 0
      · have hq := hs.2 hv
        rw [← hq]
        subst hv
        clear hs hq
        go_wp2
        go_ret
        exact ⟨rfl, kk⟩
      · have hq : ((crc 3988292384 xs : Int) == (crc 3988292384 (chg xs k v 4) : Int)) = false := by
          have : ¬ crc 3988292384 xs = crc 3988292384 (chg xs k v 4) := fun h => hv (hs.1 h)
          exact beq_false_of_ne (fun h => this (by omega))
        have hv2 : ((v : Int) == 0) = false := beq_false_of_ne (fun h => hv (by omega))
        clear hs
        go_wp2
        go_ret
        exact ⟨rfl, kk⟩

end Go.Proofs.Ytfegoeepjmjlcaa
