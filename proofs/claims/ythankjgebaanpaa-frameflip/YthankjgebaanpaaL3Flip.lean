/-
  FrameFlip: what it does with whatever bytes, place and change. No statement is proved here.
-/
import Derived.Test.YthankjgebaanpaaL3Awake
namespace Go.Proofs.Ythankjgebaanpaa
open Go.RowKit

set_option maxRecDepth 100000 in
set_option maxHeartbeats 1000000 in
theorem flip_walk (F : Nat → Prop) (a : Option Addr) (n c : Nat) (l : List UInt8) (at_ : Nat) (y : UInt8) (w : World) (ha : at_ < 65536) (h : Lies w F a (l.map bv)) (hl : l.length = n) (hc : n ≤ c) :
    Calls Try.prog 8 #[.slice a n c, .int .u16 (at_ : Int), .int .u8 (y.toNat : Int)] w fun e w' => e = .returned (.bool true) ∧ Kept noBlock w w' := by
  go_enter Try.func8, Try.ntmps8
  go_wp2_with fail
  refine (awake_any w).mono ?_
  rintro e w1 ⟨rfl, k1⟩
  have h1 := h.keep k1 (fun _ _ h => h)
  obtain ⟨m, hm⟩ : ∃ m, m = min n 300 := ⟨_, rfl⟩
  obtain ⟨us, hus⟩ : ∃ us, us = l.take m := ⟨_, rfl⟩
  have hul : us.length = m := by rw [hus, List.length_take]; omega
  have hu : Lies w1 F a (us.map bv) := by rw [hus, List.map_take]; exact h1.take m
  have hm3 : m ≤ 300 := by omega
  clear hus h1 h
  go_upto_region 3 with (fail)
  go_cut [7, 8] (fun x e wc => ∃ A c', x = .slice A (m + 9) c' ∧ e = .int .i64 0 ∧ Hid (wc.ownsRow w1.heap.size 5 1 (.slice A (m + 9) c') (m + 9) ((frm us).map bv)) ∧ Kept noBlock w1 wc)
  case first =>
    go_wp2_with fail
    · obtain rfl : m = 300 := by omega
      refine (make_any F a 300 c us w1 hu hul (by omega)).mono ?_
      rintro e w2 ⟨A, c', rfl, o2, k2⟩
      have HO := Lib.hid o2; clear o2 hm hm3
      go_wp2
      go_meet
      case rel => exact ⟨A, c', rfl, rfl, HO, k2⟩
    · obtain rfl : m = n := by omega
      refine (make_any F a m c us w1 hu hul (by omega)).mono ?_
      rintro e w2 ⟨A, c', rfl, o2, k2⟩
      have HO := Lib.hid o2; clear o2 hm hm3
      go_wp2
      go_meet
      case rel => exact ⟨A, c', rfl, rfl, HO, k2⟩
  case rest =>
    obtain ⟨A, c', rfl, rfl, HO, k2⟩ := hcut
    clear hm hu
    obtain ⟨g, cap, hv, hcp, _⟩ := HO.out.form (by omega)
    obtain ⟨rfl, rfl⟩ : A = some ⟨g, 0, none⟩ ∧ c' = cap := by injection hv with a b c; exact ⟨a, c⟩
    have hg := (HO.out.lt g rfl).1
    have hcap : m + 9 ≤ c' := by obtain ⟨_, _, e, hle⟩ := own_form HO.out; injection e with _ _ e; omega
    obtain ⟨N, hN⟩ : ∃ N, N = m + 9 := ⟨_, rfl⟩
    have hfl : (frm us).length = N := by rw [frm_length, hul, hN]
    rw [← hN] at HO hcap hv ⊢
    have hN9 : 9 ≤ N := by omega
    have hN3 : N ≤ 309 := by omega
    clear hv hcp
    obtain ⟨k, hk⟩ : ∃ k, k = at_ % (N - 4) := ⟨_, rfl⟩
    have hkN : 4 + k < N := by have := Nat.mod_lt at_ (y := N - 4) (by omega); omega
    have hrem : (at_ : Int) % ((N : Int) - 4) = (k : Int) := by
      have e : (N : Int) - 4 = ((N - 4 : Nat) : Int) := by omega
      rw [hk, e]
      omega
    obtain ⟨j, hj⟩ : ∃ j, j = 4 + k := ⟨_, rfl⟩
    have hadd : 4 + (k : Int) = (j : Int) := by omega
    obtain ⟨x, hx⟩ : ∃ x, (frm us)[4 + k]? = some x := ⟨_, List.getElem?_eq_getElem (by omega)⟩
    have hcx : wc.cell? ⟨g, j, none⟩ = some (.int .u8 (x.toNat : Int)) := by rw [HO.out.cellAt j (by omega)]; rw [List.getElem?_map, hj, hx]; rfl
    have hf : wc.frozen? ⟨g, j, none⟩ = false := HO.out.frozenAt _
    obtain ⟨z, hz⟩ : ∃ z : UInt8, z = x ^^^ y := ⟨_, rfl⟩
    have hxor : bits BinOp.xor IntKind.u8 (x.toNat : Int) (y.toNat : Int) = (z.toNat : Int) := by rw [hz, UInt8.toNat_xor]; exact u8_xor_nat _ _ x.toNat_lt y.toNat_lt
    have HS := Lib.hid (HO.out.stored j (.int .u8 (z.toNat : Int)))
    have hset : ((frm us).map bv).set j (.int .u8 (z.toNat : Int)) = ((frm us).set j z).map bv := by rw [List.map_set]; rfl
    rw [hset] at HS
    have hjN : (j : Int) < (N : Int) := by omega
    have HN := Lib.hid hN; clear hN
    have HJ := Lib.hid hj; clear hj
    have HK := Lib.hid hk; clear hk
    have HZ := Lib.hid hz; clear hz hset
    have HX := Lib.hid hx; clear hx
    go_wp2_with fail
    have k3 : Kept noBlock w1 (wc.setCell ⟨g, j, none⟩ (.int .u8 (z.toNat : Int))) := k2.trans (Kept.setCell (S := fun i => i = g) _ (by rfl) _) (fun i hi h => by omega)
    have hl3 := Lies.of_own (F := fun _ => True) HS.out.1 (fun _ _ => trivial)
    generalize wc.setCell ⟨g, j, none⟩ (.int .u8 (z.toNat : Int)) = w3 at k3 hl3 ⊢
    clear hf hcx hadd hrem hxor
    refine (fone_any _ _ N c' ((frm us).set j z) w3 hl3 (by rw [List.length_set, hfl]) (by omega) hcap).mono ?_
    rintro e w4 ⟨A4, c4, rfl, _, k4⟩
    have hs := flip_seen us (by omega) k x y HX.out
    rw [← HZ.out, ← HJ.out] at hs
    obtain ⟨u, hu⟩ : ∃ u, u = rd ((frm us).set j z) := ⟨_, rfl⟩
    rw [← hu] at hs ⊢
    clear hu hfl
    by_cases hy : y = 0
    · have hq := hs.2 hy
      subst hy
      rw [hq]
      clear hs hq
      go_wp2
      go_ret
      exact ⟨rfl, (k1.step k3).step k4⟩
    · have hq : (((u.2.2 : Nat) : Int) == 0) = false := beq_false_of_ne (fun h => hy (hs.1 (by omega)))
      have hy2 : ((y.toNat : Int) == 0) = false := beq_false_of_ne (fun h => hy (UInt8.toNat_inj.1 (by show y.toNat = 0; omega)))
      clear hs
      go_wp2
      go_ret
      exact ⟨rfl, (k1.step k3).step k4⟩

end Go.Proofs.Ythankjgebaanpaa
