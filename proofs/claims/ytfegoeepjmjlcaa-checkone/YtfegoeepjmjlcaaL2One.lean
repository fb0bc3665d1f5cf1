/-
  CheckOne: what it does with whatever bytes, place and change. No statement is proved here.
-/
import Derived.Test.YtfegoeepjmjlcaaL2Awake
import Derived.Laws.OwnMore
namespace Go.Proofs.Ytfegoeepjmjlcaa
open Go.RowKit

theorem Try.infoByte : (Try.prog.info? 5).map (fun i => (i.zero, i.size, i.bytes)) = some (some (.int .u8 0), 1, 1) := by kernel_rfl

/-- One byte that is other is seen. -/
theorem one_seen (l : List UInt8) (k : Nat) (x y : UInt8) (hx : l[k]? = some x) : crc 3988292384 (l.set k (x ^^^ y)) = crc 3988292384 l ↔ y = 0 := by
  obtain ⟨hk, e⟩ := List.getElem?_eq_some_iff.1 hx
  have e1 : l = l.take k ++ ([x] ++ l.drop (k + 1)) := by
    rw [← e]
    simp
  have e2 : l.set k (x ^^^ y) = l.take k ++ ([x ^^^ y] ++ l.drop (k + 1)) := by
    rw [List.set_eq_take_append_cons_drop, if_pos hk]
    rfl
  rw [e2]
  conv => lhs; rhs; rw [e1]
  rw [seen (by decide) (by decide) (l.take k) [x] [x ^^^ y] (l.drop (k + 1)) (stpN 3988292384 8 y.toNat) (stpN_lt (by decide) (by have := y.toNat_lt; omega) 8)
    (fun r => by show upd _ _ _ = _; rw [UInt8.toNat_xor, run_byte]; rfl)]
  constructor
  · intro h
    have := stpN_inj (by decide) (by decide) (by have := y.toNat_lt; omega) 8 h
    exact UInt8.toNat_inj.1 this
  · rintro rfl
    exact stpN_zero _ 8

set_option maxHeartbeats 1000000 in
theorem one_walk (F : Nat → Prop) (a : Option Addr) (n c : Nat) (l : List UInt8) (at_ : Nat) (y : UInt8) (w : World) (ha : at_ < 65536) (h : Lies w F a (l.map bv)) (hl : l.length = n) (hn : n ≤ 140737488355328) :
    Calls Try.prog 5 #[.slice a n c, .int .u16 (at_ : Int), .int .u8 (y.toNat : Int)] w fun e w' => e = .returned (.bool true) ∧ Kept noBlock w w' := by
  go_enter Try.func5, Try.ntmps5
  go_wp2_with fail
  refine (awake_any w).mono ?_
  rintro e w1 ⟨rfl, k1⟩
  have h1 := h.keep k1 (fun _ _ h => h)
  by_cases h0 : n = 0
  · subst h0
    go_wp2_with fail
    refine (sum_any F a 0 c l w1 h1 hl (by omega)).mono ?_
    obtain rfl : l = [] := List.eq_nil_of_length_eq_zero hl
    have e3 : crc 3988292384 [] = 0 := by decide +kernel
    rw [e3]
    rintro e w2 ⟨rfl, k2⟩
    go_wp2
    go_ret
    exact ⟨rfl, k1.step k2⟩
  · have hsrc : Src Try.prog 1 29 (.slice a n c) n (l.map bv) w1 := src_lies Try.underlying29 h1 (by simpa using hl) (bv_one l)
    go_wp2_with (at_builtin; refine wpList_append_src rfl _ _ 29 29 rfl 5 (.int .u8 0) 1 1 Try.underlying29 Try.infoByte rfl (.slice none 0 0) 0 [] rfl (World.ownsRow_nil _ _ _ _) _ n (l.map bv) rfl hsrc ?c3 ?c4 ?_)
    case c3 => unfold maxLen; omega
    case c4 => omega
    intro A' c' w2 hown k2 hat
    obtain ⟨g, cap, hv, _, hlt⟩ := hown.form (by omega)
    obtain ⟨rfl, rfl⟩ : A' = some ⟨g, 0, none⟩ ∧ c' = cap := by injection hv with a b c; exact ⟨a, c⟩
    have hg : fresh w1 w2 g := by
      rcases hat g rfl with h | h
      · cases h
      · exact h
    have k12 : Kept noBlock w1 w2 := k2.mono (fun i _ h => by simp [Value.ownBlock] at h)
    have h2 := h1.keep k12 (fun _ _ h => h)
    obtain ⟨k, hk⟩ : ∃ k, k = at_ % n := ⟨_, rfl⟩
    have hkn : k < n := by rw [hk]; exact Nat.mod_lt _ (by omega)
    obtain ⟨x, hx⟩ : ∃ x, l[k]? = some x := ⟨_, List.getElem?_eq_getElem (by omega)⟩
    have hc : w2.cell? ⟨g, k, none⟩ = some (.int .u8 (x.toNat : Int)) := by rw [hown.cellAt k (by omega)]; simp [hx, bv]
    have hf : w2.frozen? ⟨g, k, none⟩ = false := hown.frozenAt k
    have hrem : (at_ : Int) % (n : Int) = (k : Int) := by rw [hk]; omega
    obtain ⟨z, hz⟩ : ∃ z : UInt8, z = x ^^^ y := ⟨_, rfl⟩
    have hxor : bits BinOp.xor IntKind.u8 (x.toNat : Int) (y.toNat : Int) = (z.toNat : Int) := by rw [hz, UInt8.toNat_xor]; exact u8_xor_nat _ _ x.toNat_lt y.toNat_lt
    have HO := Lib.hid (hown.stored k (.int .u8 (z.toNat : Int)))
    have hset : (l.map bv).set k (.int .u8 (z.toNat : Int)) = (l.set k z).map bv := by rw [List.map_set]; rfl
    rw [hset] at HO
    have HZ := Lib.hid hz
    clear hz hset
    have HK := Lib.hid hk
    have HX := Lib.hid hx
    clear hown hat hv hk hx hsrc
    go_wp2_with fail
    have k3 : Kept noBlock w1 (w2.setCell ⟨g, k, none⟩ (.int .u8 (z.toNat : Int))) := k12.trans (Kept.grown (S := fun i => i = g) HO.out.2 (fun i h => by injection h with h; exact h.symm)) (fun i hi h => by have := hg.1; omega)
    have hl3 := Lies.of_own (F := fun _ => True) HO.out.1 (fun _ _ => trivial)
    have hb3 := h1.keep k3 (fun _ _ h => h)
    obtain ⟨w3, hw3⟩ : ∃ w3, w3 = w2.setCell ⟨g, k, none⟩ (.int .u8 (z.toNat : Int)) := ⟨_, rfl⟩
    rw [← hw3] at k3 hl3 hb3 ⊢
    clear hw3 HO hf hc
    refine (sum_any _ _ n _ (l.set k z) w3 hl3 (by simpa using hl) (by omega)).mono ?_
    rintro e w4 ⟨rfl, k4⟩
    go_wp2_with fail
    refine (sum_any F a n c l w4 (hb3.keep k4 (fun _ _ h => h)) hl (by omega)).mono ?_
    rintro e w5 ⟨rfl, k5⟩
    have hs := one_seen l k x y HX.out
    rw [← HZ.out] at hs
    by_cases hy : y = 0
    · have hq := hs.2 hy
      rw [hq]
      subst hy
      clear hs hq
      go_wp2
      go_ret
      exact ⟨rfl, ((k1.step k3).step k4).step k5⟩
    · have hq : ((crc 3988292384 (l.set k z) : Int) == (crc 3988292384 l : Int)) = false := by
        have : ¬ crc 3988292384 (l.set k z) = crc 3988292384 l := fun h => hy (hs.1 h)
        exact beq_false_of_ne (fun h => this (by omega))
      have hy2 : ((y.toNat : Int) == 0) = false := by
        exact beq_false_of_ne (fun h => hy (UInt8.toNat_inj.1 (by simpa using h)))
      clear hs
      go_wp2
      go_ret
      exact ⟨rfl, ((k1.step k3).step k4).step k5⟩

end Go.Proofs.Ytfegoeepjmjlcaa
