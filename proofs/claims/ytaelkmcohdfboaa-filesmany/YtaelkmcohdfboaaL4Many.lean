/-
  FilesMany: what it does with whatever number. No statement is proved here.
-/
import Derived.Test.YtaelkmcohdfboaaL4Cut
import Derived.Test.YtaelkmcohdfboaaNames
namespace Go.Proofs.Ytaelkmcohdfboaa
open Go.RowKit Go.Maps

theorem Has.names {w0 w : World} {d : Nat} {S : St} (h : Has w0 w d S) :
    Calls Try.prog 22 #[.pointer (some ⟨d, 0, none⟩)] w fun e w' => ∃ (A : Option Addr) (c n : Nat), e = .returned (.slice A n c) ∧ n = S.cur.length ∧ Kept noBlock w w' := by
  obtain ⟨F, hd, hF, k⟩ := h
  refine (names_any F d S w hd).mono ?_
  rintro e w' ⟨A, c, ns, rfl, hp, _, _, k'⟩
  exact ⟨A, c, ns.length, rfl, by rw [hp.length_eq, List.length_map], k'⟩

/-- k names of one byte each are there, and no other one. -/
structure Few (k : Nat) (S : St) : Prop where
  down : S.down = false
  armed : S.armed = false
  len : S.cur.length = min k 64
  names : ∀ p ∈ S.cur, ∃ j, j < min k 64 ∧ p.1 = [UInt8.ofNat j]
  calls : S.calls ≤ k
theorem byte_ne {i j : Nat} (hi : i < 256) (hj : j < 256) (h : i ≠ j) : UInt8.ofNat i ≠ UInt8.ofNat j := fun e => by
  have := congrArg UInt8.toNat e
  simp at this
  omega
theorem ins_keep (x : List UInt8 × Nat) (N : Dir) : ∀ p ∈ Dir.ins x N, p = x ∨ p ∈ N := fun p hp => (Dir.mem_ins x p N).1 hp
theorem few_step {k : Nat} {S : St} (h : Few k S) (hk : k < 256) (f : Nat) : ((S.create [UInt8.ofNat k] f).1 = if k < 64 then 0 else 4) ∧ Few (k + 1) (S.create [UInt8.ofNat k] f).2 := by
  have hl : Dir.look S.cur [UInt8.ofNat k] = none := by
    cases hq : Dir.look S.cur [UInt8.ofNat k] with
    | none => rfl
    | some g =>
      obtain ⟨j, hj, e⟩ := h.names _ (Dir.mem_of_look hq)
      simp only [List.cons.injEq, and_true] at e
      exact absurd e (byte_ne hk (by omega) (by omega))
  have hdel : Dir.del S.cur [UInt8.ofNat k] = S.cur := by
    unfold Dir.del
    rw [List.filter_eq_self]
    intro p hp
    obtain ⟨j, hj, e⟩ := h.names p hp
    rw [e]
    have := byte_ne hk (by omega : j < 256) (by omega)
    simp
    exact fun e => this e.symm
  unfold St.create
  rw [if_neg (by rw [h.down]; simp), if_neg (by rw [hl]; simp)]
  by_cases h64 : k < 64
  · rw [if_neg (by rw [h.len]; omega), if_pos h64]
    have hc : (S.setFl f ⟨[], 0⟩).count = (0, { (S.setFl f ⟨[], 0⟩) with calls := S.calls + 1 }) := by unfold St.count; rw [if_pos (by exact h.armed)]; rfl
    unfold St.step
    rw [hc, if_pos rfl]
    refine ⟨rfl, h.down, h.armed, ?_, ?_, ?_⟩
    · show (Dir.ins ([UInt8.ofNat k], f) (Dir.del (Dir.del S.cur [UInt8.ofNat k]) [UInt8.ofNat k])).length = _
      rw [hdel, hdel, Dir.ins_len, h.len]
      omega
    · intro p hp
      have hp' : p ∈ Dir.ins ([UInt8.ofNat k], f) (Dir.del (Dir.del S.cur [UInt8.ofNat k]) [UInt8.ofNat k]) := hp
      rw [hdel, hdel] at hp'
      rcases ins_keep _ _ p hp' with rfl | h1
      · exact ⟨k, by omega, rfl⟩
      · obtain ⟨j, hj, e⟩ := h.names p h1
        exact ⟨j, by omega, e⟩
    · show S.calls + 1 ≤ k + 1
      have := h.calls
      omega
  · rw [if_pos (by rw [h.len]; omega), if_neg h64]
    refine ⟨rfl, h.down, h.armed, by show S.cur.length = _; rw [h.len]; omega, fun p hp => ?_, Nat.le_succ_of_le h.calls⟩
    obtain ⟨j, hj, e⟩ := h.names p hp
    exact ⟨j, by omega, e⟩
theorem calm_create (S : St) (s : List UInt8) (f : Nat) (hd : S.down = false) (ha : S.armed = false) : (S.create s f).1 ≠ 7 := by
  unfold St.create
  rw [if_neg (by rw [hd]; simp)]
  split
  · show (5 : Nat) ≠ 7
    decide
  · split
    · show (4 : Nat) ≠ 7
      decide
    · have hc : (S.setFl f ⟨[], 0⟩).count.1 = 0 := by unfold St.count; rw [if_pos (by exact ha)]
      unfold St.step
      rw [if_pos hc]
      show (0 : Nat) ≠ 7
      decide

set_option maxRecDepth 100000 in
set_option maxHeartbeats 2000000 in
theorem many_walk (n : Nat) (w : World) (hn : n < 256) : Calls Try.prog 4 #[.int .u8 (n : Int)] w fun e w' => e = .returned (.bool true) ∧ Kept noBlock w w' := by
  have hwn : IntKind.i64.wrap (n : Int) = (n : Int) := wrap_small (by omega) (by omega)
  go_enter Try.func4, Try.ntmps4
  go_wp2_with fail
  refine (awake_any w).mono ?_
  rintro e w1 ⟨rfl, k1⟩
  have K1 := Lib.hid k1; clear k1
  go_wp2_with fail
  refine (has_of 9 w1 (by omega)).mono ?_
  rintro e w2 ⟨d, rfl, h2⟩
  have H2 := Lib.hid h2; clear h2
  go_wp2
  go_loopw [4] (fun v wr => ∃ (k : Nat) (S : St), k ≤ n ∧ v = .int .i64 (k : Int) ∧ Hid (Few k S) ∧ Hid (Has w1 wr d S)) (fun v _ => n - (intOf v).toNat)
  case atStart => exact ⟨0, _, by omega, rfl, Lib.hid ⟨rfl, rfl, rfl, (fun p hp => by cases hp), Nat.le_refl _⟩, H2⟩
  case round =>
    obtain ⟨k, S, hk, rfl, HF, HH⟩ := hrel
    by_cases hlt : k < n
    · obtain ⟨y, hy⟩ : ∃ y, y = UInt8.ofNat k := ⟨_, rfl⟩
      have hyn : (k : Int) = (y.toNat : Int) := by rw [hy]; simp; omega
      have hyb : IntKind.u8.wrap (k : Int) = (y.toNat : Int) := by rw [hyn]; have := y.toNat_lt; simp [IntKind.wrap, IntKind.signed, IntKind.bits]; omega
      have hcv : ∀ c, (convert 32 9 (.slice (some ⟨wr.heap.size, 0, none⟩) 1 c)).run Try.prog (wr.alloc (.cells #[.int .u8 (y.toNat : Int)] 5)) = .ok (.string (str [y])) (wr.alloc (.cells #[.int .u8 (y.toNat : Int)] 5)) :=
        fun c => run_str (n := 1) (Lies.new wr (fun _ => True) ([y].map bv) 5 (0, 0) trivial) rfl c
      have HY := Lib.hid hy
      clear hy hyn
      go_wp2_with fail
      have ka := Kept.alloc noBlock wr (.cells #[.int .u8 (y.toNat : Int)] 5)
      clear hcv
      generalize wr.alloc (.cells #[.int .u8 (y.toNat : Int)] 5) = wa at ka ⊢
      refine ((HH.out.then_ ka).create [y] (small_name _ (by simp)) (by have := HF.out.calls; omega)).mono ?_
      rintro e w3 ⟨f, rfl, h3, _⟩
      have fs := few_step HF.out (by omega) f
      rw [← HY.out] at fs
      rw [fs.1]
      have HF3 := Lib.hid fs.2
      have H3 := Lib.hid h3
      clear fs h3 ka
      by_cases h64 : k < 64
      · rw [if_pos h64]
        go_wp2
        go_roundw
        case rel => exact ⟨k + 1, _, by omega, by go_num, HF3, H3⟩
        case measure => simp [intOf]; omega
      · rw [if_neg h64]
        go_wp2
        go_roundw
        case rel => exact ⟨k + 1, _, by omega, by go_num, HF3, H3⟩
        case measure => simp [intOf]; omega
    · obtain rfl : k = n := by omega
      obtain ⟨p, hp⟩ : ∃ p, p = min k 64 := ⟨_, rfl⟩
      have q1 : (if (64 : Int) < (k : Int) then (64 : Int) else (k : Int)) = (p : Int) := by rw [hp]; split <;> omega
      have q2 : (if 64 < k then (64 : Int) else (k : Int)) = (p : Int) := by rw [hp]; split <;> omega
      have HP := Lib.hid hp; clear hp
      go_wp2_with fail
      refine (HH.out.names).mono ?_
      rintro e w3 ⟨A, c, m, rfl, hm, k3⟩
      have hmp : m = p := by rw [hm, HF.out.len, HP.out]
      subst hmp
      have H3 := Lib.hid (HH.out.then_ k3)
      clear hm k3
      go_wp2_with fail
      refine (H3.out.create [120] (small_name _ (by simp)) (by have := HF.out.calls; omega)).mono ?_
      rintro e w4 ⟨f, rfl, h4, _⟩
      have hcc := calm_create S [120] f HF.out.down HF.out.armed
      obtain ⟨er, her⟩ : ∃ er, er = (S.create [120] f).1 := ⟨_, rfl⟩
      rw [← her] at hcc ⊢
      have hne : ((er : Int) != 7) = true := by simp; omega
      have K4 := Lib.hid (K1.out.step h4.kept)
      clear her h4
      go_wp2
      go_ret
      exact ⟨by simp, K4.out⟩
end Go.Proofs.Ytaelkmcohdfboaa
