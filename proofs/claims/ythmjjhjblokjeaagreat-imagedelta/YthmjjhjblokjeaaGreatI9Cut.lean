/-
  The contracts of bytes.HasPrefix and bytes.CutPrefix. No statement is proved here.
-/
import Derived.Test.YthmjjhjblokjeaaGreatPutK
namespace Go.Proofs.YthmjjhjblokjeaaGreat
open Go.RowKit Tot

set_option maxRecDepth 100000 in
set_option maxHeartbeats 1000000 in
theorem prefix_any (F G : Nat → Prop) (a : Option Addr) (n c : Nat) (p : Option Addr) (k d : Nat) (l pre : List UInt8) (w : World) (h1 : Lies w F a (l.map bv)) (hl : l.length = n) (h2 : Lies w G p (pre.map bv)) (hk : pre.length = k) (hc : n ≤ c) :
    Calls Tryz.prog 58 #[.slice a n c, .slice p k d] w fun e w' => e = .returned (.bool (decide (l.take k = pre))) ∧ w = w' := by
  by_cases h : k ≤ n
  · have i1 : (k : Int) ≤ n := by omega
    have i2 : (k : Int) ≤ c := by omega
    have EQ := Lib.hid (fun c => equal_any F G a k c p k d (l.take k) pre w (by rw [List.map_take]; exact h1.take k) (by rw [List.length_take]; omega) h2 hk)
    obtain ⟨r, hr⟩ : ∃ r, r = decide (l.take k = pre) := ⟨_, rfl⟩
    rw [← hr] at EQ ⊢
    clear hr h1 h2 hl hk
    go_enter Tryz.func58, Tryz.ntmps58
    go_wp2_with fail
    refine (EQ.out _).mono ?_
    rintro e w1 ⟨rfl, rfl⟩
    clear EQ
    go_wp2
    go_ret
    exact ⟨rfl, rfl⟩
  · have i1 : ¬ (k : Int) ≤ n := by omega
    have hr : decide (l.take k = pre) = false := decide_eq_false (fun e => by
      have := congrArg List.length e
      rw [List.length_take] at this
      omega)
    rw [hr]
    clear hr h1 h2 hl hk h
    go_enter Tryz.func58, Tryz.ntmps58
    go_wp2
    go_ret
    exact ⟨rfl, rfl⟩

set_option maxRecDepth 100000 in
set_option maxHeartbeats 1000000 in
theorem cut_yes (F G : Nat → Prop) (a : Option Addr) (n c : Nat) (p : Option Addr) (k d : Nat) (l pre : List UInt8) (w : World) (h1 : Lies w F a (l.map bv)) (hl : l.length = n) (h2 : Lies w G p (pre.map bv)) (hk : pre.length = k) (hc : n ≤ c) (hp : l.take k = pre) (hkn : k ≤ n) :
    Calls Tryz.prog 31 #[.slice a n c, .slice p k d] w fun e w' => ∃ A, e = .returned (.tuple #[.slice A (n - k) (c - k), .bool true]) ∧ A = (if c = k then a else a.map (·.add k)) ∧ w = w' := by
  have i1 : (k : Int) ≤ n := by omega
  have HS := Lib.hid (prefix_any F G a n c p k d l pre w h1 hl h2 hk hc)
  rw [decide_eq_true hp] at HS
  obtain ⟨A, hA⟩ : ∃ A, A = (if c = k then a else Option.map (fun x => x.add k) a) := ⟨_, rfl⟩
  have HA := Lib.hid hA
  clear h1 h2 hl hk hp
  go_enter Tryz.func31, Tryz.ntmps31
  go_wp2_with fail
  refine HS.out.mono ?_
  rintro e w1 ⟨rfl, rfl⟩
  clear HS
  go_wp2
  all_goals
    go_ret2
    exact ⟨_, rfl, rfl, rfl⟩

set_option maxRecDepth 100000 in
set_option maxHeartbeats 1000000 in
theorem cut_no (F G : Nat → Prop) (a : Option Addr) (n c : Nat) (p : Option Addr) (k d : Nat) (l pre : List UInt8) (w : World) (h1 : Lies w F a (l.map bv)) (hl : l.length = n) (h2 : Lies w G p (pre.map bv)) (hk : pre.length = k) (hc : n ≤ c) (hp : l.take k ≠ pre) :
    Calls Tryz.prog 31 #[.slice a n c, .slice p k d] w fun e w' => e = .returned (.tuple #[.slice a n c, .bool false]) ∧ w = w' := by
  have HS := Lib.hid (prefix_any F G a n c p k d l pre w h1 hl h2 hk hc)
  rw [decide_eq_false hp] at HS
  clear h1 h2 hl hk hp
  go_enter Tryz.func31, Tryz.ntmps31
  go_wp2_with fail
  refine HS.out.mono ?_
  rintro e w1 ⟨rfl, rfl⟩
  clear HS
  go_wp2
  go_ret2
  exact ⟨rfl, rfl⟩
end Go.Proofs.YthmjjhjblokjeaaGreat
