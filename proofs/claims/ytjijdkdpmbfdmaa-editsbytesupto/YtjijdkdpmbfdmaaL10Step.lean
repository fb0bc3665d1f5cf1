/-
  Steps of a list of files, by numbers. No statement is proved here.
-/
import Derived.Test.YtjijdkdpmbfdmaaE10Read
namespace Go.Proofs.Ytjijdkdpmbfdmaa
open Go.RowKit Tot

/-- A step that came in. -/
structure StepV where
  A : Option Addr
  ca : Nat
  add : List UInt8
  D : Option Addr
  cd : Nat
  drop : List UInt8
  floor : UInt8
  odd : Bool
  any : RefV
def StepV.cells (x : StepV) : List Value := [.slice x.A x.add.length x.ca, .slice x.D x.drop.length x.cd, .int .u8 (x.floor.toNat : Int), .bool x.odd, .string x.any.name, .int .i64 x.any.kind, .int .i64 x.any.from_, .int .i64 x.any.to_]
def StepV.val (x : StepV) : Value := .agg #[.slice x.A x.add.length x.ca, .slice x.D x.drop.length x.cd, .int .u8 (x.floor.toNat : Int), .bool x.odd, .string x.any.name, .int .i64 x.any.kind, .int .i64 x.any.from_, .int .i64 x.any.to_]
structure StepV.lies (F : Nat → Prop) (w : World) (x : StepV) : Prop where
  la : Lies w F x.A (x.add.map bv)
  ld : Lies w F x.D (x.drop.map bv)
  ca : x.add.length ≤ x.ca
  cd : x.drop.length ≤ x.cd
  na : x.add.length ≤ 9223372036854775807
  nd : x.drop.length ≤ 9223372036854775807
  ka : x.ca ≤ 9223372036854775807
  kd : x.cd ≤ 9223372036854775807
theorem StepV.lies.keep {F S : Nat → Prop} {w w' : World} {x : StepV} (h : x.lies F w) (k : Kept S w w') (hd : ∀ i, F i → ¬ S i) : x.lies F w' := ⟨h.la.keep k hd, h.ld.keep k hd, h.ca, h.cd, h.na, h.nd, h.ka, h.kd⟩
theorem StepV.lies.lt {F : Nat → Prop} {w : World} {x : StepV} (h : x.lies F w) : x.lies (fun i => i < w.heap.size) w := ⟨h.la.lt, h.ld.lt, h.ca, h.cd, h.na, h.nd, h.ka, h.kd⟩
/-- One of a few names, and one of a few files. -/
def nmE (k : Nat) : ByteArray := str [110, UInt8.ofNat (97 + k)]
def refOf (n : UInt8) : RefV := ⟨nmE (n.toNat % 8), ((n.toNat / 8 % 3 : Nat) : Int), ((n.toNat / 32 : Nat) : Int), ((if n.toNat / 8 % 3 = 0 then n.toNat / 32 else n.toNat / 32 + n.toNat % 5 : Nat) : Int)⟩
/-- A step's edit. -/
def editOf (x : StepV) : EditV := ⟨(x.add.take 4).map refOf ++ (if x.odd = true then [x.any] else []), (x.drop.take 4).map (fun n => nmE (n.toNat % 8)), ((x.floor.toNat % 16 : Nat) : Int)⟩
theorem nmE_size (k : Nat) : (nmE k).size = 2 := rfl
theorem refOf_may (n : UInt8) : (refOf n).May := by
  have hn := n.toNat_lt
  unfold refOf RefV.May
  refine ⟨by show 1 ≤ 2; omega, by show 2 ≤ 16; omega, by simp only; omega, by simp only; omega, by simp only; omega, ?_, ?_, ?_⟩
  · simp only
    split <;> omega
  · simp only
    split <;> omega
  · simp only
    intro h
    rw [if_pos (by omega)]

set_option maxRecDepth 100000 in
set_option maxHeartbeats 2000000 in
theorem lname_any (n : UInt8) (w : World) : Calls Try.prog 19 #[.int .u8 (n.toNat : Int)] w fun e w' => e = .returned (.string (nmE (n.toNat % 8))) ∧ w = w' := by
  have hn := n.toNat_lt
  have h8 : n.toNat % 8 = 0 ∨ n.toNat % 8 = 1 ∨ n.toNat % 8 = 2 ∨ n.toNat % 8 = 3 ∨ n.toNat % 8 = 4 ∨ n.toNat % 8 = 5 ∨ n.toNat % 8 = 6 ∨ n.toNat % 8 = 7 := by omega
  rcases h8 with h8 | h8 | h8 | h8 | h8 | h8 | h8 | h8
  · have hi : (n.toNat : Int) % 8 = 0 := by omega
    rw [h8]
    go_enter Try.func19, Try.ntmps19
    go_wp2
    go_ret
    exact ⟨rfl, rfl⟩
  · have hi : (n.toNat : Int) % 8 = 1 := by omega
    rw [h8]
    go_enter Try.func19, Try.ntmps19
    go_wp2
    go_ret
    exact ⟨rfl, rfl⟩
  · have hi : (n.toNat : Int) % 8 = 2 := by omega
    rw [h8]
    go_enter Try.func19, Try.ntmps19
    go_wp2
    go_ret
    exact ⟨rfl, rfl⟩
  · have hi : (n.toNat : Int) % 8 = 3 := by omega
    rw [h8]
    go_enter Try.func19, Try.ntmps19
    go_wp2
    go_ret
    exact ⟨rfl, rfl⟩
  · have hi : (n.toNat : Int) % 8 = 4 := by omega
    rw [h8]
    go_enter Try.func19, Try.ntmps19
    go_wp2
    go_ret
    exact ⟨rfl, rfl⟩
  · have hi : (n.toNat : Int) % 8 = 5 := by omega
    rw [h8]
    go_enter Try.func19, Try.ntmps19
    go_wp2
    go_ret
    exact ⟨rfl, rfl⟩
  · have hi : (n.toNat : Int) % 8 = 6 := by omega
    rw [h8]
    go_enter Try.func19, Try.ntmps19
    go_wp2
    go_ret
    exact ⟨rfl, rfl⟩
  · have hi : (n.toNat : Int) % 8 = 7 := by omega
    rw [h8]
    go_enter Try.func19, Try.ntmps19
    go_wp2
    go_ret
    exact ⟨rfl, rfl⟩

set_option maxRecDepth 100000 in
set_option maxHeartbeats 1000000 in
theorem lmay_any (r : RefV) (w : World) : Calls Try.prog 22 #[r.val] w (SaysE w (decide r.May)) := by
  obtain ⟨name, kind, fr, tt⟩ := r
  have ans : ∀ (w w' : World) (o : Obj) (b : Bool), b = decide (RefV.May ⟨name, kind, fr, tt⟩) → w' = w.alloc o → SaysE w (decide (RefV.May ⟨name, kind, fr, tt⟩)) (.returned (.bool b)) w' := fun _ _ _ _ h hw => ⟨by rw [h], by rw [hw]; exact Kept.alloc _ _ _⟩
  have ANS := Lib.hid ans; clear ans
  unfold RefV.val
  simp only
  by_cases h0 : 0 < name.size
  · skip
    by_cases h1 : name.size < 17
    · skip
      by_cases h2 : 0 ≤ kind
      · skip
        by_cases h3 : kind < 3
        · skip
          by_cases h4 : 0 ≤ fr
          · skip
            by_cases h5 : fr ≤ tt
            · skip
              by_cases h6 : tt ≤ 1048576
              · skip
                by_cases h7 : 0 < kind
                · skip
                  go_enter Try.func22, Try.ntmps22
                  go_wp2
                  go_ret
                  refine ANS.out _ _ _ _ (decide_eq_true ?_).symm rfl
                  exact ⟨by simp only; omega, by simp only; omega, by simp only; omega, by simp only; omega, by simp only; omega, by simp only; omega, by simp only; omega, fun h => by simp only at h; omega⟩
                · skip
                  by_cases h8 : fr = tt
                  · subst h8
                    go_enter Try.func22, Try.ntmps22
                    go_wp2
                    go_ret
                    refine ANS.out _ _ _ _ ?_ rfl
                    symm; try simp only [beq_self_eq_true]
                    exact decide_eq_true ⟨by simp only; omega, by simp only; omega, by simp only; omega, by simp only; omega, by simp only; omega, by simp only; omega, by simp only; omega, fun _ => rfl⟩
                  · have h9 : (fr == tt) = false := by simpa using h8
                    go_enter Try.func22, Try.ntmps22
                    go_wp2
                    go_ret
                    refine ANS.out _ _ _ _ ?_ rfl
                    try rw [h9]
                    symm; refine decide_eq_false fun hm => h8 (hm.2.2.2.2.2.2.2 (by simp only; omega))
              · skip
                go_enter Try.func22, Try.ntmps22
                go_wp2
                go_ret
                refine ANS.out _ _ _ _ (decide_eq_false fun hm => ?_).symm rfl
                unfold RefV.May at hm
                simp only at hm
                omega
            · skip
              go_enter Try.func22, Try.ntmps22
              go_wp2
              go_ret
              refine ANS.out _ _ _ _ (decide_eq_false fun hm => ?_).symm rfl
              unfold RefV.May at hm
              simp only at hm
              omega
          · skip
            go_enter Try.func22, Try.ntmps22
            go_wp2
            go_ret
            refine ANS.out _ _ _ _ (decide_eq_false fun hm => ?_).symm rfl
            unfold RefV.May at hm
            simp only at hm
            omega
        · skip
          go_enter Try.func22, Try.ntmps22
          go_wp2
          go_ret
          refine ANS.out _ _ _ _ (decide_eq_false fun hm => ?_).symm rfl
          unfold RefV.May at hm
          simp only at hm
          omega
      · skip
        go_enter Try.func22, Try.ntmps22
        go_wp2
        go_ret
        refine ANS.out _ _ _ _ (decide_eq_false fun hm => ?_).symm rfl
        unfold RefV.May at hm
        simp only at hm
        omega
    · skip
      go_enter Try.func22, Try.ntmps22
      go_wp2
      go_ret
      refine ANS.out _ _ _ _ (decide_eq_false fun hm => ?_).symm rfl
      unfold RefV.May at hm
      simp only at hm
      omega
  · skip
    go_enter Try.func22, Try.ntmps22
    go_wp2
    go_ret
    refine ANS.out _ _ _ _ (decide_eq_false fun hm => ?_).symm rfl
    unfold RefV.May at hm
    simp only at hm
    omega
end Go.Proofs.Ytjijdkdpmbfdmaa
