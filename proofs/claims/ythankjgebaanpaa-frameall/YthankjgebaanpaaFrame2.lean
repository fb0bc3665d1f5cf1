/-
  The contracts of package frame, second part: Make, One. No statement is proved here.
-/
import Derived.Test.YthankjgebaanpaaFrame
import Derived.Deep.DeepCutAuto
namespace Go.Proofs.Ythankjgebaanpaa
open Go.RowKit

theorem Lies.behind {w : World} {F : Nat → Prop} {b o : Nat} {xs : List Value} (h : Lies w F (some ⟨b, o, none⟩) xs) (k : Nat) : Lies w F (some ⟨b, o + k, none⟩) (xs.drop k) := fun hx => by
  obtain ⟨ad, e, hf, hc⟩ := h (by rintro rfl; simp at hx)
  injection e with e
  subst e
  refine ⟨_, rfl, hf, fun j u hu => ?_⟩
  rw [List.getElem?_drop] at hu
  have := hc _ u hu
  rw [add_plain] at this ⊢
  rw [Nat.add_assoc]
  exact this

set_option maxRecDepth 100000 in
set_option maxHeartbeats 1000000 in
theorem make_full (a : Option Addr) (n c : Nat) (w : World) (hn : 16384 < n) : Calls Try.prog 12 #[.slice a n c] w fun e w' => e = .returned (.tuple #[.slice none 0 0, .int .i64 4]) ∧ w = w' := by
  go_enter Try.func12, Try.ntmps12
  go_wp2
  go_ret2
  exact ⟨rfl, rfl⟩

set_option maxRecDepth 100000 in
set_option maxHeartbeats 1000000 in
theorem make_any (F : Nat → Prop) (a : Option Addr) (n c : Nat) (l : List UInt8) (w : World) (h : Lies w F a (l.map bv)) (hl : l.length = n) (hn : n ≤ 16384) :
    Calls Try.prog 12 #[.slice a n c] w fun e w' => ∃ A c', e = .returned (.tuple #[.slice A (n + 9) c', .int .i64 0]) ∧ w'.ownsRow w.heap.size 5 1 (.slice A (n + 9) c') (n + 9) ((frm l).map bv) ∧ Kept noBlock w w' := by
  have HL := Lib.hid hl; clear hl
  have hcap : (8 + (n : Int) + 1) = ((n + 9 : Nat) : Int) := by omega
  go_enter Try.func12, Try.ntmps12
  go_wp2_with (refine wpList_make rfl 22 5 _ _ rfl (.int .u8 0) Try.underlying22 Try.infoU8 rfl .i64 .i64 0 (n + 9) rfl ?hcap (by omega) (by omega) ?_)
  case hcap => exact congrArg (Value.int IntKind.i64) (by omega)
  clear hcap
  intro w1 hown1 k1 hlt1
  have R1 := Lib.hid (own_base (base' := 0) hown1 (fun _ _ => Nat.zero_le _)); clear hown1
  obtain ⟨B, hB⟩ : ∃ B, B = w.heap.size := ⟨_, rfl⟩
  rw [← hB] at R1 ⊢
  have HB := Lib.hid hB; clear hB hlt1
  go_wp2_with fail
  refine (aword_any _ 0 (n + 9) [] n w1 R1.out (by omega) (by omega)).mono ?_
  rintro e w2 ⟨A2, c2, rfl, o2, g2⟩
  have R2 := Lib.hid o2; clear o2
  have G2 := Lib.hid g2; clear g2
  clear R1
  have kk2 := G2.out.new k1 (fun i hi => by simp [Value.ownBlock] at hi; have := HB.out; omega)
  have K2 := Lib.hid kk2; clear kk2
  go_wp2_with fail
  refine (sum_any F a n c l w2 (h.keep K2.out.1 (fun _ _ h => h)) HL.out (by omega)).mono ?_
  rintro e w3 ⟨rfl, k3⟩
  obtain ⟨s, hs⟩ : ∃ s, s = crc 3988292384 l := ⟨_, rfl⟩
  rw [← hs]
  have HS := Lib.hid hs; clear hs
  have R3 := Lib.hid (own_keep R2.out k3 (fun _ _ h => h)); clear R2
  go_wp2_with fail
  refine (aword_any A2 4 c2 (be4 n) s w3 (by simpa using R3.out) (by rw [HS.out]; exact crc0_lt l) (by omega)).mono ?_
  rintro e w4 ⟨A4, c4, rfl, o4, g4⟩
  have R4 := Lib.hid o4; clear o4
  have K4 := Lib.hid (g4.new (K2.out.1.step k3) K2.out.2); clear g4 R3 K2 G2
  have hsrc : Src Try.prog 1 22 (.slice a n c) n (l.map bv) w4 := src_lies Try.underlying22 (h.keep K4.out.1 (fun _ _ h => h)) (by simpa using HL.out) (bv_one l)
  go_wp2_with (at_builtin; refine wpList_append_src rfl _ _ 22 22 rfl 5 (.int .u8 0) 1 1 Try.underlying22 Try.infoU8 rfl (.slice A4 8 c4) 8 _ rfl R4.out _ n (l.map bv) rfl hsrc ?c3 ?c4 ?_)
  case c3 => unfold maxLen; omega
  case c4 => omega
  intro A5 c5 w5 hown5 k5 hat5
  have K5 := Lib.hid (Grew.new ⟨k5, hat5⟩ K4.out.1 K4.out.2)
  have R5 := Lib.hid hown5
  clear hown5 k5 hat5 K4 R4 hsrc
  go_wp2_with (at_builtin; refine wpList_append_src rfl _ _ 22 22 rfl 5 (.int .u8 0) 1 1 Try.underlying22 Try.infoU8 rfl (.slice A5 (8 + n) c5) (8 + n) _ rfl (R5.out.alloc _) _ 1 [bv 229] rfl (src_new Try.underlying22 _ rfl (heap_alloc_new _ _)) ?c3 ?c4 ?_)
  case c3 => unfold maxLen; omega
  case c4 => omega
  intro A6 c6 w6 hown6 k6 hat6
  have K6 := Lib.hid (Grew.new (Grew.after (Kept.alloc noBlock w5 _) ⟨k6, hat6⟩) K5.out.1 K5.out.2)
  have e9 : 8 + n + 1 = n + 9 := by omega
  rw [e9] at hown6 K6 ⊢
  have R6 := Lib.hid hown6
  clear hown6 k6 hat6 K5 R5
  go_wp2
  go_ret2
  refine ⟨A6, c6, rfl, own_base (base := 0) ?_ K6.out.2, K6.out.1⟩
  have := R6.out
  unfold frm
  rw [HL.out, ← HS.out]
  simpa using this

set_option maxRecDepth 100000 in
set_option maxHeartbeats 1000000 in
theorem first_any (g : Nat) (F : Nat → Prop) (a : Option Addr) (n c : Nat) (l : List UInt8) (w : World) (ht : ∀ j, j < 256 → w.cell? ⟨g, j, none⟩ = some (uv (stpN 3988292384 8 j))) (h : Lies w F a (l.map bv)) (hl : l.length = n) (hn : n ≤ 200000000000000) (hc : n ≤ c) :
    Calls Try.prog 23 #[.pointer (some ⟨g, 0, none⟩), .slice a n c] w fun e w' => ∃ A c', e = .returned (.tuple #[.slice A (rd l).1.length c', .int .i64 ((rd l).2.1 : Nat), .int .i64 ((rd l).2.2 : Nat)]) ∧
      w'.ownsRow w.heap.size 5 1 (.slice A (rd l).1.length c') (rd l).1.length ((rd l).1.map bv) ∧ Kept noBlock w w' := by
  have HT := Lib.hid ht; clear ht
  have HL := Lib.hid hl; clear hl
  go_enter Try.func23, Try.ntmps23
  by_cases h8 : n < 8
  · go_wp2
    go_ret3
    have e := rd_short (b := l) (by rw [HL.out]; exact h8)
    rw [e]
    exact ⟨none, 0, rfl, World.ownsRow_nil _ _ _ _, Kept.refl _ _⟩
  · obtain ⟨b, o, rfl, hF, hcell⟩ := h.norm (by intro e; have := congrArg List.length e; rw [List.length_map, HL.out] at this; simp at this; omega)
    clear hcell
    have i4 : (4 : Int) ≤ n := by omega
    have c4 : ¬ c = 4 := by omega
    have h4 : Lies w.drew F (some ⟨b, o + 4, none⟩) ((l.drop 4).map bv) := by rw [List.map_drop]; exact (h.keep (Kept.drew noBlock w) (fun _ _ h => h)).behind 4
    have h0 := h.keep (Kept.drew noBlock w) (fun _ _ h => h)
    go_wp2_with fail
    refine wp_region_noPanic ?_
    refine wp_region_held_drew (S := fun _ => True) (by kernel_rfl) trivial (fun hHeld => ?_)
    refine wpAnyH_take (i := 0) (oi := ⟨some 14, Op.move (Operand.tmp 1), 22, _, _, none⟩) (v := ?v0n1k1) rfl (by kernel_rfl) (by kernel_rfl) (by kernel_rfl) (fun _ _ _ h => h) (Or.inl ⟨by rfl, ?y0n1k1⟩) hHeld ?z0n1k1
    case y0n1k1 => intro w hSw; (try dsimp only at hSw); go_simp <;> rfl
    try simp only [Act.put, List.setIfInBounds_toArray, List.set_cons_zero, List.set_cons_succ]
    refine wpAnyH_take (i := 2) (oi := ⟨some 16, Op.move (Operand.tmp 1), 22, _, _, none⟩) (v := ?v2n1k2) rfl (by kernel_rfl) (by kernel_rfl) (by kernel_rfl) (fun _ _ _ h => h) (Or.inl ⟨by rfl, ?y2n1k2⟩) hHeld ?z2n1k2
    case y2n1k2 => intro w hSw; (try dsimp only at hSw); go_simp <;> rfl
    try simp only [Act.put, List.setIfInBounds_toArray, List.set_cons_zero, List.set_cons_succ]
    refine wpAnyH_take (i := 3) (oi := ⟨some 17, Op.slice 22 (Operand.tmp 16) (some (Operand.const (Value.int IntKind.i64 4))) none none, 22, _, _, none⟩) (v := ?v3n1k3) rfl (by kernel_rfl) (by kernel_rfl) (by kernel_rfl) (fun _ _ _ h => h) (Or.inl ⟨by rfl, ?y3n1k3⟩) hHeld ?z3n1k3
    case y3n1k3 => intro w hSw; (try dsimp only at hSw); go_simp <;> rfl
    try simp only [Act.put, List.setIfInBounds_toArray, List.set_cons_zero, List.set_cons_succ]
    refine wpAnyH_ready (rs := [1]) (by kernel_rfl) (by simp) ?_
    refine AllReadyH.cons (o := ⟨some 15, Op.call { callee := Callee.value (Operand.func 28), args := #[Operand.tmp 14], argTypes := #[22] }, 45, _, _, none⟩) rfl (fun K hK => ?_) AllReadyH.nil
    go_simp
    refine (word_any F _ n c l _ h0 HL.out (by omega) hc).mono ?_
    rintro e w1 ⟨rfl, rfl⟩
    dsimp only
    refine hK.out _ _ trivial (fun hHeld => ?_)
    clear hK K
    try simp only [Act.put, List.setIfInBounds_toArray, List.set_cons_zero, List.set_cons_succ]
    refine wpAnyH_ready (rs := [4]) (by kernel_rfl) (by simp) ?_
    refine AllReadyH.cons (o := ⟨some 18, Op.call { callee := Callee.value (Operand.func 28), args := #[Operand.tmp 17], argTypes := #[22] }, 45, _, _, none⟩) rfl (fun K hK => ?_) AllReadyH.nil
    go_simp
    refine (word_any F _ (n - 4) (c - 4) (l.drop 4) _ h4 (by rw [List.length_drop, HL.out]) (by omega) (by omega)).mono ?_
    rintro e w1 ⟨rfl, rfl⟩
    dsimp only
    refine hK.out _ _ trivial (fun hHeld => ?_)
    clear hK K
    try simp only [Act.put, List.setIfInBounds_toArray, List.set_cons_zero, List.set_cons_succ]
    refine wpAnyH_take (i := 5) (oi := ⟨some 7, Op.assign (Operand.tmp 15), 45, _, _, none⟩) (v := ?v5n1k4) rfl (by kernel_rfl) (by kernel_rfl) (by kernel_rfl) (fun _ _ _ h => h) (Or.inl ⟨by rfl, ?y5n1k4⟩) hHeld ?z5n1k4
    case y5n1k4 => intro w hSw; (try dsimp only at hSw); go_simp <;> rfl
    try simp only [Act.put, List.setIfInBounds_toArray, List.set_cons_zero, List.set_cons_succ]
    refine wpAnyH_take (i := 6) (oi := ⟨some 8, Op.assign (Operand.tmp 18), 45, _, _, none⟩) (v := ?v6n1k5) rfl (by kernel_rfl) (by kernel_rfl) (by kernel_rfl) (fun _ _ _ h => h) (Or.inl ⟨by rfl, ?y6n1k5⟩) hHeld ?z6n1k5
    case y6n1k5 => intro w hSw; (try dsimp only at hSw); go_simp <;> rfl
    try simp only [Act.put, List.setIfInBounds_toArray, List.set_cons_zero, List.set_cons_succ]
    refine wpAnyH_done (by kernel_rfl) ?_ _
    refine NoPanic.normal ?_
    obtain ⟨z, hz⟩ : ∃ z, z = wrd (l.take 4) := ⟨_, rfl⟩
    obtain ⟨s, hs⟩ : ∃ s, s = wrd ((l.drop 4).take 4) := ⟨_, rfl⟩
    rw [← hz, ← hs]
    have hz32 : z < 4294967296 := by rw [hz]; exact wrd_lt (by rw [List.length_take, HL.out]; omega)
    have kd := Kept.drew noBlock w
    have HT2 : Hid (∀ j, j < 256 → w.drew.cell? ⟨g, j, none⟩ = some (uv (stpN 3988292384 8 j))) := Lib.hid (fun j hj => kd.cell (HT.out j hj) (fun h => h))
    clear h4 h hHeld HT
    generalize w.drew = w2 at h0 kd HT2 ⊢
    have HZ := Lib.hid hz; clear hz
    have HS := Lib.hid hs; clear hs
    have n8 : ¬ l.length < 8 := by rw [HL.out]; exact h8
    by_cases hg : 16384 < z
    · go_wp2
      go_ret3
      rw [rd_great n8 (by rw [← HZ.out]; exact hg)]
      exact ⟨none, 0, rfl, World.ownsRow_nil _ _ _ _, kd⟩
    · have ng : ¬ 16384 < wrd (l.take 4) := by rw [← HZ.out]; exact hg
      obtain ⟨m, hm⟩ : ∃ m, m = z + 8 := ⟨_, rfl⟩
      have em : 8 + (z : Int) = (m : Int) := by omega
      have hm2 : m - 8 ≤ 16384 := by omega
      have hm8 : 8 ≤ m := by omega
      by_cases ht : n ≤ m
      · have HM := Lib.hid hm; clear hm
        go_wp2
        go_ret3
        rw [rd_torn n8 ng (by rw [← HZ.out, HL.out, ← HM.out]; exact ht)]
        exact ⟨none, 0, rfl, World.ownsRow_nil _ _ _ _, kd⟩
      · have nt : ¬ l.length ≤ wrd (l.take 4) + 8 := by rw [← HZ.out, HL.out, ← hm]; exact ht
        obtain ⟨x, hx⟩ : ∃ x, l[m]? = some x := ⟨_, List.getElem?_eq_getElem (by rw [HL.out]; omega)⟩
        have hcx : w2.cell? ⟨b, o + m, none⟩ = some (.int .u8 (x.toNat : Int)) := by
          obtain ⟨ad, e, _, hc⟩ := h0.at_ (k := m) (u := bv x) (by simp [hx])
          injection e with e
          subst e
          rw [add_plain] at hc
          exact hc
        have HM := Lib.hid hm; clear hm
        by_cases h229 : x = 229
        · have hend : l[wrd (l.take 4) + 8]? = some 229 := by rw [← HZ.out, ← HM.out, hx, h229]
          subst h229
          have hrow : Lies w2 F (some ⟨b, o + 8, none⟩) (((l.drop 8).take z).map bv) := by
            rw [List.map_take, List.map_drop]
            exact (h0.behind 8).take z
          have hrl : ((l.drop 8).take z).length = m - 8 := by rw [List.length_take, List.length_drop, HL.out]; have := HM.out; omega
          obtain ⟨row, hr⟩ : ∃ row, row = (l.drop 8).take z := ⟨_, rfl⟩
          rw [← hr] at hrow hrl
          have c8 : ¬ c = 8 := by omega
          have HX := Lib.hid hx; clear hx
          have HR := Lib.hid hr; clear hr
          go_wp2_with fail
          refine (tsum_any g 3988292384 F _ (m - 8) (c - 8) row w2 HT2.out (by decide) hrow hrl (by omega)).mono ?_
          rintro e w3 ⟨rfl, rfl⟩
          obtain ⟨q, hq⟩ : ∃ q, q = crc 3988292384 row := ⟨_, rfl⟩
          rw [← hq]
          by_cases hqs : q = s
          · subst hqs
            have e4 := rd_there n8 ng nt hend (by rw [← HZ.out, ← HS.out, ← HR.out]; exact hq.symm)
            rw [← HZ.out, ← HR.out] at e4
            clear hq
            go_wp2_with fail
            refine (clone_any F _ (m - 8) (c - 8) row w2 hrow hrl (by omega)).mono ?_
            rintro e w4 ⟨A', c', rfl, o4, k4⟩
            have R4 := Lib.hid o4; clear o4
            have E4 := Lib.hid e4; clear e4
            go_wp2
            go_ret3
            rw [E4.out, hrl]
            refine ⟨A', c', ?_, own_base R4.out (fun i hi => Nat.le_trans kd.size (R4.out.lt i hi).1), kd.step k4⟩
            have e9 : (m : Int) + 1 = ((z + 9 : Nat) : Int) := by have := HM.out; omega
            simp [e9]
          · have hqs2 : ((q : Int) == (s : Int)) = false := beq_false_of_ne (fun h => hqs (by omega))
            have e4 := rd_sum n8 ng nt hend (by rw [← HZ.out, ← HS.out, ← HR.out, ← hq]; exact hqs)
            have E4 := Lib.hid e4; clear e4 hq
            go_wp2
            go_ret3
            rw [E4.out]
            exact ⟨none, 0, rfl, World.ownsRow_nil _ _ _ _, kd⟩
        · have hx2 : ((x.toNat : Int) == 229) = false := beq_false_of_ne (fun h => h229 (UInt8.toNat_inj.1 (by show x.toNat = 229; omega)))
          have e4 := rd_end n8 ng nt (by rw [← HZ.out, ← HM.out, hx]; simpa using h229)
          have E4 := Lib.hid e4; clear e4 hx
          go_wp2
          go_ret3
          rw [E4.out]
          exact ⟨none, 0, rfl, World.ownsRow_nil _ _ _ _, kd⟩

set_option maxHeartbeats 1000000 in
theorem fone_any (F : Nat → Prop) (a : Option Addr) (n c : Nat) (l : List UInt8) (w : World) (h : Lies w F a (l.map bv)) (hl : l.length = n) (hn : n ≤ 200000000000000) (hc : n ≤ c) :
    Calls Try.prog 14 #[.slice a n c] w fun e w' => ∃ A c', e = .returned (.tuple #[.slice A (rd l).1.length c', .int .i64 ((rd l).2.1 : Nat), .int .i64 ((rd l).2.2 : Nat)]) ∧
      w'.ownsRow w.heap.size 5 1 (.slice A (rd l).1.length c') (rd l).1.length ((rd l).1.map bv) ∧ Kept noBlock w w' := by
  go_enter Try.func14, Try.ntmps14
  go_wp2_with fail
  refine (of_any 3988292384 w (by decide)).mono ?_
  rintro e w1 ⟨rfl, k1⟩
  go_wp2_with (first | refine wpList_alloc_row rfl 52 rfl (tabk 0 0) Try.zeroTable ?_ | refine wpList_store_new rfl 52 _ _ rfl (tab 3988292384) (tabk 0 0) rfl rfl (tab_fits _) (tab_old _) (tab_one _) ?_)
  have k2 := k1.step (Kept.alloc noBlock w1 (.cells (tab 3988292384) 52))
  refine (first_any _ F a n c l _ (tab_there w1 3988292384) (h.keep k2 (fun _ _ h => h)) hl hn hc).mono ?_
  rintro e w3 ⟨A', c', rfl, o3, k3⟩
  have R3 := Lib.hid o3; clear o3
  obtain ⟨u, hu⟩ : ∃ u, u = rd l := ⟨_, rfl⟩
  rw [← hu] at R3 ⊢
  have HU := Lib.hid hu; clear hu
  go_wp2
  go_ret3
  rw [← HU.out]
  exact ⟨A', c', rfl, own_base R3.out (fun i hi => Nat.le_trans k2.size (R3.out.lt i hi).1), k2.step k3⟩

end Go.Proofs.Ythankjgebaanpaa
