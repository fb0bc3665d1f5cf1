/-
  CheckTables: what it does with whatever row of bits, at whatever two places. No statement is proved here.
-/
import Derived.Test.YtfegoeepjmjlcaaL2Awake
namespace Go.Proofs.Ytfegoeepjmjlcaa
open Go.RowKit

/-- A place of a whole row. -/
theorem run_index_row {P : Program} (w : World) (t e : TypeId) (n : Nat) (cs : Array Value) (k : IntKind) (i : Nat) (v : Value) (ht : P.underlying t = some (.array n e)) (d : TypeDesc) (he : P.underlying e = some d)
    (hd : (match d with | .struct _ | .array _ _ => false | _ => true) = true) (hi : (P.info? e).map (·.size) = some 1) (hn : i < n) (hv : cs[i]? = some v) : (Instr.index t (.agg cs) (.int k (i : Int))).run P w = .ok v w := by
  cases hq : P.info? e with
  | none => simp [hq] at hi
  | some ie =>
    have hs : ie.size = 1 := by simpa [hq] using hi
    have hagg : (isAgg e).run P w = .ok false w := by
      unfold isAgg
      rw [Sem.run_bind, run_underlying he w]
      cases d <;> simp_all
    simp [Instr.index, asIntOf, run_underlying ht, hn, sizeOf, typeInfo, hq, hs, part, hagg, hv]

set_option maxHeartbeats 1000000 in
theorem tables_walk (p a b : Nat) (w : World) (hp : p < 4294967296) (ha : a < 256) (hb : b < 256) :
    Calls Try.prog 9 #[.int .u32 (p : Int), .int .u8 (a : Int), .int .u8 (b : Int)] w fun e w' => e = .returned (.bool true) ∧ Kept noBlock w w' := by
  have HP := Lib.hid hp; clear hp
  go_enter Try.func9, Try.ntmps9
  go_wp2_with fail
  refine (awake_any w).mono ?_
  rintro e w1 ⟨rfl, k1⟩
  go_wp2_with fail
  refine (of_any p w1 HP.out).mono ?_
  rintro e w2 ⟨rfl, k2⟩
  go_wp2_with (first | refine wpList_alloc_row rfl 25 rfl (tabk 0 0) Try.zeroTable ?_ | refine wpList_store_new rfl 25 _ _ rfl (tab p) (tabk 0 0) rfl rfl (tab_fits _) (tab_old _) (tab_one _) ?_)
  obtain ⟨w3, hw3⟩ : ∃ w3, w3 = w2.alloc (.cells (tab p) 25) := ⟨_, rfl⟩
  have kw3 : Kept noBlock w2 w3 := by rw [hw3]; exact Kept.alloc _ _ _
  have ht : ∀ j, j < 256 → w3.cell? ⟨w2.heap.size, j, none⟩ = some (uv (stpN p 8 j)) := by rw [hw3]; exact tab_there w2 _
  rw [← hw3]
  clear hw3
  obtain ⟨c, hc⟩ : ∃ c, c = a ^^^ b := ⟨_, rfl⟩
  have hc256 : c < 256 := by rw [hc]; exact Nat.xor_lt_two_pow (n := 8) ha hb
  have hxab : bits BinOp.xor IntKind.u8 (a : Int) (b : Int) = (c : Int) := by rw [hc]; exact u8_xor_nat a b ha hb
  obtain ⟨ta, hta⟩ : ∃ t, t = stpN p 8 a := ⟨_, rfl⟩
  obtain ⟨tb, htb⟩ : ∃ t, t = stpN p 8 b := ⟨_, rfl⟩
  obtain ⟨tc, htc⟩ : ∃ t, t = stpN p 8 c := ⟨_, rfl⟩
  have hxt : bits BinOp.xor IntKind.u32 (ta : Int) (tb : Int) = (tc : Int) := by
    rw [hta, htb, htc, hc, stpN_xor]
    exact u32_xor_nat _ _ (stpN_lt HP.out (by omega) 8) (stpN_lt HP.out (by omega) 8)
  have hca := ht a ha
  have hcb := ht b hb
  have hcc := ht c hc256
  rw [← hta] at hca
  rw [← htb] at hcb
  rw [← htc] at hcc
  unfold uv at hca hcb hcc
  have hia : (a : Int) < 256 := by omega
  have hib : (b : Int) < 256 := by omega
  have hic : (c : Int) < 256 := by omega
  have hix : ∀ w, (Instr.index 25 (.agg (tab 0)) (.int .u8 (a : Int))).run Try.prog w = .ok (.int .u32 0) w := fun w => by
    refine run_index_row w 25 22 256 (tab 0) .u8 a _ Try.underlying25 _ Try.underlying22 rfl (by kernel_rfl) ha ?_
    rw [tab_at 0 a ha, stpN_none, Nat.div_eq_of_lt ha]
    rfl
  clear ht hc hta htb htc
  refine wp_region_noPanic ?_
  refine wp_region_held_drew (S := fun w' => w'.cell? ⟨w2.heap.size, a, none⟩ = some (.int .u32 (ta : Int)) ∧ w'.cell? ⟨w2.heap.size, b, none⟩ = some (.int .u32 (tb : Int)) ∧ w'.cell? ⟨w2.heap.size, c, none⟩ = some (.int .u32 (tc : Int))) (by kernel_rfl) ⟨hca, hcb, hcc⟩ (fun hHeld => ?_)
  refine wpAnyH_take (i := 0) (oi := ⟨some 12, Op.move (Operand.tmp 1), 5, _, _, none⟩) (v := ?v0n1k1) rfl (by kernel_rfl) (by kernel_rfl) (by kernel_rfl) (fun _ _ _ h => h) (Or.inl ⟨by rfl, ?y0n1k1⟩) hHeld ?z0n1k1
  case y0n1k1 => intro w hSw; (try dsimp only at hSw); go_simp <;> rfl
  try simp only [Act.put, List.setIfInBounds_toArray, List.set_cons_zero, List.set_cons_succ]
  refine wpAnyH_take (i := 1) (oi := ⟨some 13, Op.move (Operand.tmp 2), 5, _, _, none⟩) (v := ?v1n1k2) rfl (by kernel_rfl) (by kernel_rfl) (by kernel_rfl) (fun _ _ _ h => h) (Or.inl ⟨by rfl, ?y1n1k2⟩) hHeld ?z1n1k2
  case y1n1k2 => intro w hSw; (try dsimp only at hSw); go_simp <;> rfl
  try simp only [Act.put, List.setIfInBounds_toArray, List.set_cons_zero, List.set_cons_succ]
  refine wpAnyH_take (i := 2) (oi := ⟨some 14, Op.binOp BinOp.xor 5 (Operand.tmp 12) (Operand.tmp 13) 5, 5, _, _, none⟩) (v := ?v2n1k3) rfl (by kernel_rfl) (by kernel_rfl) (by kernel_rfl) (fun _ _ _ h => h) (Or.inl ⟨by rfl, ?y2n1k3⟩) hHeld ?z2n1k3
  case y2n1k3 => intro w hSw; (try dsimp only at hSw); go_simp <;> rfl
  try simp only [Act.put, List.setIfInBounds_toArray, List.set_cons_zero, List.set_cons_succ]
  refine wpAnyH_take (i := 3) (oi := ⟨some 15, Op.indexAddr 25 (Operand.tmp 7) (Operand.tmp 14), 0, _, _, none⟩) (v := ?v3n1k4) rfl (by kernel_rfl) (by kernel_rfl) (by kernel_rfl) (fun _ _ _ h => h) (Or.inl ⟨by rfl, ?y3n1k4⟩) hHeld ?z3n1k4
  case y3n1k4 => intro w hSw; (try dsimp only at hSw); go_simp <;> rfl
  try simp only [Act.put, List.setIfInBounds_toArray, List.set_cons_zero, List.set_cons_succ]
  refine wpAnyH_take (i := 4) (oi := ⟨some 16, Op.load 22 (Operand.tmp 15), 22, _, _, none⟩) (v := ?v4n1k5) rfl (by kernel_rfl) (by kernel_rfl) (by kernel_rfl) (fun _ _ _ h => h) (Or.inl ⟨by rfl, ?y4n1k5⟩) hHeld ?z4n1k5
  case y4n1k5 => intro w hSw; (try dsimp only at hSw); go_simp <;> rfl
  try simp only [Act.put, List.setIfInBounds_toArray, List.set_cons_zero, List.set_cons_succ]
  refine wpAnyH_take (i := 5) (oi := ⟨some 17, Op.move (Operand.tmp 1), 5, _, _, none⟩) (v := ?v5n1k6) rfl (by kernel_rfl) (by kernel_rfl) (by kernel_rfl) (fun _ _ _ h => h) (Or.inl ⟨by rfl, ?y5n1k6⟩) hHeld ?z5n1k6
  case y5n1k6 => intro w hSw; (try dsimp only at hSw); go_simp <;> rfl
  try simp only [Act.put, List.setIfInBounds_toArray, List.set_cons_zero, List.set_cons_succ]
  refine wpAnyH_take (i := 6) (oi := ⟨some 18, Op.indexAddr 25 (Operand.tmp 7) (Operand.tmp 17), 0, _, _, none⟩) (v := ?v6n1k7) rfl (by kernel_rfl) (by kernel_rfl) (by kernel_rfl) (fun _ _ _ h => h) (Or.inl ⟨by rfl, ?y6n1k7⟩) hHeld ?z6n1k7
  case y6n1k7 => intro w hSw; (try dsimp only at hSw); go_simp <;> rfl
  try simp only [Act.put, List.setIfInBounds_toArray, List.set_cons_zero, List.set_cons_succ]
  refine wpAnyH_take (i := 7) (oi := ⟨some 19, Op.load 22 (Operand.tmp 18), 22, _, _, none⟩) (v := ?v7n1k8) rfl (by kernel_rfl) (by kernel_rfl) (by kernel_rfl) (fun _ _ _ h => h) (Or.inl ⟨by rfl, ?y7n1k8⟩) hHeld ?z7n1k8
  case y7n1k8 => intro w hSw; (try dsimp only at hSw); go_simp <;> rfl
  try simp only [Act.put, List.setIfInBounds_toArray, List.set_cons_zero, List.set_cons_succ]
  refine wpAnyH_take (i := 8) (oi := ⟨some 20, Op.move (Operand.tmp 2), 5, _, _, none⟩) (v := ?v8n1k9) rfl (by kernel_rfl) (by kernel_rfl) (by kernel_rfl) (fun _ _ _ h => h) (Or.inl ⟨by rfl, ?y8n1k9⟩) hHeld ?z8n1k9
  case y8n1k9 => intro w hSw; (try dsimp only at hSw); go_simp <;> rfl
  try simp only [Act.put, List.setIfInBounds_toArray, List.set_cons_zero, List.set_cons_succ]
  refine wpAnyH_take (i := 9) (oi := ⟨some 21, Op.indexAddr 25 (Operand.tmp 7) (Operand.tmp 20), 0, _, _, none⟩) (v := ?v9n1k10) rfl (by kernel_rfl) (by kernel_rfl) (by kernel_rfl) (fun _ _ _ h => h) (Or.inl ⟨by rfl, ?y9n1k10⟩) hHeld ?z9n1k10
  case y9n1k10 => intro w hSw; (try dsimp only at hSw); go_simp <;> rfl
  try simp only [Act.put, List.setIfInBounds_toArray, List.set_cons_zero, List.set_cons_succ]
  refine wpAnyH_take (i := 10) (oi := ⟨some 22, Op.load 22 (Operand.tmp 21), 22, _, _, none⟩) (v := ?v10n1k11) rfl (by kernel_rfl) (by kernel_rfl) (by kernel_rfl) (fun _ _ _ h => h) (Or.inl ⟨by rfl, ?y10n1k11⟩) hHeld ?z10n1k11
  case y10n1k11 => intro w hSw; (try dsimp only at hSw); go_simp <;> rfl
  try simp only [Act.put, List.setIfInBounds_toArray, List.set_cons_zero, List.set_cons_succ]
  refine wpAnyH_take (i := 11) (oi := ⟨some 23, Op.binOp BinOp.xor 22 (Operand.tmp 19) (Operand.tmp 22) 22, 22, _, _, none⟩) (v := ?v11n1k12) rfl (by kernel_rfl) (by kernel_rfl) (by kernel_rfl) (fun _ _ _ h => h) (Or.inl ⟨by rfl, ?y11n1k12⟩) hHeld ?z11n1k12
  case y11n1k12 => intro w hSw; (try dsimp only at hSw); go_simp <;> rfl
  try simp only [Act.put, List.setIfInBounds_toArray, List.set_cons_zero, List.set_cons_succ]
  refine wpAnyH_take (i := 12) (oi := ⟨some 24, Op.binOp BinOp.eql 22 (Operand.tmp 16) (Operand.tmp 23) 22, 4, _, _, none⟩) (v := ?v12n1k13) rfl (by kernel_rfl) (by kernel_rfl) (by kernel_rfl) (fun _ _ _ h => h) (Or.inl ⟨by rfl, ?y12n1k13⟩) hHeld ?z12n1k13
  case y12n1k13 => intro w hSw; (try dsimp only at hSw); go_simp <;> rfl
  try simp only [Act.put, List.setIfInBounds_toArray, List.set_cons_zero, List.set_cons_succ]
  refine wpAnyH_take (i := 13) (oi := ⟨some 25, Op.move (Operand.tmp 24), 4, _, _, none⟩) (v := ?v13n1k14) rfl (by kernel_rfl) (by kernel_rfl) (by kernel_rfl) (fun _ _ _ h => h) (Or.inl ⟨by rfl, ?y13n1k14⟩) hHeld ?z13n1k14
  case y13n1k14 => intro w hSw; (try dsimp only at hSw); go_simp <;> rfl
  try simp only [Act.put, List.setIfInBounds_toArray, List.set_cons_zero, List.set_cons_succ]
  refine wpAnyH_take (i := 15) (oi := ⟨some 27, Op.move (Operand.tmp 1), 5, _, _, some (13, true)⟩) (v := ?v15n1k15) rfl (by kernel_rfl) (by kernel_rfl) (by kernel_rfl) (fun _ _ _ h => h) (Or.inl ⟨by rfl, ?y15n1k15⟩) hHeld ?z15n1k15
  case y15n1k15 => intro w hSw; (try dsimp only at hSw); go_simp <;> rfl
  try simp only [Act.put, List.setIfInBounds_toArray, List.set_cons_zero, List.set_cons_succ]
  refine wpAnyH_ready (rs := [14]) (by kernel_rfl) (by simp) ?_
  refine AllReadyH.cons (o := ⟨some 26, Op.call { callee := Callee.value (Operand.func 11), args := #[Operand.const (Value.int IntKind.u32 0)], argTypes := #[22] }, 25, _, _, some (13, true)⟩) rfl (fun K hK => ?_) AllReadyH.nil
  go_simp
  refine (of_any 0 _ (by decide)).mono ?_
  rintro e w5 ⟨rfl, k5⟩
  have d1 := k5.cell hHeld.1 (fun h => h)
  have d2 := k5.cell hHeld.2.1 (fun h => h)
  have d3 := k5.cell hHeld.2.2 (fun h => h)
  dsimp only
  refine hK.out _ _ ⟨d1, d2, d3⟩ (fun hHeld => ?_)
  clear hK K
  try simp only [Act.put, List.setIfInBounds_toArray, List.set_cons_zero, List.set_cons_succ]
  refine wpAnyH_take (i := 16) (oi := ⟨some 28, Op.index 25 (Operand.tmp 26) (Operand.tmp 27), 22, _, _, some (13, true)⟩) (v := ?v16n1k16) rfl (by kernel_rfl) (by kernel_rfl) (by kernel_rfl) (fun _ _ _ h => h) (Or.inl ⟨by rfl, ?y16n1k16⟩) hHeld ?z16n1k16
  case y16n1k16 => intro w hSw; (try dsimp only at hSw); go_simp <;> rfl
  try simp only [Act.put, List.setIfInBounds_toArray, List.set_cons_zero, List.set_cons_succ]
  refine wpAnyH_take (i := 17) (oi := ⟨some 29, Op.binOp BinOp.eql 22 (Operand.tmp 28) (Operand.const (Value.int IntKind.u32 0)) 22, 4, _, _, some (13, true)⟩) (v := ?v17n1k17) rfl (by kernel_rfl) (by kernel_rfl) (by kernel_rfl) (fun _ _ _ h => h) (Or.inl ⟨by rfl, ?y17n1k17⟩) hHeld ?z17n1k17
  case y17n1k17 => intro w hSw; (try dsimp only at hSw); go_simp <;> rfl
  try simp only [Act.put, List.setIfInBounds_toArray, List.set_cons_zero, List.set_cons_succ]
  refine wpAnyH_take (i := 18) (oi := ⟨some 30, Op.pick (Operand.tmp 25) (Operand.tmp 29) (Operand.const (Value.bool false)), 4, _, _, none⟩) (v := ?v18n1k18) rfl (by kernel_rfl) (by kernel_rfl) (by kernel_rfl) (fun _ _ _ h => h) (Or.inl ⟨by rfl, ?y18n1k18⟩) hHeld ?z18n1k18
  case y18n1k18 => intro w hSw; (try dsimp only at hSw); go_simp <;> rfl
  try simp only [Act.put, List.setIfInBounds_toArray, List.set_cons_zero, List.set_cons_succ]
  refine wpAnyH_take (i := 19) (oi := ⟨some 6, Op.assign (Operand.tmp 30), 4, _, _, none⟩) (v := ?v19n1k19) rfl (by kernel_rfl) (by kernel_rfl) (by kernel_rfl) (fun _ _ _ h => h) (Or.inl ⟨by rfl, ?y19n1k19⟩) hHeld ?z19n1k19
  case y19n1k19 => intro w hSw; (try dsimp only at hSw); go_simp <;> rfl
  try simp only [Act.put, List.setIfInBounds_toArray, List.set_cons_zero, List.set_cons_succ]
  refine wpAnyH_done (by kernel_rfl) ?_ _
  refine NoPanic.normal ?_
  go_wp2
  go_ret
  exact ⟨rfl, (((k1.step k2).step kw3).step (Kept.drew _ _)).step k5⟩

end Go.Proofs.Ytfegoeepjmjlcaa
