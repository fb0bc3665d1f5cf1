/-
  The walk of EditsReplay. No statement is proved here.
-/
import Derived.Test.YtjijdkdpmbfdmaaL10RepPl
import Derived.Test.YtjijdkdpmbfdmaaFrame4
namespace Go.Proofs.Ytjijdkdpmbfdmaa
open Go.RowKit Tot

set_option maxRecDepth 100000 in
set_option maxHeartbeats 4000000 in
theorem erep10_walk (F : Nat → Prop) (a : Option Addr) (n cp : Nat) (ss : List StepV) (cut : Nat) (a0 : Option Addr) (n0 c0 : Nat) (raw : List UInt8) (w : World) (hraw : Lies w F a0 (raw.map bv)) (hrl : raw.length = n0) (hr0 : n0 ≤ 1100000) (hrc : n0 ≤ c0) (h : Lies w F a (stepCells ss)) (hx : ∀ x ∈ ss, x.lies F w ∧ x.any.name.size ≤ 1048576) (hl : ss.length = n) (hnc : n ≤ cp) (hcut : cut < 65536) :
    Calls Try.prog 7 #[.slice a n cp, .int .u16 (cut : Int), .slice a0 n0 c0] w fun e w' => e = .returned (.bool true) ∧ Kept noBlock w w' := by
  have hmm := @run_makeMap Try.prog
  obtain ⟨M, hM⟩ : ∃ M, M = min n 30 := ⟨_, rfl⟩
  have q1 : (if (30 : Int) < (n : Int) then (30 : Int) else (n : Int)) = (M : Int) := by split <;> omega
  have q2 : min (n : Int) 30 = (M : Int) := by omega
  have i1 : (M : Int) ≤ cp := by omega
  have hM30 : M ≤ 30 := by omega
  have hMn : M ≤ n := by omega
  have H := Lib.hid h
  have HX := Lib.hid hx
  have HL := Lib.hid hl
  have HRW := Lib.hid hraw
  have HRL := Lib.hid hrl
  clear h hx hl hM hraw hrl
  go_enter Try.func7, Try.ntmps7
  go_wp2_with fail
  refine (awake10_any w).mono ?_
  rintro en w1 ⟨rfl, k1⟩
  have L0 : Hid (FrR w w1 none 0 0 [] 0) := ⟨World.ownsRow_nil _ _ _ _, fun i hi => by simp [Value.ownBlock] at hi, rfl, Nat.zero_le _, k1⟩
  clear k1
  go_wp2_with fail
  go_loopw [37, 7] (fun i bb wr => ∃ (k : Nat) (B : Option Addr) (bl bc : Nat) (bs : List (List UInt8)), k ≤ M ∧ i = .int .i64 (k : Int) ∧ bb = .slice B bl bc ∧ Hid (∀ r ∈ bs, r.length ≤ 16384) ∧ Hid (FrR w wr B bl bc (joined bs) k)) (fun i _ _ => M - (intOf i).toNat)
  case atStart => exact ⟨0, none, 0, 0, [], by omega, rfl, rfl, fun r hr => (by cases hr), L0⟩
  case round =>
    obtain ⟨k, B, bl, bc, bs, hkM, rfl, rfl, HBS, LS⟩ := hrel
    have hbl0 := LS.out.ble
    by_cases hlt : k < M
    · obtain ⟨x, hx⟩ : ∃ x, ss[k]? = some x := ⟨_, List.getElem?_eq_getElem (by have := HL.out; omega)⟩
      obtain ⟨ad, o, rfl, _, cc⟩ := (H.out.keep LS.out.kept (fun _ _ h => h)).elem (enc := StepV.cells) step_len (by omega) hx
      have e0 := cc 0 _ rfl
      have e1 := cc 1 _ rfl
      have e2 := cc 2 _ rfl
      have e3 := cc 3 _ rfl
      have e4 := cc 4 _ rfl
      have e5 := cc 5 _ rfl
      have e6 := cc 6 _ rfl
      have e7 := cc 7 _ rfl
      rw [Nat.add_zero] at e0
      have XL := Lib.hid ((HX.out x (List.mem_of_getElem? hx)).1.keep LS.out.kept (fun _ _ h => h))
      have hxn := (HX.out x (List.mem_of_getElem? hx)).2
      have ka := Kept.alloc noBlock wr (.cells #[.slice x.A x.add.length x.ca, .slice x.D x.drop.length x.cd, .int .u8 (x.floor.toNat : Int), .bool x.odd, .string x.any.name, .int .i64 x.any.kind, .int .i64 x.any.from_, .int .i64 x.any.to_] 33)
      have ha := heap_alloc_new wr (.cells #[.slice x.A x.add.length x.ca, .slice x.D x.drop.length x.cd, .int .u8 (x.floor.toNat : Int), .bool x.odd, .string x.any.name, .int .i64 x.any.kind, .int .i64 x.any.from_, .int .i64 x.any.to_] 33)
      clear cc hx hmm
      go_upto_region 7 with (fail)
      generalize wr.alloc (.cells #[.slice x.A x.add.length x.ca, .slice x.D x.drop.length x.cd, .int .u8 (x.floor.toNat : Int), .bool x.odd, .string x.any.name, .int .i64 x.any.kind, .int .i64 x.any.from_, .int .i64 x.any.to_] 33) = w3 at ka ha ⊢
      have L3 := Lib.hid (LS.out.keep ka)
      have LE := Lib.hid (edit_step (XL.out.keep ka (fun _ _ h => h)) w3 (Kept.refl _ _))
      obtain ⟨hb24, hbN⟩ := editOf_bytes x
      obtain ⟨y0, y1, y2, y3, y4, y5, y6, y7⟩ := step_cells ha
      obtain ⟨e, he⟩ : ∃ e, e = editOf x := ⟨_, rfl⟩
      rw [← he] at LE hb24 hbN
      obtain ⟨N, hN⟩ : ∃ N, N = e.bytes.length := ⟨_, rfl⟩
      rw [← hN] at hb24 hbN
      have HN := Lib.hid hN
      clear e0 e1 e2 e3 e4 e5 e6 e7 ka ha XL he hN LS
      go_wp2_with fail
      refine LE.out.mono ?_
      rintro en w4 ⟨A2, a2, D2, d2, rfl, ev2, k4⟩
      have EB := ebytes_any (fun _ => True) e A2 a2 D2 d2 N w4 ev2 HN.out.symm (by omega)
      unfold evl at EB
      have EB := Lib.hid EB
      clear LE ev2 y0 y1 y2 y3 y4 y5 y6 y7
      go_wp2_with fail
      refine EB.out.mono ?_
      rintro en w5 ⟨Pb, cb, rfl, o5, k5⟩
      have MB := Lib.hid (make_both (fun _ => True) Pb N cb e.bytes w5 (Lies.of_rows o5 (fun _ _ => trivial)) HN.out.symm)
      have L5 := Lib.hid (L3.out.keep (k4.step k5))
      clear o5 k4 k5 L3 EB
      go_wp2_with fail
      refine MB.out.mono ?_
      rintro en w6 ⟨A6, m6, c6, er, xs, rfl, k6, o6, hxl, hm6, hjn⟩
      have L6 := Lib.hid (L5.out.keep k6)
      have hown6 := L6.out.own
      have hsrc : Src Try.prog 1 28 (.slice A6 m6 c6) m6 (xs.map bv) w6 := src_lies Try.underlying28 (Lies.of_rows (F := fun _ => True) o6 (fun _ _ => trivial)) (by rw [List.length_map, hxl]) (bv_one _)
      have HXL := Lib.hid hxl
      have HJN := Lib.hid hjn
      clear o6 k6 L5 MB hxl hjn
      go_wp2_with (at_builtin; refine wpList_append_src rfl _ _ 28 28 rfl 5 (.int .u8 0) 1 1 Try.underlying28 Try.infoU8f rfl (.slice B bl bc) bl ((joined bs).map bv) rfl hown6 _ m6 (xs.map bv) rfl hsrc ?c3 ?c4 ?_)
      case c3 => unfold maxLen; omega
      case c4 => omega
      intro B9 c9 w9 o9 k9 hat9
      obtain ⟨bs', hj', hb'⟩ := HJN.out bs HBS.out
      have LN := L6.out.more HXL.out hm6 o9 k9 hat9
      rw [← hj'] at LN
      have LN := Lib.hid LN
      have HB' := Lib.hid hb'
      obtain ⟨bl2, hbl2⟩ : ∃ b2, b2 = bl + m6 := ⟨_, rfl⟩
      rw [← hbl2] at LN ⊢
      clear o9 k9 hat9 hown6 hsrc hbl2 hj' hb' HJN
      go_wp2
      go_roundw
      case rel => exact ⟨k + 1, B9, bl2, c9, bs', by omega, by go_num, rfl, HB', LN⟩
      case measure => simp [intOf]; omega
    · obtain rfl : k = M := by omega
      obtain ⟨v0, hv0⟩ : ∃ v0, v0 = wr := ⟨_, rfl⟩
      subst hv0
      have hbc : bl ≤ bc := by obtain ⟨_, _, e, hle⟩ := own_form LS.out.own; injection e with _ _ e; omega
      have hbl5 : bl ≤ 510000 := by omega
      obtain ⟨ku, hku⟩ : ∃ ku, ku = cut % (bl + 1) := ⟨_, rfl⟩
      have hkub : ku ≤ bl := by have := Nat.mod_lt cut (show 0 < bl + 1 by omega); omega
      obtain ⟨b1, hb1⟩ : ∃ b1, b1 = bl + 1 := ⟨_, rfl⟩
      rw [← hb1] at hku
      have i2 : (cut : Int).tmod ((bl : Int) + 1) = (ku : Int) := by
        have h1 : (cut : Int) % (b1 : Int) = (ku : Int) := by omega
        have h2 : (b1 : Int) = (bl : Int) + 1 := by omega
        rw [Int.tmod_eq_emod_of_nonneg (by omega), ← h2, h1]
      have hw1 : IntKind.i64.wrap ((bl : Int) + 1) = (bl : Int) + 1 := IntWalk.i64_in _ (by omega)
      have hw2 : IntKind.i64.wrap (cut : Int) = (cut : Int) := IntWalk.i64_in _ (by omega)
      have hne : ¬ ((bl : Int) + 1 = 0) := by omega
      have hkui : (ku : Int) ≤ bc := by omega
      have KC : Hid (Kept noBlock v0 v0.drew) := Kept.drew _ _
      clear hlt hku hb1
      go_upto_region 10 with (fail)
      refine wp_region_noPanic ?_
      refine wp_region_held_drew (S := fun _ => True) (by kernel_rfl) trivial (fun hHeld => ?_)
      refine wpAnyH_take (i := 0) (oi := ⟨some 52, Op.move (Operand.tmp 7), 28, _, _, none⟩) (v := ?v0n1k1) rfl (by kernel_rfl) (by kernel_rfl) (by kernel_rfl) (fun _ _ _ h => h) (Or.inl ⟨by rfl, ?y0n1k1⟩) hHeld ?z0n1k1
      case y0n1k1 => intro w hSw; (try dsimp only at hSw); go_simp <;> rfl
      try simp only [Act.put, List.setIfInBounds_toArray, List.set_cons_zero, List.set_cons_succ]
      refine wpAnyH_take (i := 1) (oi := ⟨some 53, Op.move (Operand.tmp 1), 60, _, _, none⟩) (v := ?v1n1k2) rfl (by kernel_rfl) (by kernel_rfl) (by kernel_rfl) (fun _ _ _ h => h) (Or.inl ⟨by rfl, ?y1n1k2⟩) hHeld ?z1n1k2
      case y1n1k2 => intro w hSw; (try dsimp only at hSw); go_simp <;> rfl
      try simp only [Act.put, List.setIfInBounds_toArray, List.set_cons_zero, List.set_cons_succ]
      refine wpAnyH_take (i := 2) (oi := ⟨some 54, Op.convert 60 3 (Operand.tmp 53), 3, _, _, none⟩) (v := ?v2n1k3) rfl (by kernel_rfl) (by kernel_rfl) (by kernel_rfl) (fun _ _ _ h => h) (Or.inl ⟨by rfl, ?y2n1k3⟩) hHeld ?z2n1k3
      case y2n1k3 => intro w hSw; (try dsimp only at hSw); go_simp <;> rfl
      try simp only [Act.put, List.setIfInBounds_toArray, List.set_cons_zero, List.set_cons_succ]
      refine wpAnyH_take (i := 3) (oi := ⟨some 55, Op.move (Operand.tmp 7), 28, _, _, none⟩) (v := ?v3n1k4) rfl (by kernel_rfl) (by kernel_rfl) (by kernel_rfl) (fun _ _ _ h => h) (Or.inl ⟨by rfl, ?y3n1k4⟩) hHeld ?z3n1k4
      case y3n1k4 => intro w hSw; (try dsimp only at hSw); go_simp <;> rfl
      try simp only [Act.put, List.setIfInBounds_toArray, List.set_cons_zero, List.set_cons_succ]
      refine wpAnyH_take (i := 4) (oi := ⟨some 56, Op.call { callee := Callee.builtin Builtin.len, args := #[Operand.tmp 55], argTypes := #[28] }, 3, _, _, none⟩) (v := ?v4n1k5) rfl (by kernel_rfl) (by kernel_rfl) (by kernel_rfl) (fun _ _ _ h => h) (Or.inl ⟨by rfl, ?y4n1k5⟩) hHeld ?z4n1k5
      case y4n1k5 => intro w hSw; (try dsimp only at hSw); go_simp <;> rfl
      try simp only [Act.put, List.setIfInBounds_toArray, List.set_cons_zero, List.set_cons_succ]
      refine wpAnyH_take (i := 5) (oi := ⟨some 57, Op.binOp BinOp.add 3 (Operand.tmp 56) (Operand.const (Value.int IntKind.i64 1)) 3, 3, _, _, none⟩) (v := ?v5n1k6) rfl (by kernel_rfl) (by kernel_rfl) (by kernel_rfl) (fun _ _ _ h => h) (Or.inl ⟨by rfl, ?y5n1k6⟩) hHeld ?z5n1k6
      case y5n1k6 => intro w hSw; (try dsimp only at hSw); go_simp <;> rfl
      try simp only [Act.put, List.setIfInBounds_toArray, List.set_cons_zero, List.set_cons_succ]
      refine wpAnyH_take (i := 6) (oi := ⟨some 58, Op.binOp BinOp.rem 3 (Operand.tmp 54) (Operand.tmp 57) 3, 3, _, _, none⟩) (v := ?v6n1k7) rfl (by kernel_rfl) (by kernel_rfl) (by kernel_rfl) (fun _ _ _ h => h) (Or.inl ⟨by rfl, ?y6n1k7⟩) hHeld ?z6n1k7
      case y6n1k7 => intro w hSw; (try dsimp only at hSw); go_simp <;> rfl
      try simp only [Act.put, List.setIfInBounds_toArray, List.set_cons_zero, List.set_cons_succ]
      refine wpAnyH_take (i := 7) (oi := ⟨some 59, Op.slice 28 (Operand.tmp 52) none (some (Operand.tmp 58)) none, 28, _, _, none⟩) (v := ?v7n1k8) rfl (by kernel_rfl) (by kernel_rfl) (by kernel_rfl) (fun _ _ _ h => h) (Or.inl ⟨by rfl, ?y7n1k8⟩) hHeld ?z7n1k8
      case y7n1k8 => intro w hSw; (try dsimp only at hSw); go_simp <;> rfl
      try simp only [Act.put, List.setIfInBounds_toArray, List.set_cons_zero, List.set_cons_succ]
      refine wpAnyH_take (i := 8) (oi := ⟨some 60, Op.move (Operand.tmp 7), 28, _, _, none⟩) (v := ?v8n1k9) rfl (by kernel_rfl) (by kernel_rfl) (by kernel_rfl) (fun _ _ _ h => h) (Or.inl ⟨by rfl, ?y8n1k9⟩) hHeld ?z8n1k9
      case y8n1k9 => intro w hSw; (try dsimp only at hSw); go_simp <;> rfl
      try simp only [Act.put, List.setIfInBounds_toArray, List.set_cons_zero, List.set_cons_succ]
      refine wpAnyH_take (i := 10) (oi := ⟨some 62, Op.move (Operand.tmp 2), 28, _, _, none⟩) (v := ?v10n1k10) rfl (by kernel_rfl) (by kernel_rfl) (by kernel_rfl) (fun _ _ _ h => h) (Or.inl ⟨by rfl, ?y10n1k10⟩) hHeld ?z10n1k10
      case y10n1k10 => intro w hSw; (try dsimp only at hSw); go_simp <;> rfl
      try simp only [Act.put, List.setIfInBounds_toArray, List.set_cons_zero, List.set_cons_succ]
      refine wpAnyH_take (i := 12) (oi := ⟨some 64, Op.move (Operand.tmp 2), 28, _, _, none⟩) (v := ?v12n1k11) rfl (by kernel_rfl) (by kernel_rfl) (by kernel_rfl) (fun _ _ _ h => h) (Or.inl ⟨by rfl, ?y12n1k11⟩) hHeld ?z12n1k11
      case y12n1k11 => intro w hSw; (try dsimp only at hSw); go_simp <;> rfl
      try simp only [Act.put, List.setIfInBounds_toArray, List.set_cons_zero, List.set_cons_succ]
      refine wpAnyH_take (i := 15) (oi := ⟨some 67, Op.move (Operand.const (Value.int IntKind.i64 0)), 3, _, _, none⟩) (v := ?v15n1k12) rfl (by kernel_rfl) (by kernel_rfl) (by kernel_rfl) (fun _ _ _ h => h) (Or.inl ⟨by rfl, ?y15n1k12⟩) hHeld ?z15n1k12
      case y15n1k12 => intro w hSw; (try dsimp only at hSw); go_simp <;> rfl
      try simp only [Act.put, List.setIfInBounds_toArray, List.set_cons_zero, List.set_cons_succ]
      refine wpAnyH_ready (rs := [9]) (by kernel_rfl) (by simp) ?_
      refine AllReadyH.cons (o := ⟨some 61, Op.call { callee := Callee.builtin Builtin.append, args := #[Operand.const (Value.slice none 0 0), Operand.tmp 60], argTypes := #[28, 28] }, 28, _, _, none⟩) rfl (fun K hK => ?_) AllReadyH.nil
      refine step_append_src rfl _ _ 28 28 rfl 5 (.int .u8 0) 1 1 Try.underlying28 Try.infoU8f rfl (.slice none 0 0) 0 [] rfl (World.ownsRow_nil _ _ _ _) (.slice B bl bc) bl ((joined bs).map bv) rfl (src_lies (F := fun _ => True) Try.underlying28 ((Lies.of_rows LS.out.own (fun _ _ => trivial)).keep KC.out (fun _ _ h => h)) (by rw [List.length_map, LS.out.len]) (bv_one _)) (by unfold maxLen; omega) (by omega) ?_
      intro A9 c9 u9 o9 k9 a9
      try simp only [Nat.zero_add, List.nil_append] at o9
      try simp only [Nat.zero_add] at a9
      try simp only [Nat.zero_add]
      have O9 : Hid (u9.ownsRow 0 5 1 (.slice A9 bl c9) bl ((joined bs).map bv)) := o9
      have HA9 : Hid (∀ i, (Value.slice A9 bl c9).ownBlock = some i → v0.heap.size ≤ i) := fun i hi => by
        rcases a9 i (by simpa using hi) with h | h
        · simp [Value.ownBlock] at h
        · exact Nat.le_trans KC.out.size h.1
      replace KC := Lib.hid (KC.out.step (k9.mono (T := noBlock) (fun _ _ h => by simp [Value.ownBlock] at h)))
      clear o9 k9 a9
      refine hK.out _ _ trivial (fun hHeld => ?_)
      clear hK K
      try simp only [Act.put, List.setIfInBounds_toArray, List.set_cons_zero, List.set_cons_succ]
      refine wpAnyH_ready (rs := [11]) (by kernel_rfl) (by simp) ?_
      refine AllReadyH.cons (o := ⟨some 63, Op.call { callee := Callee.builtin Builtin.append, args := #[Operand.tmp 61, Operand.tmp 62], argTypes := #[28, 28] }, 28, _, _, none⟩) rfl (fun K hK => ?_) AllReadyH.nil
      refine step_append_src rfl _ _ 28 28 rfl 5 (.int .u8 0) 1 1 Try.underlying28 Try.infoU8f rfl (.slice A9 bl c9) bl ((joined bs).map bv) rfl O9.out (.slice a0 n0 c0) n0 (raw.map bv) rfl (src_lies (F := F) Try.underlying28 (HRW.out.keep (LS.out.kept.step KC.out) (fun _ _ h => h)) (by rw [List.length_map, HRL.out]) (bv_one _)) (by unfold maxLen; omega) (by omega) ?_
      intro A11 c11 u11 o11 k11 a11
      have O11 : Hid (u11.ownsRow 0 5 1 (.slice A11 (bl + n0) c11) (bl + n0) ((joined bs ++ raw).map bv)) := by unfold Hid; rw [List.map_append]; exact o11
      replace KC := Lib.hid (KC.out.trans k11 (fun i hi h => by have := HA9.out i h; omega))
      clear o11 k11 a11
      refine hK.out _ _ trivial (fun hHeld => ?_)
      clear hK K
      try simp only [Act.put, List.setIfInBounds_toArray, List.set_cons_zero, List.set_cons_succ]
      refine wpAnyH_ready (rs := [13]) (by kernel_rfl) (by simp) ?_
      refine AllReadyH.cons (o := ⟨some 65, Op.buildSlice 61 3 #[(0, Operand.tmp 59), (1, Operand.tmp 63), (2, Operand.tmp 64)], 61, _, _, none⟩) rfl (fun K hK => ?_) AllReadyH.nil
      have KD := Kept.alloc noBlock u11 (.cells #[.slice B ku bc, .slice A11 (bl + n0) c11, .slice a0 n0 c0] 28)
      have HD := heap_alloc_new u11 (.cells #[.slice B ku bc, .slice A11 (bl + n0) c11, .slice a0 n0 c0] 28)
      go_simp
      refine hK.out _ _ trivial (fun hHeld => ?_)
      clear hK K
      try simp only [Act.put, List.setIfInBounds_toArray, List.set_cons_zero, List.set_cons_succ]
      refine wpAnyH_take (i := 14) (oi := ⟨some 66, Op.call { callee := Callee.builtin Builtin.len, args := #[Operand.tmp 65], argTypes := #[61] }, 3, _, _, none⟩) (v := ?v14n1k13) rfl (by kernel_rfl) (by kernel_rfl) (by kernel_rfl) (fun _ _ _ h => h) (Or.inl ⟨by rfl, ?y14n1k13⟩) hHeld ?z14n1k13
      case y14n1k13 => intro w hSw; (try dsimp only at hSw); go_simp <;> rfl
      try simp only [Act.put, List.setIfInBounds_toArray, List.set_cons_zero, List.set_cons_succ]
      refine wpAnyH_done (by kernel_rfl) ?_ _
      refine NoPanic.normal ?_
      clear hHeld
      have L11 := Lib.hid (LS.out.keep (KC.out.step KD))
      have K11 := Lib.hid KC.out
      have hc11 : bl + n0 ≤ c11 := by obtain ⟨_, _, e, hle⟩ := own_form O11.out; injection e with _ _ e; omega
      obtain ⟨Q, hQ⟩ : ∃ Q, Q = u11.heap.size := ⟨_, rfl⟩
      obtain ⟨ys, hys⟩ : ∃ ys : List RwV, ys = [⟨B, bc, (joined bs).take ku⟩, ⟨A11, c11, joined bs ++ raw⟩, ⟨a0, c0, raw⟩] := ⟨_, rfl⟩
      have l0 : ((joined bs).take ku).length = ku := by rw [List.length_take, LS.out.len]; omega
      have l1 : (joined bs ++ raw).length = bl + n0 := by rw [List.length_append, LS.out.len, HRL.out]
      have lr : Lies (u11.alloc (.cells #[.slice B ku bc, .slice A11 (bl + n0) c11, .slice a0 n0 c0] 28)) (fun _ => True) (some ⟨Q, 0, none⟩) (ys.map RwV.val) := fun _ => ⟨_, rfl, trivial, fun j u hu => by
        rw [hQ, add_plain, cell_of_row _ _ _ _ _ _ HD]
        rw [hys] at hu
        simpa [RwV.val, l0, l1, HRL.out, LS.out.len] using hu⟩
      have yl : ∀ q ∈ ys, Lies (u11.alloc (.cells #[.slice B ku bc, .slice A11 (bl + n0) c11, .slice a0 n0 c0] 28)) (fun _ => True) q.a (q.l.map bv) ∧ q.l.length ≤ 1700000 ∧ q.l.length ≤ q.c := fun q hq => by
        rw [hys] at hq
        simp only [List.mem_cons, List.not_mem_nil, or_false] at hq
        rcases hq with rfl | rfl | rfl
        · refine ⟨?_, by simp only; omega, by simp only; omega⟩
          rw [List.map_take]
          exact (Lies.of_rows (F := fun _ => True) L11.out.own (fun _ _ => trivial)).take ku
        · exact ⟨(Lies.of_rows (F := fun _ => True) O11.out (fun _ _ => trivial)).keep KD (fun _ _ h => h), by simp only; omega, by simp only; omega⟩
        · exact ⟨((HRW.out.keep (LS.out.kept.step (KC.out.step KD)) (fun _ _ h => h)).mono (fun _ _ => trivial)), by simp only; rw [HRL.out]; omega, by simp only; rw [HRL.out]; omega⟩
      have hy3 : ys.length = 3 := by rw [hys]; rfl
      rw [← hQ]
      generalize u11.alloc (.cells #[.slice B ku bc, .slice A11 (bl + n0) c11, .slice a0 n0 c0] 28) = u0 at KD HD L11 lr yl ⊢
      have LR := Lib.hid lr
      have YL := Lib.hid yl
      have HY3 := Lib.hid hy3
      have KW := Lib.hid L11.out.kept
      clear lr yl hy3 hys l0 l1 KD HD K11 KC O9 O11 HA9 L11 LS hQ i2 hw1 hw2 hne hkui
      go_wp2_with fail
      go_loopw [67] (fun i wr => ∃ j : Nat, j ≤ 3 ∧ i = .int .i64 (j : Int) ∧ Hid (Kept noBlock u0 wr)) (fun i _ => 3 - (intOf i).toNat)
      case atStart => exact ⟨0, by omega, rfl, Kept.refl _ _⟩
      case round =>
        obtain ⟨j, hj3, rfl, HK⟩ := hrel
        by_cases hlj : j < 3
        · obtain ⟨q, hq⟩ : ∃ q, ys[j]? = some q := ⟨_, List.getElem?_eq_getElem (by have := HY3.out; omega)⟩
          obtain ⟨ad2, hQa, _, hcell⟩ := (LR.out.keep HK.out (fun _ _ h => h)).at_ (k := j) (u := q.val) (by simp [hq])
          injection hQa with hQa
          subst hQa
          rw [add_plain, Nat.zero_add] at hcell
          unfold RwV.val at hcell
          obtain ⟨hql, hqs, hqc⟩ := YL.out q (List.mem_of_getElem? hq)
          obtain ⟨L, hL⟩ : ∃ L, L = q.l.length := ⟨_, rfl⟩
          rw [← hL] at hcell hqs hqc
          have hji : decide ((j : Int) < 3) = true := decide_eq_true (by omega)
          have hji2 : (j : Int) < 3 := by omega
          have kb := Kept.alloc noBlock wr (.map #[] 0)
          have ht := MF.Tb.made wr
          have HLL := Lib.hid hL
          have HQL := Lib.hid (hql.keep (HK.out.step kb) (fun _ _ h => h))
          have HJ := Lib.hid hlj
          clear hq hql hL
          go_upto_region 14 with (fail)
          obtain ⟨m0, hm0⟩ : ∃ m0, m0 = wr.heap.size := ⟨_, rfl⟩
          rw [← hm0] at ht ⊢
          generalize wr.alloc (.map #[] 0) = v1 at kb ht HQL ⊢
          have RW := Lib.hid (rows_any (fun _ => True) q.a L q.c q.l v1 HQL.out HLL.out.symm (by omega) hqc)
          have KV1 : Hid (Kept noBlock u0 v1) := HK.out.step kb
          have HT := Lib.hid ht
          clear hcell hm0 kb ht
          go_wp2_with fail
          refine RW.out.mono ?_
          rintro en v2 ⟨xs, t, R, rc, hp, htt, rfl, oR, hth, kR⟩
          have hge := joined_ge (rowsOf xs)
          have hpl := congrArg List.length hp.is
          rw [List.length_append, ← HLL.out] at hpl
          obtain ⟨xn, hxn⟩ : ∃ xn, xn = xs.length := ⟨_, rfl⟩
          have hrl : (rowsOf xs).length = xn := by rw [hxn]; simp [rowsOf]
          rw [hrl] at hge
          obtain ⟨jl, hjl⟩ : ∃ jl, jl = (joined (rowsOf xs)).length := ⟨_, rfl⟩
          rw [← hjl] at hge hpl ⊢
          rw [← hxn] at oR ⊢
          obtain ⟨er, her⟩ : ∃ er, er = ((if t = [] then 0 else (rd t).2.2 : Nat) : Int) := ⟨_, rfl⟩
          rw [← her]
          clear her
          have hrc2 : xn ≤ rc := by obtain ⟨_, _, e, hle⟩ := own_form oR; injection e with _ _ e; omega
          have C0 : Hid (ChkR v2 v2 (rowsOf xs) 0 m0 [] 0 false) := ⟨HT.out.keep kR (fun h => h), Good.nil, by simp, fun _ => rfl, fun h => (by cases h), Kept.refl _ _⟩
          have OR := Lib.hid (Lies.of_rows (F := fun _ => True) oR (fun _ _ => trivial))
          have HTH := Lib.hid hth
          have HPT := Lib.hid hp
          have HTT := Lib.hid htt
          have HXN := Lib.hid hxn
          have HJL := Lib.hid hjl
          have HQ2 := Lib.hid (HQL.out.keep kR (fun _ _ h => h))
          have KV2 := Lib.hid (KV1.out.step kR)
          have hxb : xn ≤ 200000 := by omega
          have hjb : jl ≤ 1700000 := by omega
          clear hp htt oR hth kR hrl hge hpl hxn hjl RW HT KV1 HQL
          go_wp2_with fail
          go_loopw [80, 14, 15, 16] (fun i mp fv bb wr => ∃ (g mb : Nat) (N : Fls) (f : Int) (bad : Bool), g ≤ xn ∧ i = .int .i64 (g : Int) ∧ mp = .map (some mb) ∧ fv = .int .i64 f ∧ bb = .bool bad ∧ Hid (ChkR v2 wr (rowsOf xs) g mb N f bad)) (fun i _ _ _ _ => xn - (intOf i).toNat)
          case atStart => exact ⟨0, m0, [], 0, false, by omega, rfl, rfl, rfl, rfl, C0⟩
          case round =>
            obtain ⟨g, mb, N, f, bad, hgx, rfl, rfl, rfl, rfl, CH⟩ := hrel
            by_cases hlg : g < xn
            · obtain ⟨x, hx⟩ : ∃ x, xs[g]? = some x := ⟨_, List.getElem?_eq_getElem (by have := HXN.out; omega)⟩
              have hxr : (rowsOf xs)[g]? = some x.row := by unfold rowsOf; rw [List.getElem?_map, hx]; rfl
              obtain ⟨ad3, rfl, _, hcell⟩ := (OR.out.keep CH.out.kept (fun _ _ h => h)).at_ (k := g) (u := x.val) (by simp [hx])
              unfold Item.val at hcell
              have hxt := HTH.out x (List.mem_of_getElem? hx)
              have hx16 : x.row.length ≤ 16384 := HPT.out.fit _ (List.mem_of_getElem? hxr)
              obtain ⟨L2, hL2⟩ : ∃ L2, L2 = x.row.length := ⟨_, rfl⟩
              have hxl := (Lies.of_rows (F := fun _ => True) hxt (fun _ _ => trivial)).keep CH.out.kept (fun _ _ h => h)
              obtain ⟨b1, b2, b3⟩ := rdEdit_bound x.row L2 hL2.symm (by omega)
              have RD := eread_any _ x.A L2 x.c x.row wr hxl hL2.symm (by omega) b1 b2 b3
              obtain ⟨hs1, hs2, hs3⟩ := got_short x.row hx16
              rw [← hL2] at hcell
              have HXR := Lib.hid hxr
              have HX16 := Lib.hid hx16
              obtain ⟨e, he⟩ : ∃ e, e = gotE x.row := ⟨_, rfl⟩
              obtain ⟨ok, hok⟩ : ∃ ok, ok = gotEB x.row := ⟨_, rfl⟩
              rw [← he, ← hok] at RD
              rw [← he] at hs1 hs2 hs3
              unfold evl at RD
              have RD := Lib.hid RD
              have HE := Lib.hid he
              have HOK := Lib.hid hok
              have HS3 := Lib.hid hs3
              have hnl := CH.out.len
              have HG := Lib.hid hlg
              have hgi : (g : Int) < (xn : Int) := by omega
              clear hx hxr hxt hx16 hxl b1 b2 b3 hL2 he hok hs3
              go_wp2_with fail
              refine RD.out.mono ?_
              rintro en v3 ⟨A3, a3, D3, d3, rfl, ev3, k3⟩
              have ka := Kept.alloc noBlock v3 (.cells #[.slice A3 e.add.length a3, .slice D3 e.drop.length d3, .int .i64 e.floor] 36)
              have ha := heap_alloc_new v3 (.cells #[.slice A3 e.add.length a3, .slice D3 e.drop.length d3, .int .i64 e.floor] 36)
              go_upto_region 19 with (fail)
              obtain ⟨X, hX⟩ : ∃ X, X = v3.heap.size := ⟨_, rfl⟩
              rw [← hX] at ha ⊢
              generalize v3.alloc (.cells #[.slice A3 e.add.length a3, .slice D3 e.drop.length d3, .int .i64 e.floor] 36) = v4 at ka ha ⊢
              have C4 := Lib.hid (CH.out.keep (k3.step ka))
              have LD := ldoL_any (fun _ => True) mb N f e A3 a3 D3 d3 v4 C4.out.tb ((ev3.kept ka).mono (fun _ _ => trivial)) (by omega) (by omega) (by omega) HS3.out
              unfold evl at LD
              have LD := Lib.hid LD
              have HX4 := Lib.hid ha
              obtain ⟨x0, x1, x2⟩ := ed_cells ha
              clear ka ha k3 ev3 RD hcell CH hX
              go_wp2_with fail
              refine LD.out.mono ?_
              rintro en v5 ⟨⟨mv, rfl, hmv⟩, k5⟩
              have C5 := Lib.hid (C4.out.keep k5)
              have HX5 := Lib.hid (k5.blk HX4.out (fun h => h))
              have HMV := Lib.hid hmv
              obtain ⟨r, hr⟩ : ∃ r, r = (doE N f e).2 := ⟨_, rfl⟩
              rw [← hr] at HMV ⊢
              have HR := Lib.hid hr
              clear hmv hr k5 LD x0 x1 x2 C4 HX4
              obtain ⟨x0, x1, x2⟩ := ed_cells HX5.out
              cases bad with
              | true =>
                have CN := Lib.hid (C5.out.stay HXR.out)
                clear HMV
                go_wp2
                go_roundw
                case rel => exact ⟨g + 1, mb, N, f, true, by have := HG.out; omega, by go_num, rfl, rfl, rfl, CN⟩
                case measure => have := HG.out; simp [intOf]; omega
              | false =>
                cases ok with
                | false =>
                  have CN := Lib.hid (C5.out.wrong HXR.out (.inl HOK.out.symm))
                  clear HMV
                  go_wp2
                  go_roundw
                  case rel => exact ⟨g + 1, mb, N, f, true, by have := HG.out; omega, by go_num, rfl, rfl, rfl, CN⟩
                  case measure => have := HG.out; simp [intOf]; omega
                | true =>
                  by_cases hr0 : r = 0
                  · subst hr0
                    obtain ⟨m', rfl, T5, _⟩ := HMV.out rfl
                    have CN := Lib.hid (C5.out.right HXR.out HX16.out HOK.out.symm (by rw [← HE.out]; exact HR.out.symm) (by rw [← HE.out]; exact T5))
                    rw [← HE.out] at CN
                    clear HMV T5
                    go_upto_region 22 with (fail)
                    go_quiet (fail)
                    have kq := Kept.drewN noBlock v5 nq
                    generalize v5.drewN nq = v6 at kq ⊢
                    have CQ := Lib.hid (CN.out.keep kq)
                    clear kq
                    go_wp2
                    go_roundw
                    case rel => exact ⟨g + 1, m', (doE N f e).1, e.floor, false, by have := HG.out; omega, by go_num, rfl, rfl, rfl, CQ⟩
                    case measure => have := HG.out; simp [intOf]; omega
                  · have hr1 : (r != 0) = true := by simpa [bne] using hr0
                    have CN := Lib.hid (C5.out.wrong HXR.out (.inr (by rw [← HE.out, ← HR.out]; exact hr0)))
                    clear HMV
                    go_wp2
                    go_roundw
                    case rel => exact ⟨g + 1, mb, N, f, true, by have := HG.out; omega, by go_num, rfl, rfl, rfl, CN⟩
                    case measure => have := HG.out; simp [intOf]; omega
            · obtain rfl : g = xn := by omega
              have htk : (rowsOf xs).take g = rowsOf xs := List.take_of_length_le (by unfold rowsOf; rw [List.length_map, ← HXN.out]; exact Nat.le_refl _)
              have RP := replay_any (fun _ => True) q.a L q.c q.l wr (HQ2.out.keep CH.out.kept (fun _ _ h => h)) HLL.out.symm (by omega) (rowsOf xs) t HPT.out HTT.out
              have hnl := CH.out.len
              cases bad with
              | true =>
                have hno := CH.out.no rfl
                rw [htk] at hno
                rw [replR_no hno] at RP
                unfold setv at RP
                simp only [List.length_nil] at RP
                have RP := Lib.hid RP
                have KC2 := Lib.hid (KV2.out.step CH.out.kept)
                clear hno htk CH hlg
                go_wp2_with fail
                refine RP.out.mono ?_
                rintro en v3 ⟨A3, a3, rfl, _, k3⟩
                have ka := Kept.alloc noBlock v3 (.cells #[.slice A3 0 a3, .int .i64 0] 26)
                have ha := heap_alloc_new v3 (.cells #[.slice A3 0 a3, .int .i64 0] 26)
                go_upto_region 25 with (fail)
                generalize v3.alloc (.cells #[.slice A3 0 a3, .int .i64 0] 26) = v4 at ka ha ⊢
                obtain ⟨x0, x1⟩ := two_cells ha
                have KZ := Lib.hid (KC2.out.step (k3.step ka))
                clear ka ha k3 RP
                go_wp2
                go_roundw
                case rel => exact ⟨j + 1, by have := HJ.out; omega, by go_num, KZ⟩
                case measure => have := HJ.out; simp [intOf]; omega
              | false =>
                have hyes := CH.out.ok rfl
                rw [htk] at hyes
                rw [replR_ok hyes] at RP
                unfold setv at RP
                simp only at RP
                rw [← HJL.out] at RP
                have RP := Lib.hid RP
                have hjj : ((jl : Int) == (jl : Int)) = true := by simp
                have hjn : ((jl : Int) != (jl : Int)) = false := by simp
                clear hyes htk hlg
                go_wp2_with fail
                refine RP.out.mono ?_
                rintro en v3 ⟨A3, a3, rfl, o3, k3⟩
                have ka := Kept.alloc noBlock v3 (.cells #[.slice A3 N.length a3, .int .i64 f] 26)
                have ha := heap_alloc_new v3 (.cells #[.slice A3 N.length a3, .int .i64 f] 26)
                go_upto_region 25 with (fail)
                obtain ⟨X, hX⟩ : ∃ X, X = v3.heap.size := ⟨_, rfl⟩
                rw [← hX] at ha ⊢
                generalize v3.alloc (.cells #[.slice A3 N.length a3, .int .i64 f] 26) = v4 at ka ha ⊢
                have C4 := Lib.hid (CH.out.keep (k3.step ka))
                have SX : Sw v4 (fun _ => True) N A3 a3 := Sw.of_own (own_keep o3 ka (fun _ _ h => h)) rfl (fun _ _ => trivial)
                have SH := shows_any10 (fun _ => True) mb N f A3 a3 v4 C4.out.tb SX C4.out.good (by omega)
                unfold setv at SH
                have SH := Lib.hid SH
                obtain ⟨x0, x1⟩ := two_cells ha
                clear ka ha k3 o3 SX hX RP CH
                go_wp2_with fail
                refine SH.out.mono ?_
                rintro en v5 ⟨rfl, k5⟩
                have KZ := Lib.hid (KV2.out.step (C4.out.kept.step k5))
                clear k5 SH x0 x1 C4
                go_wp2
                go_roundw
                case rel => exact ⟨j + 1, by have := HJ.out; omega, by go_num, KZ⟩
                case measure => have := HJ.out; simp [intOf]; omega
        · obtain rfl : j = 3 := by omega
          have KZ := Lib.hid (KW.out.step HK.out)
          clear hlj
          go_wp2
          go_ret
          exact ⟨rfl, KZ.out⟩
end Go.Proofs.Ytjijdkdpmbfdmaa
