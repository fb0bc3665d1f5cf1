/-
  The contracts of plan.lastPart and plan.Unneeded. No statement is proved here.
-/
import Derived.Test.YtollmkkbeeeccaaP11Base
import Derived.Test.YtollmkkbeeeccaaP11Srch
import Derived.Deep.QuietTactic
namespace Go.Proofs.Ytollmkkbeeeccaa
open Go.RowKit Tot

theorem Try.infoStrU : (Try.prog.info? 9).map (fun i => (i.zero, i.size, i.bytes)) = some (some (.string ⟨#[]⟩), 1, 16) := by kernel_rfl
theorem zip_take {L : List RefV} {j : Nat} {x : RefV} (hx : L[j]? = some x) : (L.take (j + 1)).zipIdx = (L.take j).zipIdx ++ [(x, j)] := by
  have hj := (List.getElem?_eq_some_iff.1 hx).1
  rw [take_snoc L j x hx, List.zipIdx_append, List.length_take, Nat.min_eq_left (by omega)]
  simp
theorem lastV_step {L : List RefV} {j : Nat} {x : RefV} (hx : L[j]? = some x) : lastV (L.take (j + 1)) = lastS (lastV (L.take j)) (x, j) := by
  unfold lastV
  rw [zip_take hx, List.foldl_append]
  rfl
def plcO (o : Option (Nat × RefV)) : Option Nat := o.map (·.1)
def unnL (lst : Option Nat) (b : Int) (L : List RefV) : List ByteArray := (L.zipIdx.filter (fun x => decide (lst ≠ some x.2) && aheadV x.1 b)).map (·.1.name)
theorem unnV_eq (L : List RefV) (f : Int) : unnV L f = unnL (plcO (lastV L)) (baseV L f) L := rfl
theorem unnL_step {lst : Option Nat} {b : Int} {L : List RefV} {j : Nat} {x : RefV} (hx : L[j]? = some x) : unnL lst b (L.take (j + 1)) = unnL lst b (L.take j) ++ if lst ≠ some j ∧ aheadV x b = true then [x.name] else [] := by
  unfold unnL
  rw [zip_take hx, List.filter_append, List.map_append]
  congr 1
  by_cases h : lst ≠ some j ∧ aheadV x b = true
  · rw [if_pos h, List.filter_cons_of_pos (by simpa using h)]; rfl
  · rw [if_neg h, List.filter_cons_of_neg (by simpa using h)]; rfl

set_option maxRecDepth 100000 in
set_option maxHeartbeats 1000000 in
theorem last_any (F : Nat → Prop) (A : Option Addr) (n c : Nat) (f : Int) (L : List RefV) (w : World) (h : Lies w F A (refCells L)) (hl : L.length = n) (hn : n ≤ 1099511627776) :
    Calls Try.prog 23 #[.agg #[.slice A n c, .int .i64 f]] w fun e w' => e = .returned (.int .i64 (plcI (plcO (lastV L)))) ∧ Kept noBlock w w' := by
  have ka := Kept.alloc noBlock w (.cells #[.slice A n c, .int .i64 f] 27)
  have hb := heap_alloc_new w (.cells #[.slice A n c, .int .i64 f] 27)
  have H := Lib.hid (h.keep ka (fun _ _ h => h))
  have K1 := Lib.hid ka
  obtain ⟨c0, c1⟩ := pair_cells hb
  have HL := Lib.hid hl
  have HB := Lib.hid hb
  clear h hl ka hb
  go_enter Try.func23, Try.ntmps23
  go_upto_region 2 with (fail)
  generalize w.alloc (.cells #[.slice A n c, .int .i64 f] 27) = w1 at H K1 HB c0 c1 ⊢
  go_wp2_with fail
  clear c0 c1
  go_loopw [3, 9] (fun v ix wr => ∃ (j : Nat) (o : Option (Nat × RefV)), j ≤ n ∧ v = .int .i64 (plcI (plcO o)) ∧ ix = .int .i64 (j : Int) ∧ Hid (lastV (L.take j) = o) ∧ Hid (Kept noBlock w1 wr)) (fun _ ix _ => n - (intOf ix).toNat)
  case atStart => exact ⟨0, none, by omega, rfl, rfl, rfl, Kept.refl _ _⟩
  case round =>
    obtain ⟨j, o, hjn, rfl, rfl, HO, HK1⟩ := hrel
    by_cases hlt : j < n
    · obtain ⟨x, hx⟩ : ∃ x, L[j]? = some x := ⟨_, List.getElem?_eq_getElem (by have := HL.out; omega)⟩
      obtain ⟨g, ao, rfl, _, cc⟩ := (H.out.keep HK1.out (fun _ _ h => h)).elem (enc := RefV.cells) ref_len (by omega) hx
      have e0 := cc 0 _ rfl
      have e1 := cc 1 _ rfl
      have e2 := cc 2 _ rfl
      have e3 := cc 3 _ rfl
      rw [Nat.add_zero] at e0
      have ST := Lib.hid (lastV_step hx)
      clear hx cc
      go_upto_region 5 with (fail)
      have k3 := Kept.alloc noBlock wr (.cells #[.string x.name, .int .i64 x.kind, .int .i64 x.from_, .int .i64 x.to_] 37)
      have b3 := heap_alloc_new wr (.cells #[.string x.name, .int .i64 x.kind, .int .i64 x.from_, .int .i64 x.to_] 37)
      obtain ⟨C, hC⟩ : ∃ C, C = wr.heap.size := ⟨_, rfl⟩
      rw [← hC] at b3 ⊢
      generalize wr.alloc (.cells #[.string x.name, .int .i64 x.kind, .int .i64 x.from_, .int .i64 x.to_] 37) = w3 at k3 b3 ⊢
      obtain ⟨d0, d1, d2, d3⟩ := ref_cells b3
      have K3 := Lib.hid (HK1.out.step k3)
      have HB3 := Lib.hid b3
      clear e0 e1 e2 e3 k3 b3 hC
      by_cases hkd : x.kind = 2
      · have hbq : (x.kind == 2) = true := by simpa using hkd
        cases o with
        | none =>
          have HS : Hid (lastV (L.take (j + 1)) = some (j, x)) := by unfold Hid; rw [ST.out, HO.out]; exact if_pos hkd
          unfold plcO plcI
          simp only [Option.map_none]
          clear hkd
          go_quiet (fail)
          have kq := Kept.drewN noBlock w3 nq
          generalize w3.drewN nq = w4 at kq ⊢
          have K4 := Lib.hid (K3.out.step kq)
          clear d0 d1 d2 d3 kq hbq
          go_wp2
          go_roundw
          case rel => exact ⟨j + 1, some (j, x), by omega, rfl, by go_num, HS, K4⟩
          case measure => simp [intOf]; omega
        | some q =>
          obtain ⟨k, y⟩ := q
          have hy := (lastV_at _ _ _ HO.out).1
          have hkj : k < j := by have := (List.getElem?_eq_some_iff.1 hy).1; rw [List.length_take] at this; omega
          rw [List.getElem?_take_of_lt hkj] at hy
          have hkn : k < n := by omega
          have hk0 : ¬ ((k : Int) < 0) := by omega
          have CE : Hid (∀ u, Kept noBlock w3 u → (u.cell? ⟨C, 0, none⟩ = some (.string x.name) ∧ u.cell? ⟨C, 1, none⟩ = some (.int .i64 x.kind) ∧ u.cell? ⟨C, 2, none⟩ = some (.int .i64 x.from_) ∧ u.cell? ⟨C, 3, none⟩ = some (.int .i64 x.to_)) ∧
              (u.cell? ⟨g, ao + k * 4, none⟩ = some (.string y.name) ∧ u.cell? ⟨g, ao + k * 4 + 1, none⟩ = some (.int .i64 y.kind) ∧ u.cell? ⟨g, ao + k * 4 + 2, none⟩ = some (.int .i64 y.from_) ∧ u.cell? ⟨g, ao + k * 4 + 3, none⟩ = some (.int .i64 y.to_)) ∧ u.cell? ⟨w.heap.size, 0, none⟩ = some (.slice (some ⟨g, ao, none⟩) n c)) := fun u ku => by
            refine ⟨ref_cells (ku.blk HB3.out (fun h => h)), ?_, (pair_cells ((K3.out.step ku).blk HB.out (fun h => h))).1⟩
            obtain ⟨g', o', e, hg', cc⟩ := (H.out.keep (K3.out.step ku) (fun _ _ h => h)).elem (enc := RefV.cells) ref_len (by omega) hy
            injection e with e
            injection e with e1 e2
            subst e1; subst e2
            exact ⟨cc 0 _ rfl, cc 1 _ rfl, cc 2 _ rfl, cc 3 _ rfl⟩
          have KC : Hid (Kept noBlock w3 w3.drew) := Kept.drew _ _
          have CM := Lib.hid (fun u => cmp_any x y u)
          obtain ⟨z, hz⟩ : ∃ z, z = cmpR x y := ⟨_, rfl⟩
          have HS : Hid (lastV (L.take (j + 1)) = if 0 ≤ z then some (j, x) else some (k, y)) := by
            unfold Hid
            rw [ST.out, HO.out, hz]
            unfold lastS
            simp only
            rw [if_pos hkd]
            by_cases h0 : 0 ≤ cmpR x y
            · rw [if_pos h0, (cmpR_ge x y).1 h0]; simp
            · rw [if_neg h0]
              cases hlt : ltR x y with
              | true => simp
              | false => exact absurd ((cmpR_ge x y).2 hlt) h0
          rw [← hz] at CM
          unfold RefV.val at CM
          unfold plcO plcI
          simp only [Option.map_some]
          clear hkd hy hz
          by_cases hz0 : 0 ≤ z
          · skip
            rw [if_pos hz0] at HS
            refine wp_region_noPanic ?_
            refine wp_region_held_drew (S := fun u => (u.cell? ⟨C, 0, none⟩ = some (.string x.name) ∧ u.cell? ⟨C, 1, none⟩ = some (.int .i64 x.kind) ∧ u.cell? ⟨C, 2, none⟩ = some (.int .i64 x.from_) ∧ u.cell? ⟨C, 3, none⟩ = some (.int .i64 x.to_)) ∧ (u.cell? ⟨g, ao + k * 4, none⟩ = some (.string y.name) ∧ u.cell? ⟨g, ao + k * 4 + 1, none⟩ = some (.int .i64 y.kind) ∧ u.cell? ⟨g, ao + k * 4 + 2, none⟩ = some (.int .i64 y.from_) ∧ u.cell? ⟨g, ao + k * 4 + 3, none⟩ = some (.int .i64 y.to_)) ∧ u.cell? ⟨w.heap.size, 0, none⟩ = some (.slice (some ⟨g, ao, none⟩) n c)) (by kernel_rfl) (CE.out _ KC.out) (fun hHeld => ?_)
            refine wpAnyH_take (i := 0) (oi := ⟨some 14, Op.fieldAddr 37 (Operand.tmp 5) 1, 0, _, _, none⟩) (v := ?v0n1k1) rfl (by kernel_rfl) (by kernel_rfl) (by kernel_rfl) (fun _ _ _ h => h) (Or.inl ⟨by rfl, ?y0n1k1⟩) hHeld ?z0n1k1
            case y0n1k1 => intro w hSw; (try dsimp only at hSw); go_simp <;> rfl
            try simp only [Act.put, List.setIfInBounds_toArray, List.set_cons_zero, List.set_cons_succ]
            refine wpAnyH_take (i := 1) (oi := ⟨some 15, Op.load 35 (Operand.tmp 14), 35, _, _, none⟩) (v := ?v1n1k2) rfl (by kernel_rfl) (by kernel_rfl) (by kernel_rfl) (fun _ _ _ h => h) (Or.inl ⟨by rfl, ?y1n1k2⟩) hHeld ?z1n1k2
            case y1n1k2 => intro w hSw; (try dsimp only at hSw); go_simp <;> rfl
            try simp only [Act.put, List.setIfInBounds_toArray, List.set_cons_zero, List.set_cons_succ]
            refine wpAnyH_take (i := 2) (oi := ⟨some 16, Op.binOp BinOp.eql 35 (Operand.tmp 15) (Operand.const (Value.int IntKind.i64 2)) 35, 4, _, _, none⟩) (v := ?v2n1k3) rfl (by kernel_rfl) (by kernel_rfl) (by kernel_rfl) (fun _ _ _ h => h) (Or.inl ⟨by rfl, ?y2n1k3⟩) hHeld ?z2n1k3
            case y2n1k3 => intro w hSw; (try dsimp only at hSw); go_simp <;> rfl
            try simp only [Act.put, List.setIfInBounds_toArray, List.set_cons_zero, List.set_cons_succ]
            refine wpAnyH_take (i := 3) (oi := ⟨some 17, Op.move (Operand.tmp 16), 4, _, _, none⟩) (v := ?v3n1k4) rfl (by kernel_rfl) (by kernel_rfl) (by kernel_rfl) (fun _ _ _ h => h) (Or.inl ⟨by rfl, ?y3n1k4⟩) hHeld ?z3n1k4
            case y3n1k4 => intro w hSw; (try dsimp only at hSw); go_simp <;> rfl
            try simp only [Act.put, List.setIfInBounds_toArray, List.set_cons_zero, List.set_cons_succ]
            refine wpAnyH_take (i := 4) (oi := ⟨some 18, Op.move (Operand.tmp 3), 3, _, _, some (3, true)⟩) (v := ?v4n1k5) rfl (by kernel_rfl) (by kernel_rfl) (by kernel_rfl) (fun _ _ _ h => h) (Or.inl ⟨by rfl, ?y4n1k5⟩) hHeld ?z4n1k5
            case y4n1k5 => intro w hSw; (try dsimp only at hSw); go_simp <;> rfl
            try simp only [Act.put, List.setIfInBounds_toArray, List.set_cons_zero, List.set_cons_succ]
            refine wpAnyH_take (i := 5) (oi := ⟨some 19, Op.binOp BinOp.lss 3 (Operand.tmp 18) (Operand.const (Value.int IntKind.i64 0)) 3, 4, _, _, some (3, true)⟩) (v := ?v5n1k6) rfl (by kernel_rfl) (by kernel_rfl) (by kernel_rfl) (fun _ _ _ h => h) (Or.inl ⟨by rfl, ?y5n1k6⟩) hHeld ?z5n1k6
            case y5n1k6 => intro w hSw; (try dsimp only at hSw); go_simp <;> rfl
            try simp only [Act.put, List.setIfInBounds_toArray, List.set_cons_zero, List.set_cons_succ]
            refine wpAnyH_take (i := 6) (oi := ⟨some 20, Op.move (Operand.tmp 19), 4, _, _, some (3, true)⟩) (v := ?v6n1k7) rfl (by kernel_rfl) (by kernel_rfl) (by kernel_rfl) (fun _ _ _ h => h) (Or.inl ⟨by rfl, ?y6n1k7⟩) hHeld ?z6n1k7
            case y6n1k7 => intro w hSw; (try dsimp only at hSw); go_simp <;> rfl
            try simp only [Act.put, List.setIfInBounds_toArray, List.set_cons_zero, List.set_cons_succ]
            refine wpAnyH_take (i := 7) (oi := ⟨some 21, Op.load 37 (Operand.tmp 5), 37, _, _, some (6, false)⟩) (v := ?v7n1k8) rfl (by kernel_rfl) (by kernel_rfl) (by kernel_rfl) (fun _ _ _ h => h) (Or.inl ⟨by rfl, ?y7n1k8⟩) hHeld ?z7n1k8
            case y7n1k8 => intro w hSw; (try dsimp only at hSw); go_simp <;> rfl
            try simp only [Act.put, List.setIfInBounds_toArray, List.set_cons_zero, List.set_cons_succ]
            refine wpAnyH_take (i := 8) (oi := ⟨some 22, Op.fieldAddr 27 (Operand.tmp 1) 0, 0, _, _, some (6, false)⟩) (v := ?v8n1k9) rfl (by kernel_rfl) (by kernel_rfl) (by kernel_rfl) (fun _ _ _ h => h) (Or.inl ⟨by rfl, ?y8n1k9⟩) hHeld ?z8n1k9
            case y8n1k9 => intro w hSw; (try dsimp only at hSw); go_simp <;> rfl
            try simp only [Act.put, List.setIfInBounds_toArray, List.set_cons_zero, List.set_cons_succ]
            refine wpAnyH_take (i := 9) (oi := ⟨some 23, Op.load 25 (Operand.tmp 22), 25, _, _, some (6, false)⟩) (v := ?v9n1k10) rfl (by kernel_rfl) (by kernel_rfl) (by kernel_rfl) (fun _ _ _ h => h) (Or.inl ⟨by rfl, ?y9n1k10⟩) hHeld ?z9n1k10
            case y9n1k10 => intro w hSw; (try dsimp only at hSw); go_simp <;> rfl
            try simp only [Act.put, List.setIfInBounds_toArray, List.set_cons_zero, List.set_cons_succ]
            refine wpAnyH_take (i := 10) (oi := ⟨some 24, Op.move (Operand.tmp 3), 3, _, _, some (6, false)⟩) (v := ?v10n1k11) rfl (by kernel_rfl) (by kernel_rfl) (by kernel_rfl) (fun _ _ _ h => h) (Or.inl ⟨by rfl, ?y10n1k11⟩) hHeld ?z10n1k11
            case y10n1k11 => intro w hSw; (try dsimp only at hSw); go_simp <;> rfl
            try simp only [Act.put, List.setIfInBounds_toArray, List.set_cons_zero, List.set_cons_succ]
            refine wpAnyH_take (i := 11) (oi := ⟨some 25, Op.indexAddr 25 (Operand.tmp 23) (Operand.tmp 24), 0, _, _, some (6, false)⟩) (v := ?v11n1k12) rfl (by kernel_rfl) (by kernel_rfl) (by kernel_rfl) (fun _ _ _ h => h) (Or.inl ⟨by rfl, ?y11n1k12⟩) hHeld ?z11n1k12
            case y11n1k12 => intro w hSw; (try dsimp only at hSw); go_simp <;> rfl
            try simp only [Act.put, List.setIfInBounds_toArray, List.set_cons_zero, List.set_cons_succ]
            refine wpAnyH_take (i := 12) (oi := ⟨some 26, Op.load 37 (Operand.tmp 25), 37, _, _, some (6, false)⟩) (v := ?v12n1k13) rfl (by kernel_rfl) (by kernel_rfl) (by kernel_rfl) (fun _ _ _ h => h) (Or.inl ⟨by rfl, ?y12n1k13⟩) hHeld ?z12n1k13
            case y12n1k13 => intro w hSw; (try dsimp only at hSw); go_simp <;> rfl
            try simp only [Act.put, List.setIfInBounds_toArray, List.set_cons_zero, List.set_cons_succ]
            refine wpAnyH_ready (rs := [13]) (by kernel_rfl) (by simp) ?_
            refine AllReadyH.cons (o := ⟨some 27, Op.call { callee := Callee.value (Operand.func 31), args := #[Operand.tmp 21, Operand.tmp 26], argTypes := #[37, 37] }, 3, _, _, some (6, false)⟩) rfl (fun K hK => ?_) AllReadyH.nil
            go_simp
            refine (CM.out _).mono ?_
            rintro en u2 ⟨rfl, k2⟩
            replace KC := Lib.hid (KC.out.step k2.kept)
            clear k2
            refine hK.out _ _ (CE.out _ KC.out) (fun hHeld => ?_)
            clear hK K
            try simp only [Act.put, List.setIfInBounds_toArray, List.set_cons_zero, List.set_cons_succ]
            refine wpAnyH_take (i := 14) (oi := ⟨some 28, Op.binOp BinOp.geq 3 (Operand.tmp 27) (Operand.const (Value.int IntKind.i64 0)) 3, 4, _, _, some (6, false)⟩) (v := ?v14n1k14) rfl (by kernel_rfl) (by kernel_rfl) (by kernel_rfl) (fun _ _ _ h => h) (Or.inl ⟨by rfl, ?y14n1k14⟩) hHeld ?z14n1k14
            case y14n1k14 => intro w hSw; (try dsimp only at hSw); go_simp <;> rfl
            try simp only [Act.put, List.setIfInBounds_toArray, List.set_cons_zero, List.set_cons_succ]
            refine wpAnyH_take (i := 15) (oi := ⟨some 29, Op.pick (Operand.tmp 20) (Operand.const (Value.bool true)) (Operand.tmp 28), 4, _, _, some (3, true)⟩) (v := ?v15n1k15) rfl (by kernel_rfl) (by kernel_rfl) (by kernel_rfl) (fun _ _ _ h => h) (Or.inl ⟨by rfl, ?y15n1k15⟩) hHeld ?z15n1k15
            case y15n1k15 => intro w hSw; (try dsimp only at hSw); go_simp <;> rfl
            try simp only [Act.put, List.setIfInBounds_toArray, List.set_cons_zero, List.set_cons_succ]
            refine wpAnyH_take (i := 16) (oi := ⟨some 30, Op.pick (Operand.tmp 17) (Operand.tmp 29) (Operand.const (Value.bool false)), 4, _, _, none⟩) (v := ?v16n1k16) rfl (by kernel_rfl) (by kernel_rfl) (by kernel_rfl) (fun _ _ _ h => h) (Or.inl ⟨by rfl, ?y16n1k16⟩) hHeld ?z16n1k16
            case y16n1k16 => intro w hSw; (try dsimp only at hSw); go_simp <;> rfl
            try simp only [Act.put, List.setIfInBounds_toArray, List.set_cons_zero, List.set_cons_succ]
            refine wpAnyH_done (by kernel_rfl) ?_ _
            refine NoPanic.normal ?_
            clear hHeld
            have K4 := Lib.hid (K3.out.step KC.out)
            go_wp2
            go_roundw
            case rel => exact ⟨j + 1, some (j, x), by omega, rfl, by go_num, HS, K4⟩
            case measure => simp [intOf]; omega
          · skip
            rw [if_neg hz0] at HS
            refine wp_region_noPanic ?_
            refine wp_region_held_drew (S := fun u => (u.cell? ⟨C, 0, none⟩ = some (.string x.name) ∧ u.cell? ⟨C, 1, none⟩ = some (.int .i64 x.kind) ∧ u.cell? ⟨C, 2, none⟩ = some (.int .i64 x.from_) ∧ u.cell? ⟨C, 3, none⟩ = some (.int .i64 x.to_)) ∧ (u.cell? ⟨g, ao + k * 4, none⟩ = some (.string y.name) ∧ u.cell? ⟨g, ao + k * 4 + 1, none⟩ = some (.int .i64 y.kind) ∧ u.cell? ⟨g, ao + k * 4 + 2, none⟩ = some (.int .i64 y.from_) ∧ u.cell? ⟨g, ao + k * 4 + 3, none⟩ = some (.int .i64 y.to_)) ∧ u.cell? ⟨w.heap.size, 0, none⟩ = some (.slice (some ⟨g, ao, none⟩) n c)) (by kernel_rfl) (CE.out _ KC.out) (fun hHeld => ?_)
            refine wpAnyH_take (i := 0) (oi := ⟨some 14, Op.fieldAddr 37 (Operand.tmp 5) 1, 0, _, _, none⟩) (v := ?v0n2k1) rfl (by kernel_rfl) (by kernel_rfl) (by kernel_rfl) (fun _ _ _ h => h) (Or.inl ⟨by rfl, ?y0n2k1⟩) hHeld ?z0n2k1
            case y0n2k1 => intro w hSw; (try dsimp only at hSw); go_simp <;> rfl
            try simp only [Act.put, List.setIfInBounds_toArray, List.set_cons_zero, List.set_cons_succ]
            refine wpAnyH_take (i := 1) (oi := ⟨some 15, Op.load 35 (Operand.tmp 14), 35, _, _, none⟩) (v := ?v1n2k2) rfl (by kernel_rfl) (by kernel_rfl) (by kernel_rfl) (fun _ _ _ h => h) (Or.inl ⟨by rfl, ?y1n2k2⟩) hHeld ?z1n2k2
            case y1n2k2 => intro w hSw; (try dsimp only at hSw); go_simp <;> rfl
            try simp only [Act.put, List.setIfInBounds_toArray, List.set_cons_zero, List.set_cons_succ]
            refine wpAnyH_take (i := 2) (oi := ⟨some 16, Op.binOp BinOp.eql 35 (Operand.tmp 15) (Operand.const (Value.int IntKind.i64 2)) 35, 4, _, _, none⟩) (v := ?v2n2k3) rfl (by kernel_rfl) (by kernel_rfl) (by kernel_rfl) (fun _ _ _ h => h) (Or.inl ⟨by rfl, ?y2n2k3⟩) hHeld ?z2n2k3
            case y2n2k3 => intro w hSw; (try dsimp only at hSw); go_simp <;> rfl
            try simp only [Act.put, List.setIfInBounds_toArray, List.set_cons_zero, List.set_cons_succ]
            refine wpAnyH_take (i := 3) (oi := ⟨some 17, Op.move (Operand.tmp 16), 4, _, _, none⟩) (v := ?v3n2k4) rfl (by kernel_rfl) (by kernel_rfl) (by kernel_rfl) (fun _ _ _ h => h) (Or.inl ⟨by rfl, ?y3n2k4⟩) hHeld ?z3n2k4
            case y3n2k4 => intro w hSw; (try dsimp only at hSw); go_simp <;> rfl
            try simp only [Act.put, List.setIfInBounds_toArray, List.set_cons_zero, List.set_cons_succ]
            refine wpAnyH_take (i := 4) (oi := ⟨some 18, Op.move (Operand.tmp 3), 3, _, _, some (3, true)⟩) (v := ?v4n2k5) rfl (by kernel_rfl) (by kernel_rfl) (by kernel_rfl) (fun _ _ _ h => h) (Or.inl ⟨by rfl, ?y4n2k5⟩) hHeld ?z4n2k5
            case y4n2k5 => intro w hSw; (try dsimp only at hSw); go_simp <;> rfl
            try simp only [Act.put, List.setIfInBounds_toArray, List.set_cons_zero, List.set_cons_succ]
            refine wpAnyH_take (i := 5) (oi := ⟨some 19, Op.binOp BinOp.lss 3 (Operand.tmp 18) (Operand.const (Value.int IntKind.i64 0)) 3, 4, _, _, some (3, true)⟩) (v := ?v5n2k6) rfl (by kernel_rfl) (by kernel_rfl) (by kernel_rfl) (fun _ _ _ h => h) (Or.inl ⟨by rfl, ?y5n2k6⟩) hHeld ?z5n2k6
            case y5n2k6 => intro w hSw; (try dsimp only at hSw); go_simp <;> rfl
            try simp only [Act.put, List.setIfInBounds_toArray, List.set_cons_zero, List.set_cons_succ]
            refine wpAnyH_take (i := 6) (oi := ⟨some 20, Op.move (Operand.tmp 19), 4, _, _, some (3, true)⟩) (v := ?v6n2k7) rfl (by kernel_rfl) (by kernel_rfl) (by kernel_rfl) (fun _ _ _ h => h) (Or.inl ⟨by rfl, ?y6n2k7⟩) hHeld ?z6n2k7
            case y6n2k7 => intro w hSw; (try dsimp only at hSw); go_simp <;> rfl
            try simp only [Act.put, List.setIfInBounds_toArray, List.set_cons_zero, List.set_cons_succ]
            refine wpAnyH_take (i := 7) (oi := ⟨some 21, Op.load 37 (Operand.tmp 5), 37, _, _, some (6, false)⟩) (v := ?v7n2k8) rfl (by kernel_rfl) (by kernel_rfl) (by kernel_rfl) (fun _ _ _ h => h) (Or.inl ⟨by rfl, ?y7n2k8⟩) hHeld ?z7n2k8
            case y7n2k8 => intro w hSw; (try dsimp only at hSw); go_simp <;> rfl
            try simp only [Act.put, List.setIfInBounds_toArray, List.set_cons_zero, List.set_cons_succ]
            refine wpAnyH_take (i := 8) (oi := ⟨some 22, Op.fieldAddr 27 (Operand.tmp 1) 0, 0, _, _, some (6, false)⟩) (v := ?v8n2k9) rfl (by kernel_rfl) (by kernel_rfl) (by kernel_rfl) (fun _ _ _ h => h) (Or.inl ⟨by rfl, ?y8n2k9⟩) hHeld ?z8n2k9
            case y8n2k9 => intro w hSw; (try dsimp only at hSw); go_simp <;> rfl
            try simp only [Act.put, List.setIfInBounds_toArray, List.set_cons_zero, List.set_cons_succ]
            refine wpAnyH_take (i := 9) (oi := ⟨some 23, Op.load 25 (Operand.tmp 22), 25, _, _, some (6, false)⟩) (v := ?v9n2k10) rfl (by kernel_rfl) (by kernel_rfl) (by kernel_rfl) (fun _ _ _ h => h) (Or.inl ⟨by rfl, ?y9n2k10⟩) hHeld ?z9n2k10
            case y9n2k10 => intro w hSw; (try dsimp only at hSw); go_simp <;> rfl
            try simp only [Act.put, List.setIfInBounds_toArray, List.set_cons_zero, List.set_cons_succ]
            refine wpAnyH_take (i := 10) (oi := ⟨some 24, Op.move (Operand.tmp 3), 3, _, _, some (6, false)⟩) (v := ?v10n2k11) rfl (by kernel_rfl) (by kernel_rfl) (by kernel_rfl) (fun _ _ _ h => h) (Or.inl ⟨by rfl, ?y10n2k11⟩) hHeld ?z10n2k11
            case y10n2k11 => intro w hSw; (try dsimp only at hSw); go_simp <;> rfl
            try simp only [Act.put, List.setIfInBounds_toArray, List.set_cons_zero, List.set_cons_succ]
            refine wpAnyH_take (i := 11) (oi := ⟨some 25, Op.indexAddr 25 (Operand.tmp 23) (Operand.tmp 24), 0, _, _, some (6, false)⟩) (v := ?v11n2k12) rfl (by kernel_rfl) (by kernel_rfl) (by kernel_rfl) (fun _ _ _ h => h) (Or.inl ⟨by rfl, ?y11n2k12⟩) hHeld ?z11n2k12
            case y11n2k12 => intro w hSw; (try dsimp only at hSw); go_simp <;> rfl
            try simp only [Act.put, List.setIfInBounds_toArray, List.set_cons_zero, List.set_cons_succ]
            refine wpAnyH_take (i := 12) (oi := ⟨some 26, Op.load 37 (Operand.tmp 25), 37, _, _, some (6, false)⟩) (v := ?v12n2k13) rfl (by kernel_rfl) (by kernel_rfl) (by kernel_rfl) (fun _ _ _ h => h) (Or.inl ⟨by rfl, ?y12n2k13⟩) hHeld ?z12n2k13
            case y12n2k13 => intro w hSw; (try dsimp only at hSw); go_simp <;> rfl
            try simp only [Act.put, List.setIfInBounds_toArray, List.set_cons_zero, List.set_cons_succ]
            refine wpAnyH_ready (rs := [13]) (by kernel_rfl) (by simp) ?_
            refine AllReadyH.cons (o := ⟨some 27, Op.call { callee := Callee.value (Operand.func 31), args := #[Operand.tmp 21, Operand.tmp 26], argTypes := #[37, 37] }, 3, _, _, some (6, false)⟩) rfl (fun K hK => ?_) AllReadyH.nil
            go_simp
            refine (CM.out _).mono ?_
            rintro en u2 ⟨rfl, k2⟩
            replace KC := Lib.hid (KC.out.step k2.kept)
            clear k2
            refine hK.out _ _ (CE.out _ KC.out) (fun hHeld => ?_)
            clear hK K
            try simp only [Act.put, List.setIfInBounds_toArray, List.set_cons_zero, List.set_cons_succ]
            refine wpAnyH_take (i := 14) (oi := ⟨some 28, Op.binOp BinOp.geq 3 (Operand.tmp 27) (Operand.const (Value.int IntKind.i64 0)) 3, 4, _, _, some (6, false)⟩) (v := ?v14n2k14) rfl (by kernel_rfl) (by kernel_rfl) (by kernel_rfl) (fun _ _ _ h => h) (Or.inl ⟨by rfl, ?y14n2k14⟩) hHeld ?z14n2k14
            case y14n2k14 => intro w hSw; (try dsimp only at hSw); go_simp <;> rfl
            try simp only [Act.put, List.setIfInBounds_toArray, List.set_cons_zero, List.set_cons_succ]
            refine wpAnyH_take (i := 15) (oi := ⟨some 29, Op.pick (Operand.tmp 20) (Operand.const (Value.bool true)) (Operand.tmp 28), 4, _, _, some (3, true)⟩) (v := ?v15n2k15) rfl (by kernel_rfl) (by kernel_rfl) (by kernel_rfl) (fun _ _ _ h => h) (Or.inl ⟨by rfl, ?y15n2k15⟩) hHeld ?z15n2k15
            case y15n2k15 => intro w hSw; (try dsimp only at hSw); go_simp <;> rfl
            try simp only [Act.put, List.setIfInBounds_toArray, List.set_cons_zero, List.set_cons_succ]
            refine wpAnyH_take (i := 16) (oi := ⟨some 30, Op.pick (Operand.tmp 17) (Operand.tmp 29) (Operand.const (Value.bool false)), 4, _, _, none⟩) (v := ?v16n2k16) rfl (by kernel_rfl) (by kernel_rfl) (by kernel_rfl) (fun _ _ _ h => h) (Or.inl ⟨by rfl, ?y16n2k16⟩) hHeld ?z16n2k16
            case y16n2k16 => intro w hSw; (try dsimp only at hSw); go_simp <;> rfl
            try simp only [Act.put, List.setIfInBounds_toArray, List.set_cons_zero, List.set_cons_succ]
            refine wpAnyH_done (by kernel_rfl) ?_ _
            refine NoPanic.normal ?_
            clear hHeld
            have K4 := Lib.hid (K3.out.step KC.out)
            go_wp2
            go_roundw
            case rel => exact ⟨j + 1, some (k, y), by omega, rfl, by go_num, HS, K4⟩
            case measure => simp [intOf]; omega
      · have hbq : (x.kind == 2) = false := by simpa using hkd
        have HS : Hid (lastV (L.take (j + 1)) = o) := by unfold Hid; rw [ST.out, HO.out]; exact if_neg hkd
        clear hkd
        go_quiet (fail)
        have kq := Kept.drewN noBlock w3 nq
        generalize w3.drewN nq = w4 at kq ⊢
        have K4 := Lib.hid (K3.out.step kq)
        clear d0 d1 d2 d3 kq hbq
        go_wp2
        go_roundw
        case rel => exact ⟨j + 1, o, by omega, rfl, by go_num, HS, K4⟩
        case measure => simp [intOf]; omega
    · obtain rfl : j = n := by omega
      have htk : L.take j = L := List.take_of_length_le (by have := HL.out; omega)
      rw [htk] at HO
      clear htk
      go_wp2
      go_ret
      rw [HO.out]
      exact ⟨rfl, K1.out.step HK1.out⟩
end Go.Proofs.Ytollmkkbeeeccaa
