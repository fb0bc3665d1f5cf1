/-
  The contract of edits' (list).do. No statement is proved here.
-/
import Derived.Test.YtollmkkbeeeccaaE10Of
namespace Go.Proofs.Ytollmkkbeeeccaa
open Go.RowKit Tot

/-- An edit as a value. -/
def evl (e : EditV) (A : Option Addr) (c : Nat) (D : Option Addr) (b : Nat) : Value := .agg #[.slice A e.add.length c, .slice D e.drop.length b, .int .i64 e.floor]
/-- Its rows lie in blocks of F. -/
structure Ev (w : World) (F : Nat → Prop) (e : EditV) (A : Option Addr) (c : Nat) (D : Option Addr) (b : Nat) : Prop where
  la : Lies w F A (refCells e.add)
  ld : Lies w F D (e.drop.map Value.string)
  ca : e.add.length ≤ c
  cb : e.drop.length ≤ b
section
variable {S F G : Nat → Prop} {w w' : World} {e : EditV} {A D : Option Addr} {b c : Nat}
theorem Ev.keep (h : Ev w F e A c D b) (k : Kept S w w') (hd : ∀ i, F i → ¬ S i) : Ev w' F e A c D b := ⟨h.la.keep k hd, h.ld.keep k hd, h.ca, h.cb⟩
theorem Ev.kept (h : Ev w F e A c D b) (k : Kept noBlock w w') : Ev w' F e A c D b := h.keep k (fun _ _ h => h)
theorem Ev.mono (h : Ev w F e A c D b) (hG : ∀ i, F i → G i) : Ev w G e A c D b := ⟨h.la.mono hG, h.ld.mono hG, h.ca, h.cb⟩
theorem Ev.lt (h : Ev w F e A c D b) : Ev w (fun i => i < w.heap.size) e A c D b := ⟨h.la.lt, h.ld.lt, h.ca, h.cb⟩
theorem ed_cells {R : Nat} {x0 x1 x2 : Value} {t : TypeId} {fr : Nat × Nat} (h : w.heap[R]? = some (.cells #[x0, x1, x2] t fr)) :
    w.cell? ⟨R, 0, none⟩ = some x0 ∧ w.cell? ⟨R, 1, none⟩ = some x1 ∧ w.cell? ⟨R, 2, none⟩ = some x2 :=
  ⟨cell_of_row _ _ _ _ _ _ h, cell_of_row _ _ _ _ _ _ h, cell_of_row _ _ _ _ _ _ h⟩
end
/-- How the names that go, and the files that come, are taken one by one. -/
theorem dropV_step {N : Fls} {l : List ByteArray} {k : Nat} {x : ByteArray} (hx : l[k]? = some x) : dropV N (l.drop k) = if Srt.has N x = true then dropV (Srt.del N x) (l.drop (k + 1)) else none := by
  obtain ⟨hk, e⟩ := List.getElem?_eq_some_iff.1 hx
  rw [List.drop_eq_getElem_cons hk, e]
  rfl
theorem addV_step {N : Fls} {l : List RefV} {k : Nat} {x : RefV} (hx : l[k]? = some x) : addV N (l.drop k) = if ¬ x.May then (N, 14) else if Srt.has N x.name = true then (N, 5) else addV (Srt.put N x.name x) (l.drop (k + 1)) := by
  obtain ⟨hk, e⟩ := List.getElem?_eq_some_iff.1 hx
  rw [List.drop_eq_getElem_cons hk, e]
  rfl

set_option maxRecDepth 100000 in
set_option maxHeartbeats 1000000 in
theorem ldo_any (F : Nat → Prop) (e : EditV) (A : Option Addr) (c : Nat) (D : Option Addr) (b : Nat) (d m : Nat) (N : Fls) (f : Int) (B : Nat) (w : World) (h : Ls w d m N f B) (hu : Srt.Up N) (hv : Ev w F e A c D b) (hF : ∀ i, F i → i ≠ d ∧ i ≠ m)
    (hB : B + e.add.length ≤ 9000000000000000000) (hD : e.drop.length ≤ 9000000000000000000) (hk : ∀ k ∈ e.drop, k.size ≤ maxLen) :
    Calls Try.prog 26 #[.pointer (some ⟨d, 0, none⟩), evl e A c D b] w fun en w' => en = .returned (.int .i64 (doE N f e).2) ∧ Kept (fun i => i = d ∨ i = m) w w' ∧
      ((doE N f e).2 = 0 → Ls w' d m (doE N f e).1 e.floor (B + e.add.length)) := by
  have k1 : Kept noBlock w (w.alloc (.cells #[.slice A e.add.length c, .slice D e.drop.length b, .int .i64 e.floor] 50)) := Kept.alloc _ _ _
  have h1 : (w.alloc (.cells #[.slice A e.add.length c, .slice D e.drop.length b, .int .i64 e.floor] 50)).heap[w.heap.size]? = some (.cells #[.slice A e.add.length c, .slice D e.drop.length b, .int .i64 e.floor] 50 (0, 0)) := heap_alloc_new w _
  obtain ⟨E, hE⟩ : ∃ E, E = w.heap.size := ⟨_, rfl⟩
  have hdlt := lt_of_blk h.blk
  have hmlt := h.rows.lt
  have hmd := h.ne
  unfold evl
  obtain ⟨na, hna⟩ : ∃ n, n = e.add.length := ⟨_, rfl⟩
  obtain ⟨nd, hnd⟩ : ∃ n, n = e.drop.length := ⟨_, rfl⟩
  have hca := hv.ca
  have hcb := hv.cb
  rw [← hna, ← hnd] at h1
  rw [← hna, ← hnd] at k1
  rw [← hna] at hB hca ⊢
  rw [← hnd] at hcb hD ⊢
  have HV := Lib.hid hv
  have HF := Lib.hid hF
  have HK := Lib.hid hk
  have HNA := Lib.hid hna
  have HND := Lib.hid hnd
  have HU := Lib.hid hu
  have HLS := Lib.hid h
  clear hv hF hk hna hnd hu h
  obtain ⟨fl, hfl⟩ : ∃ fl, fl = e.floor := ⟨_, rfl⟩
  rw [← hfl] at h1 k1 ⊢
  have HFL := Lib.hid hfl
  clear hfl
  go_enter Try.func26, Try.ntmps26
  go_upto_region 1 with (fail)
  rw [← hE] at h1 ⊢
  generalize w.alloc (.cells #[.slice A na c, .slice D nd b, .int .i64 fl] 50) = w1 at h1 k1 ⊢
  have HE1 := Lib.hid h1
  have K1 := Lib.hid k1
  have HES := Lib.hid hE
  have L1 := Lib.hid (HLS.out.keep k1)
  have V1 := Lib.hid (HV.out.kept k1)
  have HX : Hid (E ≠ d ∧ E ≠ m) := ⟨by omega, by omega⟩
  obtain ⟨c0, c1, c2⟩ := ed_cells h1
  clear h1 k1 hE HLS HV hdlt hmlt
  go_wp2_with fail
  go_loopw [12] (fun i wr => ∃ (k : Nat) (N' : Fls), k ≤ nd ∧ i = .int .i64 (k : Int) ∧ Hid (dropV N e.drop = dropV N' (e.drop.drop k)) ∧ Hid (Srt.Up N') ∧ Hid (Ls wr d m N' f B) ∧ Hid (Kept (fun i => i = d ∨ i = m) w1 wr)) (fun i _ => nd - (intOf i).toNat)
  case atStart => exact ⟨0, N, by omega, rfl, rfl, HU, L1, Kept.refl _ _⟩
  case round =>
    obtain ⟨k, N', hkn, rfl, HD, HU', HL, HKR⟩ := hrel
    by_cases hlt : k < nd
    · obtain ⟨x, hx⟩ : ∃ x, e.drop[k]? = some x := ⟨_, List.getElem?_eq_getElem (by have := HND.out; omega)⟩
      have hxs : (e.drop.map Value.string)[k]? = some (.string x) := by rw [List.getElem?_map, hx]; rfl
      obtain ⟨ad, rfl, _, hcell⟩ := (V1.out.ld.keep HKR.out (fun i hi hh => by have := HF.out i hi; omega)).at_ hxs
      have hsz := HK.out x (List.mem_of_getElem? hx)
      have hstep := dropV_step (N := N') hx
      have d0 : wr.cell? ⟨d, 0, none⟩ = some (.map (some m)) := cell_of_row _ _ _ _ _ _ HL.out.blk
      obtain ⟨v, hsl, hlook⟩ := HL.out.rows.look x hsz
      have hlk := hlook wr (Kept.refl _ _)
      have HST := Lib.hid hstep
      have HSL := Lib.hid hsl
      have HLK := Lib.hid hlook
      have HXX := Lib.hid hx
      have HSZ := Lib.hid hsz
      clear hx hxs hstep hlook hsz
      cases hl : Srt.look N' x with
      | none =>
        have h0 : v.2.1 = 0 := by have := hsl.len; rw [hl] at this; exact this
        have hans : (doE N f e).2 = 6 := by
          unfold doE
          rw [HD.out, HST.out, if_neg (by rw [(Srt.has_false _ _).2 hl]; simp)]
        have HANS := Lib.hid hans
        clear hans hl hsl
        rw [h0] at hlk
        go_wp2
        go_ret
        rw [HANS.out]
        exact ⟨rfl, (K1.out.to).step HKR.out, fun h => by cases h⟩
      | some r =>
        have h1 : v.2.1 = 1 := by have := hsl.len; rw [hl] at this; exact this
        obtain ⟨va, vn, vc⟩ := v
        simp only at h1
        subst h1
        rw [hl] at HSL
        have HHAS : Hid (Srt.has N' x = true) := (Srt.has_iff N' x).2 ⟨r, hl⟩
        obtain ⟨g, o, hva, _, _⟩ := HSL.out.lies.norm (by simp [vCells, RefV.cells])
        have hva' : va = some (g, o) := by
          cases va with
          | none => simp [SlV.addr] at hva
          | some q => simp [SlV.addr] at hva; rw [← hva.1, ← hva.2]
        subst hva'
        have hlk1 : ∀ u, Kept noBlock wr u → (Instr.lookup 73 (.map (some m)) (.string x) false).run Try.prog u = .ok (.slice (some ⟨g, o, none⟩) 1 vc) u := fun u k => HLK.out u k
        have hcap : 1 ≤ vc := HSL.out.cap
        replace HLK := Lib.hid hlk1
        clear hl hsl hva hlk hlk1
        have hlk := HLK.out wr (Kept.refl _ _)
        go_upto_region 6 with (fail)
        clear hlk
        have KC : Hid (Kept noBlock wr wr.drew) := Kept.drew _ _
        have CD : Hid (∀ u, Kept (fun i => i = m) wr u → u.cell? ⟨d, 0, none⟩ = some (.map (some m))) := fun u k => cell_of_row _ _ _ _ _ _ (k.blk HL.out.blk (fun h => hmd h.symm))
        have HMD := Lib.hid hmd
        have SET : Hid (∀ (o' c' : Nat), ∃ u, (Instr.mapUpdate 73 (.map (some m)) (.string x) (.slice (some ⟨g, o', none⟩) 0 c')).run Try.prog wr.drew = .ok () u ∧ Ls u d m (Srt.del N' x) f B ∧ Kept (fun i => i = m) wr u) := fun o' c' => by
          obtain ⟨u, hrun, hR, ku⟩ := (HL.out.rows.keep KC.out (fun h => h) (fun _ _ h => h)).set x HSZ.out (some (g, o'), (0, c')) (Srt.del N' x) none (fun j => by rw [Srt.look_del HU'.out]) ⟨rfl, Nat.zero_le _, Lies.nil _ _ _⟩ (fun h => h.2 rfl) (by unfold maxLen; omega)
          rw [if_pos HHAS.out] at hR
          exact ⟨u, hrun, ⟨(KC.out.to.step ku).blk HL.out.blk (fun h => HMD.out h.symm), hR⟩, KC.out.to.step ku⟩
        have HDD : Hid (dropV N e.drop = dropV (Srt.del N' x) (e.drop.drop (k + 1))) := by unfold Hid; rw [HD.out, HST.out, if_pos HHAS.out]
        have HUP : Hid (Srt.Up (Srt.del N' x)) := Srt.up_del HU'.out x
        by_cases hvc : vc = 1
        · subst hvc
          obtain ⟨u, hrun, hL, ku⟩ := SET.out o 0
          have HL2 := Lib.hid hL
          have KU := Lib.hid ku
          clear hL ku
          refine wp_region_noPanic ?_
          refine wp_region_held_drew (S := fun u => u.cell? ⟨d, 0, none⟩ = some (.map (some m))) (by kernel_rfl) (CD.out _ KC.out.to) (fun hHeld => ?_)
          refine wpAnyH_take (i := 0) (oi := ⟨some 24, Op.move (Operand.tmp 0), 65, _, _, none⟩) (v := ?v0n3k1) rfl (by kernel_rfl) (by kernel_rfl) (by kernel_rfl) (fun _ _ _ h => h) (Or.inl ⟨by rfl, ?y0n3k1⟩) hHeld ?z0n3k1
          case y0n3k1 => intro w hSw; (try dsimp only at hSw); go_simp <;> rfl
          try simp only [Act.put, List.setIfInBounds_toArray, List.set_cons_zero, List.set_cons_succ]
          refine wpAnyH_take (i := 1) (oi := ⟨some 25, Op.nilCheck (Operand.tmp 24), 0, _, _, none⟩) (v := ?v1n3k2) rfl (by kernel_rfl) (by kernel_rfl) (by kernel_rfl) (fun _ _ _ h => h) (Or.inl ⟨by rfl, ?y1n3k2⟩) hHeld ?z1n3k2
          case y1n3k2 => intro w hSw; (try dsimp only at hSw); go_simp <;> rfl
          try simp only [Act.put, List.setIfInBounds_toArray, List.set_cons_zero, List.set_cons_succ]
          refine wpAnyH_take (i := 2) (oi := ⟨some 26, Op.fieldAddr 75 (Operand.tmp 25) 0, 0, _, _, none⟩) (v := ?v2n3k3) rfl (by kernel_rfl) (by kernel_rfl) (by kernel_rfl) (fun _ _ _ h => h) (Or.inl ⟨by rfl, ?y2n3k3⟩) hHeld ?z2n3k3
          case y2n3k3 => intro w hSw; (try dsimp only at hSw); go_simp <;> rfl
          try simp only [Act.put, List.setIfInBounds_toArray, List.set_cons_zero, List.set_cons_succ]
          refine wpAnyH_take (i := 3) (oi := ⟨some 27, Op.load 73 (Operand.tmp 26), 73, _, _, none⟩) (v := ?v3n3k4) rfl (by kernel_rfl) (by kernel_rfl) (by kernel_rfl) (fun _ _ _ h => h) (Or.inl ⟨by rfl, ?y3n3k4⟩) hHeld ?z3n3k4
          case y3n3k4 => intro w hSw; (try dsimp only at hSw); go_simp <;> rfl
          try simp only [Act.put, List.setIfInBounds_toArray, List.set_cons_zero, List.set_cons_succ]
          refine wpAnyH_take (i := 4) (oi := ⟨some 28, Op.move (Operand.tmp 6), 9, _, _, none⟩) (v := ?v4n3k5) rfl (by kernel_rfl) (by kernel_rfl) (by kernel_rfl) (fun _ _ _ h => h) (Or.inl ⟨by rfl, ?y4n3k5⟩) hHeld ?z4n3k5
          case y4n3k5 => intro w hSw; (try dsimp only at hSw); go_simp <;> rfl
          try simp only [Act.put, List.setIfInBounds_toArray, List.set_cons_zero, List.set_cons_succ]
          refine wpAnyH_take (i := 5) (oi := ⟨some 29, Op.move (Operand.tmp 0), 65, _, _, none⟩) (v := ?v5n3k6) rfl (by kernel_rfl) (by kernel_rfl) (by kernel_rfl) (fun _ _ _ h => h) (Or.inl ⟨by rfl, ?y5n3k6⟩) hHeld ?z5n3k6
          case y5n3k6 => intro w hSw; (try dsimp only at hSw); go_simp <;> rfl
          try simp only [Act.put, List.setIfInBounds_toArray, List.set_cons_zero, List.set_cons_succ]
          refine wpAnyH_take (i := 6) (oi := ⟨some 30, Op.nilCheck (Operand.tmp 29), 0, _, _, none⟩) (v := ?v6n3k7) rfl (by kernel_rfl) (by kernel_rfl) (by kernel_rfl) (fun _ _ _ h => h) (Or.inl ⟨by rfl, ?y6n3k7⟩) hHeld ?z6n3k7
          case y6n3k7 => intro w hSw; (try dsimp only at hSw); go_simp <;> rfl
          try simp only [Act.put, List.setIfInBounds_toArray, List.set_cons_zero, List.set_cons_succ]
          refine wpAnyH_take (i := 7) (oi := ⟨some 31, Op.fieldAddr 75 (Operand.tmp 30) 0, 0, _, _, none⟩) (v := ?v7n3k8) rfl (by kernel_rfl) (by kernel_rfl) (by kernel_rfl) (fun _ _ _ h => h) (Or.inl ⟨by rfl, ?y7n3k8⟩) hHeld ?z7n3k8
          case y7n3k8 => intro w hSw; (try dsimp only at hSw); go_simp <;> rfl
          try simp only [Act.put, List.setIfInBounds_toArray, List.set_cons_zero, List.set_cons_succ]
          refine wpAnyH_take (i := 8) (oi := ⟨some 32, Op.load 73 (Operand.tmp 31), 73, _, _, none⟩) (v := ?v8n3k9) rfl (by kernel_rfl) (by kernel_rfl) (by kernel_rfl) (fun _ _ _ h => h) (Or.inl ⟨by rfl, ?y8n3k9⟩) hHeld ?z8n3k9
          case y8n3k9 => intro w hSw; (try dsimp only at hSw); go_simp <;> rfl
          try simp only [Act.put, List.setIfInBounds_toArray, List.set_cons_zero, List.set_cons_succ]
          refine wpAnyH_take (i := 9) (oi := ⟨some 33, Op.move (Operand.tmp 6), 9, _, _, none⟩) (v := ?v9n3k10) rfl (by kernel_rfl) (by kernel_rfl) (by kernel_rfl) (fun _ _ _ h => h) (Or.inl ⟨by rfl, ?y9n3k10⟩) hHeld ?z9n3k10
          case y9n3k10 => intro w hSw; (try dsimp only at hSw); go_simp <;> rfl
          try simp only [Act.put, List.setIfInBounds_toArray, List.set_cons_zero, List.set_cons_succ]
          refine wpAnyH_ready (rs := [10]) (by kernel_rfl) (by simp) ?_
          refine AllReadyH.cons (o := ⟨some 34, Op.lookup 73 (Operand.tmp 32) (Operand.tmp 33) false, 25, _, _, none⟩) rfl (fun K hK => ?_) AllReadyH.nil
          have hlk := HLK.out _ KC.out
          go_simp
          refine hK.out _ _ (CD.out _ KC.out.to) (fun hHeld => ?_)
          clear hK K
          try simp only [Act.put, List.setIfInBounds_toArray, List.set_cons_zero, List.set_cons_succ]
          refine wpAnyH_take (i := 11) (oi := ⟨some 35, Op.slice 25 (Operand.tmp 34) (some (Operand.const (Value.int IntKind.i64 1))) none none, 25, _, _, none⟩) (v := ?v11n3k11) rfl (by kernel_rfl) (by kernel_rfl) (by kernel_rfl) (fun _ _ _ h => h) (Or.inl ⟨by rfl, ?y11n3k11⟩) hHeld ?z11n3k11
          case y11n3k11 => intro w hSw; (try dsimp only at hSw); go_simp <;> rfl
          try simp only [Act.put, List.setIfInBounds_toArray, List.set_cons_zero, List.set_cons_succ]
          refine wpAnyH_ready (rs := [12]) (by kernel_rfl) (by simp) ?_
          refine AllReadyH.cons (o := ⟨none, Op.mapUpdate 73 (Operand.tmp 27) (Operand.tmp 28) (Operand.tmp 35), 0, _, _, none⟩) rfl (fun K hK => ?_) AllReadyH.nil
          go_simp
          refine hK.out _ _ (CD.out _ KU.out) (fun hHeld => ?_)
          clear hK K
          try simp only [Act.put, List.setIfInBounds_toArray, List.set_cons_zero, List.set_cons_succ]
          refine wpAnyH_done (by kernel_rfl) ?_ _
          refine NoPanic.normal ?_
          clear hHeld hrun
          go_wp2
          go_roundw
          case rel => exact ⟨k + 1, _, by omega, by go_num, HDD, HUP, HL2, Lib.hid (HKR.out.step (KU.out.mono (fun _ _ h => .inr h)))⟩
          case measure => simp [intOf]; omega
        · have hvc2 : (1 : Int) < (vc : Int) := by omega
          obtain ⟨u, hrun, hL, ku⟩ := SET.out (o + 4) (vc - 1)
          have HL2 := Lib.hid hL
          have KU := Lib.hid ku
          clear hL ku
          refine wp_region_noPanic ?_
          refine wp_region_held_drew (S := fun u => u.cell? ⟨d, 0, none⟩ = some (.map (some m))) (by kernel_rfl) (CD.out _ KC.out.to) (fun hHeld => ?_)
          refine wpAnyH_take (i := 0) (oi := ⟨some 24, Op.move (Operand.tmp 0), 65, _, _, none⟩) (v := ?v0n4k1) rfl (by kernel_rfl) (by kernel_rfl) (by kernel_rfl) (fun _ _ _ h => h) (Or.inl ⟨by rfl, ?y0n4k1⟩) hHeld ?z0n4k1
          case y0n4k1 => intro w hSw; (try dsimp only at hSw); go_simp <;> rfl
          try simp only [Act.put, List.setIfInBounds_toArray, List.set_cons_zero, List.set_cons_succ]
          refine wpAnyH_take (i := 1) (oi := ⟨some 25, Op.nilCheck (Operand.tmp 24), 0, _, _, none⟩) (v := ?v1n4k2) rfl (by kernel_rfl) (by kernel_rfl) (by kernel_rfl) (fun _ _ _ h => h) (Or.inl ⟨by rfl, ?y1n4k2⟩) hHeld ?z1n4k2
          case y1n4k2 => intro w hSw; (try dsimp only at hSw); go_simp <;> rfl
          try simp only [Act.put, List.setIfInBounds_toArray, List.set_cons_zero, List.set_cons_succ]
          refine wpAnyH_take (i := 2) (oi := ⟨some 26, Op.fieldAddr 75 (Operand.tmp 25) 0, 0, _, _, none⟩) (v := ?v2n4k3) rfl (by kernel_rfl) (by kernel_rfl) (by kernel_rfl) (fun _ _ _ h => h) (Or.inl ⟨by rfl, ?y2n4k3⟩) hHeld ?z2n4k3
          case y2n4k3 => intro w hSw; (try dsimp only at hSw); go_simp <;> rfl
          try simp only [Act.put, List.setIfInBounds_toArray, List.set_cons_zero, List.set_cons_succ]
          refine wpAnyH_take (i := 3) (oi := ⟨some 27, Op.load 73 (Operand.tmp 26), 73, _, _, none⟩) (v := ?v3n4k4) rfl (by kernel_rfl) (by kernel_rfl) (by kernel_rfl) (fun _ _ _ h => h) (Or.inl ⟨by rfl, ?y3n4k4⟩) hHeld ?z3n4k4
          case y3n4k4 => intro w hSw; (try dsimp only at hSw); go_simp <;> rfl
          try simp only [Act.put, List.setIfInBounds_toArray, List.set_cons_zero, List.set_cons_succ]
          refine wpAnyH_take (i := 4) (oi := ⟨some 28, Op.move (Operand.tmp 6), 9, _, _, none⟩) (v := ?v4n4k5) rfl (by kernel_rfl) (by kernel_rfl) (by kernel_rfl) (fun _ _ _ h => h) (Or.inl ⟨by rfl, ?y4n4k5⟩) hHeld ?z4n4k5
          case y4n4k5 => intro w hSw; (try dsimp only at hSw); go_simp <;> rfl
          try simp only [Act.put, List.setIfInBounds_toArray, List.set_cons_zero, List.set_cons_succ]
          refine wpAnyH_take (i := 5) (oi := ⟨some 29, Op.move (Operand.tmp 0), 65, _, _, none⟩) (v := ?v5n4k6) rfl (by kernel_rfl) (by kernel_rfl) (by kernel_rfl) (fun _ _ _ h => h) (Or.inl ⟨by rfl, ?y5n4k6⟩) hHeld ?z5n4k6
          case y5n4k6 => intro w hSw; (try dsimp only at hSw); go_simp <;> rfl
          try simp only [Act.put, List.setIfInBounds_toArray, List.set_cons_zero, List.set_cons_succ]
          refine wpAnyH_take (i := 6) (oi := ⟨some 30, Op.nilCheck (Operand.tmp 29), 0, _, _, none⟩) (v := ?v6n4k7) rfl (by kernel_rfl) (by kernel_rfl) (by kernel_rfl) (fun _ _ _ h => h) (Or.inl ⟨by rfl, ?y6n4k7⟩) hHeld ?z6n4k7
          case y6n4k7 => intro w hSw; (try dsimp only at hSw); go_simp <;> rfl
          try simp only [Act.put, List.setIfInBounds_toArray, List.set_cons_zero, List.set_cons_succ]
          refine wpAnyH_take (i := 7) (oi := ⟨some 31, Op.fieldAddr 75 (Operand.tmp 30) 0, 0, _, _, none⟩) (v := ?v7n4k8) rfl (by kernel_rfl) (by kernel_rfl) (by kernel_rfl) (fun _ _ _ h => h) (Or.inl ⟨by rfl, ?y7n4k8⟩) hHeld ?z7n4k8
          case y7n4k8 => intro w hSw; (try dsimp only at hSw); go_simp <;> rfl
          try simp only [Act.put, List.setIfInBounds_toArray, List.set_cons_zero, List.set_cons_succ]
          refine wpAnyH_take (i := 8) (oi := ⟨some 32, Op.load 73 (Operand.tmp 31), 73, _, _, none⟩) (v := ?v8n4k9) rfl (by kernel_rfl) (by kernel_rfl) (by kernel_rfl) (fun _ _ _ h => h) (Or.inl ⟨by rfl, ?y8n4k9⟩) hHeld ?z8n4k9
          case y8n4k9 => intro w hSw; (try dsimp only at hSw); go_simp <;> rfl
          try simp only [Act.put, List.setIfInBounds_toArray, List.set_cons_zero, List.set_cons_succ]
          refine wpAnyH_take (i := 9) (oi := ⟨some 33, Op.move (Operand.tmp 6), 9, _, _, none⟩) (v := ?v9n4k10) rfl (by kernel_rfl) (by kernel_rfl) (by kernel_rfl) (fun _ _ _ h => h) (Or.inl ⟨by rfl, ?y9n4k10⟩) hHeld ?z9n4k10
          case y9n4k10 => intro w hSw; (try dsimp only at hSw); go_simp <;> rfl
          try simp only [Act.put, List.setIfInBounds_toArray, List.set_cons_zero, List.set_cons_succ]
          refine wpAnyH_ready (rs := [10]) (by kernel_rfl) (by simp) ?_
          refine AllReadyH.cons (o := ⟨some 34, Op.lookup 73 (Operand.tmp 32) (Operand.tmp 33) false, 25, _, _, none⟩) rfl (fun K hK => ?_) AllReadyH.nil
          have hlk := HLK.out _ KC.out
          go_simp
          refine hK.out _ _ (CD.out _ KC.out.to) (fun hHeld => ?_)
          clear hK K
          try simp only [Act.put, List.setIfInBounds_toArray, List.set_cons_zero, List.set_cons_succ]
          refine wpAnyH_take (i := 11) (oi := ⟨some 35, Op.slice 25 (Operand.tmp 34) (some (Operand.const (Value.int IntKind.i64 1))) none none, 25, _, _, none⟩) (v := ?v11n4k11) rfl (by kernel_rfl) (by kernel_rfl) (by kernel_rfl) (fun _ _ _ h => h) (Or.inl ⟨by rfl, ?y11n4k11⟩) hHeld ?z11n4k11
          case y11n4k11 => intro w hSw; (try dsimp only at hSw); go_simp <;> rfl
          try simp only [Act.put, List.setIfInBounds_toArray, List.set_cons_zero, List.set_cons_succ]
          refine wpAnyH_ready (rs := [12]) (by kernel_rfl) (by simp) ?_
          refine AllReadyH.cons (o := ⟨none, Op.mapUpdate 73 (Operand.tmp 27) (Operand.tmp 28) (Operand.tmp 35), 0, _, _, none⟩) rfl (fun K hK => ?_) AllReadyH.nil
          go_simp
          refine hK.out _ _ (CD.out _ KU.out) (fun hHeld => ?_)
          clear hK K
          try simp only [Act.put, List.setIfInBounds_toArray, List.set_cons_zero, List.set_cons_succ]
          refine wpAnyH_done (by kernel_rfl) ?_ _
          refine NoPanic.normal ?_
          clear hHeld hrun
          go_wp2
          go_roundw
          case rel => exact ⟨k + 1, _, by omega, by go_num, HDD, HUP, HL2, Lib.hid (HKR.out.step (KU.out.mono (fun _ _ h => .inr h)))⟩
          case measure => simp [intOf]; omega
    · obtain rfl : k = nd := by omega
      have hd := HD.out
      rw [List.drop_eq_nil_of_le (by have := HND.out; omega)] at hd
      have hd2 : dropV N e.drop = some N' := hd
      have hE2 := HKR.out.blk HE1.out (fun h => by have := HX.out; omega)
      obtain ⟨c0, c1, c2⟩ := ed_cells hE2
      have HDR := Lib.hid hd2
      have HE2 := Lib.hid hE2
      clear hd hd2 hE2 hlt
      go_wp2_with fail
      go_loopw [40] (fun i wr => ∃ (j : Nat) (N2 : Fls), j ≤ na ∧ i = .int .i64 (j : Int) ∧ Hid (addV N' e.add = addV N2 (e.add.drop j)) ∧ Hid (Srt.Up N2) ∧ Hid (Ls wr d m N2 f (B + j)) ∧ Hid (Kept (fun i => i = d ∨ i = m) w1 wr)) (fun i _ => na - (intOf i).toNat)
      case atStart => exact ⟨0, N', by omega, rfl, rfl, HU', HL, HKR⟩
      case round =>
        obtain ⟨j, N2, hjn, rfl, HA, HU2, HL2, HKR2⟩ := hrel
        by_cases hlt : j < na
        · obtain ⟨x, hx⟩ : ∃ x, e.add[j]? = some x := ⟨_, List.getElem?_eq_getElem (by have := HNA.out; omega)⟩
          obtain ⟨g, o, rfl, _, cc⟩ := (V1.out.la.keep HKR2.out (fun i hi hh => by have := HF.out i hi; omega)).elem (enc := RefV.cells) ref_len (by omega) hx
          have e0 := cc 0 _ rfl
          have e1 := cc 1 _ rfl
          have e2 := cc 2 _ rfl
          have e3 := cc 3 _ rfl
          rw [Nat.add_zero] at e0
          have hstep := addV_step (N := N2) hx
          have ka := Kept.alloc noBlock wr (.cells #[.string x.name, .int .i64 x.kind, .int .i64 x.from_, .int .i64 x.to_] 37)
          have hb := heap_alloc_new wr (.cells #[.string x.name, .int .i64 x.kind, .int .i64 x.from_, .int .i64 x.to_] 37)
          have HST := Lib.hid hstep
          clear hx cc hstep
          go_upto_region 11 with (fail)
          obtain ⟨C, hC⟩ : ∃ C, C = wr.heap.size := ⟨_, rfl⟩
          rw [← hC] at hb ⊢
          generalize wr.alloc (.cells #[.string x.name, .int .i64 x.kind, .int .i64 x.from_, .int .i64 x.to_] 37) = w3 at ka hb ⊢
          have HB3 := Lib.hid hb
          have HL3 := Lib.hid (HL2.out.keep ka)
          have HK3 := Lib.hid (HKR2.out.step ka.to)
          have HCX : Hid (C ≠ d ∧ C ≠ m) := ⟨fun h => by have := lt_of_blk HL2.out.blk; omega, fun h => by have := HL2.out.rows.lt; omega⟩
          obtain ⟨c0, c1, c2, c3⟩ := ref_cells hb
          have MA := Lib.hid (rmay_any x w3)
          clear e0 e1 e2 e3 ka hb hC
          by_cases hmay : x.May
          · rw [decide_eq_true hmay] at MA
            unfold RefV.val at MA
            go_wp2_with fail
            refine MA.out.mono ?_
            rintro en w4 ⟨rfl, k4⟩
            have HB4 := Lib.hid (k4.blk HB3.out (fun h => h))
            have HL4 := Lib.hid (HL3.out.keep k4)
            have HK4 := Lib.hid (HK3.out.step k4.to)
            have hsz : x.name.size ≤ maxLen := by have := hmay.2.1; unfold maxLen; omega
            obtain ⟨v, hsl, hlook⟩ := HL4.out.rows.look x.name hsz
            have HSL := Lib.hid hsl
            have HLK := Lib.hid hlook
            have HMAY := Lib.hid hmay
            have HSZ := Lib.hid hsz
            clear c0 c1 c2 c3 k4 MA hsl hlook hmay hsz HB3 HL3 HK3
            have CE : Hid (∀ u, Kept (fun i => i = m) w4 u → u.cell? ⟨d, 0, none⟩ = some (.map (some m)) ∧ u.cell? ⟨C, 0, none⟩ = some (.string x.name) ∧ u.cell? ⟨C, 1, none⟩ = some (.int .i64 x.kind) ∧ u.cell? ⟨C, 2, none⟩ = some (.int .i64 x.from_) ∧ u.cell? ⟨C, 3, none⟩ = some (.int .i64 x.to_)) := fun u k =>
              ⟨cell_of_row _ _ _ _ _ _ (k.blk HL4.out.blk (fun h => hmd h.symm)), ref_cells (k.blk HB4.out HCX.out.2)⟩
            have KC : Hid (Kept noBlock w4 w4.drew) := Kept.drew _ _
            obtain ⟨va, vn, vc⟩ := v
            have hlk1 : ∀ u, Kept noBlock w4 u → (Instr.lookup 73 (.map (some m)) (.string x.name) false).run Try.prog u = .ok (.slice (SlV.addr (va, (vn, vc))) vn vc) u := fun u k => HLK.out u k
            obtain ⟨Av, hAv⟩ : ∃ Av, Av = SlV.addr (va, (vn, vc)) := ⟨_, rfl⟩
            rw [← hAv] at hlk1
            replace HLK := Lib.hid hlk1
            clear hlk1 hAv
            by_cases hh : Srt.has N2 x.name = true
            · obtain ⟨q, hq⟩ := (Srt.has_iff N2 x.name).1 hh
              obtain rfl : vn = 1 := by have := HSL.out.len; rw [hq] at this; exact this
              have hans : (doE N f e).2 = 5 := by
                unfold doE
                rw [HDR.out]
                simp only
                rw [HA.out, HST.out, if_neg (Decidable.not_not.2 HMAY.out), if_pos hh]
                rfl
              have HANS := Lib.hid hans
              clear hans hq hh
              go_upto_region 13 with (fail)
              refine wp_region_noPanic ?_
              refine wp_region_held_drew (S := fun u => (u.cell? ⟨d, 0, none⟩ = some (.map (some m)) ∧ u.cell? ⟨C, 0, none⟩ = some (.string x.name)) ∧ (Instr.lookup 73 (.map (some m)) (.string x.name) false).run Try.prog u = .ok (.slice Av 1 vc) u) (by kernel_rfl) ⟨⟨(CE.out _ KC.out.to).1, (CE.out _ KC.out.to).2.1⟩, HLK.out _ KC.out⟩ (fun hHeld => ?_)
              refine wpAnyH_take (i := 0) (oi := ⟨some 47, Op.move (Operand.tmp 0), 65, _, _, none⟩) (v := ?v0n5k1) rfl (by kernel_rfl) (by kernel_rfl) (by kernel_rfl) (fun _ _ _ h => h) (Or.inl ⟨by rfl, ?y0n5k1⟩) hHeld ?z0n5k1
              case y0n5k1 => intro w hSw; (try dsimp only at hSw); go_simp <;> rfl
              try simp only [Act.put, List.setIfInBounds_toArray, List.set_cons_zero, List.set_cons_succ]
              refine wpAnyH_take (i := 1) (oi := ⟨some 48, Op.nilCheck (Operand.tmp 47), 0, _, _, none⟩) (v := ?v1n5k2) rfl (by kernel_rfl) (by kernel_rfl) (by kernel_rfl) (fun _ _ _ h => h) (Or.inl ⟨by rfl, ?y1n5k2⟩) hHeld ?z1n5k2
              case y1n5k2 => intro w hSw; (try dsimp only at hSw); go_simp <;> rfl
              try simp only [Act.put, List.setIfInBounds_toArray, List.set_cons_zero, List.set_cons_succ]
              refine wpAnyH_take (i := 2) (oi := ⟨some 49, Op.fieldAddr 75 (Operand.tmp 48) 0, 0, _, _, none⟩) (v := ?v2n5k3) rfl (by kernel_rfl) (by kernel_rfl) (by kernel_rfl) (fun _ _ _ h => h) (Or.inl ⟨by rfl, ?y2n5k3⟩) hHeld ?z2n5k3
              case y2n5k3 => intro w hSw; (try dsimp only at hSw); go_simp <;> rfl
              try simp only [Act.put, List.setIfInBounds_toArray, List.set_cons_zero, List.set_cons_succ]
              refine wpAnyH_take (i := 3) (oi := ⟨some 50, Op.load 73 (Operand.tmp 49), 73, _, _, none⟩) (v := ?v3n5k4) rfl (by kernel_rfl) (by kernel_rfl) (by kernel_rfl) (fun _ _ _ h => h) (Or.inl ⟨by rfl, ?y3n5k4⟩) hHeld ?z3n5k4
              case y3n5k4 => intro w hSw; (try dsimp only at hSw); go_simp <;> rfl
              try simp only [Act.put, List.setIfInBounds_toArray, List.set_cons_zero, List.set_cons_succ]
              refine wpAnyH_take (i := 4) (oi := ⟨some 51, Op.fieldAddr 37 (Operand.tmp 8) 0, 0, _, _, none⟩) (v := ?v4n5k5) rfl (by kernel_rfl) (by kernel_rfl) (by kernel_rfl) (fun _ _ _ h => h) (Or.inl ⟨by rfl, ?y4n5k5⟩) hHeld ?z4n5k5
              case y4n5k5 => intro w hSw; (try dsimp only at hSw); go_simp <;> rfl
              try simp only [Act.put, List.setIfInBounds_toArray, List.set_cons_zero, List.set_cons_succ]
              refine wpAnyH_take (i := 5) (oi := ⟨some 52, Op.load 9 (Operand.tmp 51), 9, _, _, none⟩) (v := ?v5n5k6) rfl (by kernel_rfl) (by kernel_rfl) (by kernel_rfl) (fun _ _ _ h => h) (Or.inl ⟨by rfl, ?y5n5k6⟩) hHeld ?z5n5k6
              case y5n5k6 => intro w hSw; (try dsimp only at hSw); go_simp <;> rfl
              try simp only [Act.put, List.setIfInBounds_toArray, List.set_cons_zero, List.set_cons_succ]
              refine wpAnyH_take (i := 6) (oi := ⟨some 53, Op.lookup 73 (Operand.tmp 50) (Operand.tmp 52) false, 25, _, _, none⟩) (v := ?v6n5k7) rfl (by kernel_rfl) (by kernel_rfl) (by kernel_rfl) (fun _ _ _ h => h) (Or.inl ⟨by rfl, ?y6n5k7⟩) hHeld ?z6n5k7
              case y6n5k7 => intro w hSw; (try dsimp only at hSw); go_simp <;> rfl
              try simp only [Act.put, List.setIfInBounds_toArray, List.set_cons_zero, List.set_cons_succ]
              refine wpAnyH_take (i := 7) (oi := ⟨some 54, Op.call { callee := Callee.builtin Builtin.len, args := #[Operand.tmp 53], argTypes := #[25] }, 3, _, _, none⟩) (v := ?v7n5k8) rfl (by kernel_rfl) (by kernel_rfl) (by kernel_rfl) (fun _ _ _ h => h) (Or.inl ⟨by rfl, ?y7n5k8⟩) hHeld ?z7n5k8
              case y7n5k8 => intro w hSw; (try dsimp only at hSw); go_simp <;> rfl
              try simp only [Act.put, List.setIfInBounds_toArray, List.set_cons_zero, List.set_cons_succ]
              refine wpAnyH_take (i := 8) (oi := ⟨some 55, Op.binOp BinOp.gtr 3 (Operand.tmp 54) (Operand.const (Value.int IntKind.i64 0)) 3, 4, _, _, none⟩) (v := ?v8n5k9) rfl (by kernel_rfl) (by kernel_rfl) (by kernel_rfl) (fun _ _ _ h => h) (Or.inl ⟨by rfl, ?y8n5k9⟩) hHeld ?z8n5k9
              case y8n5k9 => intro w hSw; (try dsimp only at hSw); go_simp <;> rfl
              try simp only [Act.put, List.setIfInBounds_toArray, List.set_cons_zero, List.set_cons_succ]
              refine wpAnyH_done (by kernel_rfl) ?_ _
              refine NoPanic.normal ?_
              clear hHeld
              go_wp2
              go_ret
              rw [HANS.out]
              exact ⟨rfl, (K1.out.to).step (HK4.out.step (Kept.drew _ _)), fun h => by cases h⟩
            · have hq : Srt.look N2 x.name = none := (Srt.has_false _ _).1 (by simpa using hh)
              obtain rfl : vn = 0 := by have := HSL.out.len; rw [hq] at this; exact this
              have HNEW : Hid (addV N' e.add = addV (Srt.put N2 x.name x) (e.add.drop (j + 1))) := by unfold Hid; rw [HA.out, HST.out, if_neg (Decidable.not_not.2 HMAY.out), if_neg hh]
              have HUN : Hid (Srt.Up (Srt.put N2 x.name x)) := Srt.up_put HU2.out _ _
              have HNO : Hid (Srt.has N2 x.name = false) := by unfold Hid; simpa using hh
              clear hq hh
              go_upto_region 13 with (fail)
              refine wp_region_noPanic ?_
              refine wp_region_held_drew (S := fun u => (u.cell? ⟨d, 0, none⟩ = some (.map (some m)) ∧ u.cell? ⟨C, 0, none⟩ = some (.string x.name)) ∧ (Instr.lookup 73 (.map (some m)) (.string x.name) false).run Try.prog u = .ok (.slice Av 0 vc) u) (by kernel_rfl) ⟨⟨(CE.out _ KC.out.to).1, (CE.out _ KC.out.to).2.1⟩, HLK.out _ KC.out⟩ (fun hHeld => ?_)
              refine wpAnyH_take (i := 0) (oi := ⟨some 47, Op.move (Operand.tmp 0), 65, _, _, none⟩) (v := ?v0n6k1) rfl (by kernel_rfl) (by kernel_rfl) (by kernel_rfl) (fun _ _ _ h => h) (Or.inl ⟨by rfl, ?y0n6k1⟩) hHeld ?z0n6k1
              case y0n6k1 => intro w hSw; (try dsimp only at hSw); go_simp <;> rfl
              try simp only [Act.put, List.setIfInBounds_toArray, List.set_cons_zero, List.set_cons_succ]
              refine wpAnyH_take (i := 1) (oi := ⟨some 48, Op.nilCheck (Operand.tmp 47), 0, _, _, none⟩) (v := ?v1n6k2) rfl (by kernel_rfl) (by kernel_rfl) (by kernel_rfl) (fun _ _ _ h => h) (Or.inl ⟨by rfl, ?y1n6k2⟩) hHeld ?z1n6k2
              case y1n6k2 => intro w hSw; (try dsimp only at hSw); go_simp <;> rfl
              try simp only [Act.put, List.setIfInBounds_toArray, List.set_cons_zero, List.set_cons_succ]
              refine wpAnyH_take (i := 2) (oi := ⟨some 49, Op.fieldAddr 75 (Operand.tmp 48) 0, 0, _, _, none⟩) (v := ?v2n6k3) rfl (by kernel_rfl) (by kernel_rfl) (by kernel_rfl) (fun _ _ _ h => h) (Or.inl ⟨by rfl, ?y2n6k3⟩) hHeld ?z2n6k3
              case y2n6k3 => intro w hSw; (try dsimp only at hSw); go_simp <;> rfl
              try simp only [Act.put, List.setIfInBounds_toArray, List.set_cons_zero, List.set_cons_succ]
              refine wpAnyH_take (i := 3) (oi := ⟨some 50, Op.load 73 (Operand.tmp 49), 73, _, _, none⟩) (v := ?v3n6k4) rfl (by kernel_rfl) (by kernel_rfl) (by kernel_rfl) (fun _ _ _ h => h) (Or.inl ⟨by rfl, ?y3n6k4⟩) hHeld ?z3n6k4
              case y3n6k4 => intro w hSw; (try dsimp only at hSw); go_simp <;> rfl
              try simp only [Act.put, List.setIfInBounds_toArray, List.set_cons_zero, List.set_cons_succ]
              refine wpAnyH_take (i := 4) (oi := ⟨some 51, Op.fieldAddr 37 (Operand.tmp 8) 0, 0, _, _, none⟩) (v := ?v4n6k5) rfl (by kernel_rfl) (by kernel_rfl) (by kernel_rfl) (fun _ _ _ h => h) (Or.inl ⟨by rfl, ?y4n6k5⟩) hHeld ?z4n6k5
              case y4n6k5 => intro w hSw; (try dsimp only at hSw); go_simp <;> rfl
              try simp only [Act.put, List.setIfInBounds_toArray, List.set_cons_zero, List.set_cons_succ]
              refine wpAnyH_take (i := 5) (oi := ⟨some 52, Op.load 9 (Operand.tmp 51), 9, _, _, none⟩) (v := ?v5n6k6) rfl (by kernel_rfl) (by kernel_rfl) (by kernel_rfl) (fun _ _ _ h => h) (Or.inl ⟨by rfl, ?y5n6k6⟩) hHeld ?z5n6k6
              case y5n6k6 => intro w hSw; (try dsimp only at hSw); go_simp <;> rfl
              try simp only [Act.put, List.setIfInBounds_toArray, List.set_cons_zero, List.set_cons_succ]
              refine wpAnyH_take (i := 6) (oi := ⟨some 53, Op.lookup 73 (Operand.tmp 50) (Operand.tmp 52) false, 25, _, _, none⟩) (v := ?v6n6k7) rfl (by kernel_rfl) (by kernel_rfl) (by kernel_rfl) (fun _ _ _ h => h) (Or.inl ⟨by rfl, ?y6n6k7⟩) hHeld ?z6n6k7
              case y6n6k7 => intro w hSw; (try dsimp only at hSw); go_simp <;> rfl
              try simp only [Act.put, List.setIfInBounds_toArray, List.set_cons_zero, List.set_cons_succ]
              refine wpAnyH_take (i := 7) (oi := ⟨some 54, Op.call { callee := Callee.builtin Builtin.len, args := #[Operand.tmp 53], argTypes := #[25] }, 3, _, _, none⟩) (v := ?v7n6k8) rfl (by kernel_rfl) (by kernel_rfl) (by kernel_rfl) (fun _ _ _ h => h) (Or.inl ⟨by rfl, ?y7n6k8⟩) hHeld ?z7n6k8
              case y7n6k8 => intro w hSw; (try dsimp only at hSw); go_simp <;> rfl
              try simp only [Act.put, List.setIfInBounds_toArray, List.set_cons_zero, List.set_cons_succ]
              refine wpAnyH_take (i := 8) (oi := ⟨some 55, Op.binOp BinOp.gtr 3 (Operand.tmp 54) (Operand.const (Value.int IntKind.i64 0)) 3, 4, _, _, none⟩) (v := ?v8n6k9) rfl (by kernel_rfl) (by kernel_rfl) (by kernel_rfl) (fun _ _ _ h => h) (Or.inl ⟨by rfl, ?y8n6k9⟩) hHeld ?z8n6k9
              case y8n6k9 => intro w hSw; (try dsimp only at hSw); go_simp <;> rfl
              try simp only [Act.put, List.setIfInBounds_toArray, List.set_cons_zero, List.set_cons_succ]
              refine wpAnyH_done (by kernel_rfl) ?_ _
              refine NoPanic.normal ?_
              clear hHeld
              have HL5 := Lib.hid (HL4.out.keep KC.out)
              have HK5 := Lib.hid (HK4.out.step KC.out.to)
              have CE5 : Hid (∀ u, Kept (fun i => i = m) w4.drew u → u.cell? ⟨d, 0, none⟩ = some (.map (some m)) ∧ u.cell? ⟨C, 0, none⟩ = some (.string x.name) ∧ u.cell? ⟨C, 1, none⟩ = some (.int .i64 x.kind) ∧ u.cell? ⟨C, 2, none⟩ = some (.int .i64 x.from_) ∧ u.cell? ⟨C, 3, none⟩ = some (.int .i64 x.to_)) := fun u k => CE.out u (KC.out.to.step k)
              generalize w4.drew = w5 at HL5 HK5 CE5 ⊢
              clear KC CE HLK HSL
              have KC : Hid (Kept noBlock w5 w5.drew) := Kept.drew _ _
              go_upto_region 15 with (fail)
              refine wp_region_noPanic ?_
              refine wp_region_held_drew (S := fun u => u.cell? ⟨d, 0, none⟩ = some (.map (some m)) ∧ u.cell? ⟨C, 0, none⟩ = some (.string x.name) ∧ u.cell? ⟨C, 1, none⟩ = some (.int .i64 x.kind) ∧ u.cell? ⟨C, 2, none⟩ = some (.int .i64 x.from_) ∧ u.cell? ⟨C, 3, none⟩ = some (.int .i64 x.to_)) (by kernel_rfl) (CE5.out _ KC.out.to) (fun hHeld => ?_)
              refine wpAnyH_take (i := 0) (oi := ⟨some 56, Op.move (Operand.tmp 0), 65, _, _, none⟩) (v := ?v0n7k1) rfl (by kernel_rfl) (by kernel_rfl) (by kernel_rfl) (fun _ _ _ h => h) (Or.inl ⟨by rfl, ?y0n7k1⟩) hHeld ?z0n7k1
              case y0n7k1 => intro w hSw; (try dsimp only at hSw); go_simp <;> rfl
              try simp only [Act.put, List.setIfInBounds_toArray, List.set_cons_zero, List.set_cons_succ]
              refine wpAnyH_take (i := 1) (oi := ⟨some 57, Op.nilCheck (Operand.tmp 56), 0, _, _, none⟩) (v := ?v1n7k2) rfl (by kernel_rfl) (by kernel_rfl) (by kernel_rfl) (fun _ _ _ h => h) (Or.inl ⟨by rfl, ?y1n7k2⟩) hHeld ?z1n7k2
              case y1n7k2 => intro w hSw; (try dsimp only at hSw); go_simp <;> rfl
              try simp only [Act.put, List.setIfInBounds_toArray, List.set_cons_zero, List.set_cons_succ]
              refine wpAnyH_take (i := 2) (oi := ⟨some 58, Op.fieldAddr 75 (Operand.tmp 57) 0, 0, _, _, none⟩) (v := ?v2n7k3) rfl (by kernel_rfl) (by kernel_rfl) (by kernel_rfl) (fun _ _ _ h => h) (Or.inl ⟨by rfl, ?y2n7k3⟩) hHeld ?z2n7k3
              case y2n7k3 => intro w hSw; (try dsimp only at hSw); go_simp <;> rfl
              try simp only [Act.put, List.setIfInBounds_toArray, List.set_cons_zero, List.set_cons_succ]
              refine wpAnyH_take (i := 3) (oi := ⟨some 59, Op.load 73 (Operand.tmp 58), 73, _, _, none⟩) (v := ?v3n7k4) rfl (by kernel_rfl) (by kernel_rfl) (by kernel_rfl) (fun _ _ _ h => h) (Or.inl ⟨by rfl, ?y3n7k4⟩) hHeld ?z3n7k4
              case y3n7k4 => intro w hSw; (try dsimp only at hSw); go_simp <;> rfl
              try simp only [Act.put, List.setIfInBounds_toArray, List.set_cons_zero, List.set_cons_succ]
              refine wpAnyH_take (i := 4) (oi := ⟨some 60, Op.fieldAddr 37 (Operand.tmp 8) 0, 0, _, _, none⟩) (v := ?v4n7k5) rfl (by kernel_rfl) (by kernel_rfl) (by kernel_rfl) (fun _ _ _ h => h) (Or.inl ⟨by rfl, ?y4n7k5⟩) hHeld ?z4n7k5
              case y4n7k5 => intro w hSw; (try dsimp only at hSw); go_simp <;> rfl
              try simp only [Act.put, List.setIfInBounds_toArray, List.set_cons_zero, List.set_cons_succ]
              refine wpAnyH_take (i := 5) (oi := ⟨some 61, Op.load 9 (Operand.tmp 60), 9, _, _, none⟩) (v := ?v5n7k6) rfl (by kernel_rfl) (by kernel_rfl) (by kernel_rfl) (fun _ _ _ h => h) (Or.inl ⟨by rfl, ?y5n7k6⟩) hHeld ?z5n7k6
              case y5n7k6 => intro w hSw; (try dsimp only at hSw); go_simp <;> rfl
              try simp only [Act.put, List.setIfInBounds_toArray, List.set_cons_zero, List.set_cons_succ]
              refine wpAnyH_take (i := 6) (oi := ⟨some 62, Op.load 37 (Operand.tmp 8), 37, _, _, none⟩) (v := ?v6n7k7) rfl (by kernel_rfl) (by kernel_rfl) (by kernel_rfl) (fun _ _ _ h => h) (Or.inl ⟨by rfl, ?y6n7k7⟩) hHeld ?z6n7k7
              case y6n7k7 => intro w hSw; (try dsimp only at hSw); go_simp <;> rfl
              try simp only [Act.put, List.setIfInBounds_toArray, List.set_cons_zero, List.set_cons_succ]
              refine wpAnyH_ready (rs := [7]) (by kernel_rfl) (by simp) ?_
              refine AllReadyH.cons (o := ⟨some 63, Op.buildSlice 25 1 #[(0, Operand.tmp 62)], 25, _, _, none⟩) rfl (fun K hK => ?_) AllReadyH.nil
              refine step_oneR x rfl ?_
              intro B7 u7 k7 h7 hB7
              have HB7 := Lib.hid h7
              have HZ7 : Hid (B7 ≠ d ∧ B7 ≠ m) := ⟨fun h => by have := lt_of_blk HL5.out.blk; have := KC.out.size; omega, fun h => by have := HL5.out.rows.lt; have := KC.out.size; omega⟩
              replace KC := Lib.hid (KC.out.step k7)
              clear k7 h7 hB7
              refine hK.out _ _ (CE5.out _ KC.out.to) (fun hHeld => ?_)
              clear hK K
              try simp only [Act.put, List.setIfInBounds_toArray, List.set_cons_zero, List.set_cons_succ]
              refine wpAnyH_ready (rs := [8]) (by kernel_rfl) (by simp) ?_
              refine AllReadyH.cons (o := ⟨none, Op.mapUpdate 73 (Operand.tmp 59) (Operand.tmp 61) (Operand.tmp 63), 0, _, _, none⟩) rfl (fun K hK => ?_) AllReadyH.nil
              have hsl : Lies _ (fun i => i ≠ d ∧ i ≠ m) (SlV.addr (some (B7, 0), (1, 1))) (vCells (some x)) := fun _ => by
                refine ⟨⟨B7, 0, none⟩, rfl, HZ7.out, fun q u hu => ?_⟩
                rw [add_plain, cell_of_row _ _ _ _ _ _ HB7.out]
                simpa [vCells] using hu
              obtain ⟨u8, hrun, hR, ku⟩ := (HL5.out.rows.keep KC.out (fun h => h) (fun _ _ h => h)).set x.name HSZ.out (some (B7, 0), (1, 1)) (Srt.put N2 x.name x) (some x) (fun j => by rw [Srt.look_put HU2.out]) ⟨rfl, Nat.le_refl _, hsl⟩ (fun h => h.2 rfl) (by unfold maxLen; omega)
              have hrun' : (Instr.mapUpdate 73 (.map (some m)) (.string x.name) (.slice (some ⟨B7, 0, none⟩) 1 1)).run Try.prog _ = .ok () u8 := hrun
              rw [HNO.out] at hR
              simp only [Bool.false_eq_true, if_false] at hR
              have KU := Lib.hid (KC.out.to.step ku)
              have HL8 : Hid (Ls u8 d m (Srt.put N2 x.name x) f (B + (j + 1))) := ⟨KU.out.blk HL5.out.blk (fun h => hmd h.symm), hR⟩
              clear hrun hR ku hsl
              go_simp
              refine hK.out _ _ (CE5.out _ KU.out) (fun hHeld => ?_)
              clear hK K
              try simp only [Act.put, List.setIfInBounds_toArray, List.set_cons_zero, List.set_cons_succ]
              refine wpAnyH_done (by kernel_rfl) ?_ _
              refine NoPanic.normal ?_
              clear hHeld hrun'
              go_wp2
              go_roundw
              case rel => exact ⟨j + 1, _, by omega, by go_num, HNEW, HUN, HL8, Lib.hid (HK5.out.step (KU.out.mono (fun _ _ h => .inr h)))⟩
              case measure => simp [intOf]; omega
          · rw [decide_eq_false hmay] at MA
            have hans : (doE N f e).2 = 14 := by
              unfold doE
              rw [HDR.out]
              simp only
              rw [HA.out, HST.out, if_pos hmay]
              rfl
            have HANS := Lib.hid hans
            unfold RefV.val at MA
            clear hans hmay
            go_wp2_with fail
            refine MA.out.mono ?_
            rintro en w4 ⟨rfl, k4⟩
            have R := Lib.hid ((K1.out.to).step (HK3.out.step k4.to))
            clear c0 c1 c2 c3 k4 MA
            go_wp2
            go_ret
            rw [HANS.out]
            exact ⟨rfl, R.out, fun h => by cases h⟩
        · obtain rfl : j = na := by omega
          have ha := HA.out
          rw [List.drop_eq_nil_of_le (by have := HNA.out; omega)] at ha
          have ha2 : addV N' e.add = (N2, 0) := ha
          have hE2 := HKR2.out.blk HE1.out (fun h => by have := HX.out; omega)
          have CE : Hid (∀ u, Kept noBlock wr u → (u.cell? ⟨E, 0, none⟩ = some (.slice A j c) ∧ u.cell? ⟨E, 1, none⟩ = some (.slice D k b) ∧ u.cell? ⟨E, 2, none⟩ = some (.int .i64 fl)) ∧ u.cell? ⟨d, 0, none⟩ = some (.map (some m)) ∧ u.cell? ⟨d, 1, none⟩ = some (.int .i64 f)) := fun u ku =>
            ⟨ed_cells (ku.blk hE2 (fun h => h)), cell_of_row _ _ _ _ _ _ (ku.blk HL2.out.blk (fun h => h)), cell_of_row _ _ _ _ _ _ (ku.blk HL2.out.blk (fun h => h))⟩
          have HAR := Lib.hid ha2
          have WI := Lib.hid (fun u => ewithin_any fl f 1048576 u)
          obtain ⟨gb, hgb⟩ : ∃ gb : Bool, gb = decide (f ≤ fl ∧ fl ≤ 1048576) := ⟨_, rfl⟩
          rw [← hgb] at WI
          have HGB := Lib.hid hgb
          clear ha ha2 hE2 hlt hgb
          go_upto_region 17 with (fail)
          clear c0 c1 c2
          refine wp_region_noPanic ?_
          refine wp_region_held_drew (S := fun u => (u.cell? ⟨E, 0, none⟩ = some (.slice A j c) ∧ u.cell? ⟨E, 1, none⟩ = some (.slice D k b) ∧ u.cell? ⟨E, 2, none⟩ = some (.int .i64 fl)) ∧ u.cell? ⟨d, 0, none⟩ = some (.map (some m)) ∧ u.cell? ⟨d, 1, none⟩ = some (.int .i64 f)) (by kernel_rfl) (CE.out _ (Kept.drew _ _)) (fun hHeld => ?_)
          refine wpAnyH_take (i := 0) (oi := ⟨some 65, Op.fieldAddr 50 (Operand.tmp 3) 2, 0, _, _, none⟩) (v := ?v0n8k1) rfl (by kernel_rfl) (by kernel_rfl) (by kernel_rfl) (fun _ _ _ h => h) (Or.inl ⟨by rfl, ?y0n8k1⟩) hHeld ?z0n8k1
          case y0n8k1 => intro w hSw; (try dsimp only at hSw); go_simp <;> rfl
          try simp only [Act.put, List.setIfInBounds_toArray, List.set_cons_zero, List.set_cons_succ]
          refine wpAnyH_take (i := 1) (oi := ⟨some 66, Op.load 3 (Operand.tmp 65), 3, _, _, none⟩) (v := ?v1n8k2) rfl (by kernel_rfl) (by kernel_rfl) (by kernel_rfl) (fun _ _ _ h => h) (Or.inl ⟨by rfl, ?y1n8k2⟩) hHeld ?z1n8k2
          case y1n8k2 => intro w hSw; (try dsimp only at hSw); go_simp <;> rfl
          try simp only [Act.put, List.setIfInBounds_toArray, List.set_cons_zero, List.set_cons_succ]
          refine wpAnyH_take (i := 2) (oi := ⟨some 67, Op.move (Operand.tmp 0), 65, _, _, none⟩) (v := ?v2n8k3) rfl (by kernel_rfl) (by kernel_rfl) (by kernel_rfl) (fun _ _ _ h => h) (Or.inl ⟨by rfl, ?y2n8k3⟩) hHeld ?z2n8k3
          case y2n8k3 => intro w hSw; (try dsimp only at hSw); go_simp <;> rfl
          try simp only [Act.put, List.setIfInBounds_toArray, List.set_cons_zero, List.set_cons_succ]
          refine wpAnyH_take (i := 3) (oi := ⟨some 68, Op.nilCheck (Operand.tmp 67), 0, _, _, none⟩) (v := ?v3n8k4) rfl (by kernel_rfl) (by kernel_rfl) (by kernel_rfl) (fun _ _ _ h => h) (Or.inl ⟨by rfl, ?y3n8k4⟩) hHeld ?z3n8k4
          case y3n8k4 => intro w hSw; (try dsimp only at hSw); go_simp <;> rfl
          try simp only [Act.put, List.setIfInBounds_toArray, List.set_cons_zero, List.set_cons_succ]
          refine wpAnyH_take (i := 4) (oi := ⟨some 69, Op.fieldAddr 75 (Operand.tmp 68) 1, 0, _, _, none⟩) (v := ?v4n8k5) rfl (by kernel_rfl) (by kernel_rfl) (by kernel_rfl) (fun _ _ _ h => h) (Or.inl ⟨by rfl, ?y4n8k5⟩) hHeld ?z4n8k5
          case y4n8k5 => intro w hSw; (try dsimp only at hSw); go_simp <;> rfl
          try simp only [Act.put, List.setIfInBounds_toArray, List.set_cons_zero, List.set_cons_succ]
          refine wpAnyH_take (i := 5) (oi := ⟨some 70, Op.load 3 (Operand.tmp 69), 3, _, _, none⟩) (v := ?v5n8k6) rfl (by kernel_rfl) (by kernel_rfl) (by kernel_rfl) (fun _ _ _ h => h) (Or.inl ⟨by rfl, ?y5n8k6⟩) hHeld ?z5n8k6
          case y5n8k6 => intro w hSw; (try dsimp only at hSw); go_simp <;> rfl
          try simp only [Act.put, List.setIfInBounds_toArray, List.set_cons_zero, List.set_cons_succ]
          refine wpAnyH_ready (rs := [6]) (by kernel_rfl) (by simp) ?_
          refine AllReadyH.cons (o := ⟨some 71, Op.call { callee := Callee.value (Operand.func 33), args := #[Operand.tmp 66, Operand.tmp 70, Operand.const (Value.int IntKind.i64 1048576)], argTypes := #[3, 3, 3] }, 4, _, _, none⟩) rfl (fun K hK => ?_) AllReadyH.nil
          go_simp
          refine (WI.out _).mono ?_
          rintro en u6 ⟨rfl, rfl⟩
          dsimp only
          refine hK.out _ _ (CE.out _ (Kept.drew _ _)) (fun hHeld => ?_)
          clear hK K
          try simp only [Act.put, List.setIfInBounds_toArray, List.set_cons_zero, List.set_cons_succ]
          refine wpAnyH_take (i := 7) (oi := ⟨some 72, Op.unOp UnOp.not 4 (Operand.tmp 71), 4, _, _, none⟩) (v := ?v7n8k7) rfl (by kernel_rfl) (by kernel_rfl) (by kernel_rfl) (fun _ _ _ h => h) (Or.inl ⟨by rfl, ?y7n8k7⟩) hHeld ?z7n8k7
          case y7n8k7 => intro w hSw; (try dsimp only at hSw); go_simp <;> rfl
          try simp only [Act.put, List.setIfInBounds_toArray, List.set_cons_zero, List.set_cons_succ]
          refine wpAnyH_done (by kernel_rfl) ?_ _
          refine NoPanic.normal ?_
          clear hHeld
          have HL3 := Lib.hid (HL2.out.keep (Kept.drew noBlock wr))
          have HK3 := Lib.hid (K1.out.to.step (HKR2.out.step (Kept.drew _ wr)))
          obtain ⟨⟨c0, c1, c2⟩, d0, d1⟩ := CE.out _ (Kept.drew _ _)
          have hfd : wr.drew.frozen? ⟨d, 1, none⟩ = false := frozen_of_row _ _ _ _ _ HL3.out.blk
          generalize wr.drew = w5 at HL3 HK3 c0 c1 c2 d0 d1 hfd ⊢
          clear CE
          cases gb with
          | false =>
            have hans : (doE N f e).2 = 8 := by
              unfold doE
              rw [HDR.out]
              simp only
              rw [HAR.out]
              simp only [ne_eq, not_true_eq_false, if_false]
              rw [← HFL.out, if_neg (of_decide_eq_false HGB.out.symm)]
            have HANS := Lib.hid hans
            clear hans
            go_wp2
            go_ret
            rw [HANS.out]
            exact ⟨rfl, HK3.out, fun h => by cases h⟩
          | true =>
            have hans : doE N f e = (N2, 0) := by
              unfold doE
              rw [HDR.out]
              simp only
              rw [HAR.out]
              simp only [ne_eq, not_true_eq_false, if_false]
              rw [← HFL.out, if_pos (of_decide_eq_true HGB.out.symm)]
            have HANS := Lib.hid hans
            have ks : Kept (fun i => i = d) w5 (w5.setCell ⟨d, 1, none⟩ (.int .i64 fl)) := Kept.setCell w5 (by rfl) _
            have hb2 := heap_setCell_same w5 d 1 _ 75 (.int .i64 fl) HL3.out.blk
            have R : Hid (Ls (w5.setCell ⟨d, 1, none⟩ (.int .i64 fl)) d m N2 fl (B + j)) := ⟨by simpa using hb2, HL3.out.rows.keep ks (fun h => hmd h) (fun _ hi h => hi.1 h)⟩
            have KZ := Lib.hid (HK3.out.step (ks.mono (fun _ _ h => .inl h)))
            clear hans ks hb2
            go_wp2
            go_ret
            rw [HANS.out]
            exact ⟨rfl, KZ.out, fun _ => R.out⟩
end Go.Proofs.Ytollmkkbeeeccaa
