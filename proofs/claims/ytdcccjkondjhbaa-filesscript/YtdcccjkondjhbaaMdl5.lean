/-
  The model's methods, fourth part: change, walked. No statement is proved here.
-/
import Derived.Test.YtdcccjkondjhbaaMdl4
namespace Go.Proofs.Ytdcccjkondjhbaa
open Go.RowKit Go.Maps

theorem lit_cell {w : World} {b : Nat} {l : List Value} {t : TypeId} {fr : Nat × Nat} (h : w.heap[b]? = some (.cells l.toArray t fr)) {k : Nat} {v : Value} (hk : l[k]? = some v) : w.cell? ⟨b, k, none⟩ = some v := by
  rw [cell_of_row _ _ _ _ _ _ h]
  simpa using hk

set_option maxRecDepth 100000 in
set_option maxHeartbeats 4000000 in
theorem change_any (G K : Nat → Prop) (m : Nat) (S : St) (g : Nat → Nat) (x : Chg) (b1 b2 : Nat) (w : World) (h : Md w G m S g K) (hxK : ∀ f, x.file = some f → K f) (hb1 : w.heap[b1]? = some (.cells (x.ns.map sv).toArray 9 (0, 0))) (hG1 : G b1)
    (hb2 : w.heap[b2]? = some (.cells (x.fs.map fun o => ptrOf (o.map g)).toArray 44 (0, 0))) (hG2 : G b2) (hnm : ∀ s ∈ x.ns, s.length ≤ maxLen) (hlen : S.cur.length + 2 < 1000000000) (hpl : S.pend.length < 1000000)
    (ok1 : Ok { S with cur := Dir.step S.cur x }) (ok2 : Ok { S with cur := Dir.step S.cur x, pend := S.pend ++ [x] }) :
    Calls Try.prog 30 #[.pointer (some ⟨m, 0, none⟩), .slice (some ⟨b1, 0, none⟩) x.ns.length x.ns.length, .slice (some ⟨b2, 0, none⟩) x.ns.length x.ns.length] w fun e w' => e = .returned (.tuple #[]) ∧
      Md w' (fun i => G i ∨ fresh w w' i) m { S with cur := Dir.step S.cur x, pend := S.pend ++ [x] } g K ∧ Kept G w w' := by
  obtain ⟨stop, mn, mk, A, c, A', c', xs, ys, h⟩ := h
  obtain ⟨n, hn⟩ : ∃ n, n = x.ns.length := ⟨_, rfl⟩
  have hn2 : n ≤ 2 := by have := x.ns_le; omega
  have hfl : x.fs.length = n := by rw [x.fs_len, hn]
  obtain ⟨zs, hzs⟩ : ∃ zs, zs = x.ns.zip (x.fs.map (·.map g)) := ⟨_, rfl⟩
  have hzl : zs.length = n := by rw [hzs]; simp; omega
  rw [← hn]
  have HN := Lib.hid hn; clear hn
  have HFL := Lib.hid hfl; clear hfl
  have HZ := Lib.hid hzs; clear hzs
  have HZL := Lib.hid hzl; clear hzl
  have HNM := Lib.hid hnm; clear hnm
  have HB1 := Lib.hid hb1; clear hb1
  have HB2 := Lib.hid hb2; clear hb2
  have hmb := h.blk
  unfold mcells at hmb
  have HMB := Lib.hid hmb; clear hmb
  have H := Lib.hid h
  have h0 : Hid (Nm w (some mn) ((S.cur.re g).sets (zs.take 0))) := Lib.hid h.now
  have hmnm : Hid (m ≠ mn) := Lib.hid fun e => h.now.ne h.blk e.symm
  have hb1n : Hid (b1 ≠ mn) := Lib.hid fun e => h.now.ne HB1.out e.symm
  have hb2n : Hid (b2 ≠ mn) := Lib.hid fun e => h.now.ne HB2.out e.symm
  clear h
  go_enter Try.func30, Try.ntmps30
  go_wp2
  go_loopw [10] (fun v wr => ∃ k : Nat, k ≤ n ∧ v = .int .i64 (k : Int) ∧ Hid (Nm wr (some mn) ((S.cur.re g).sets (zs.take k))) ∧ Kept (fun i => i = mn) w wr) (fun v _ => n - (intOf v).toNat)
  case atStart => exact ⟨0, by omega, rfl, h0, Kept.refl _ _⟩
  case round =>
    obtain ⟨k, hk, rfl, HK, kk⟩ := hrel
    by_cases hlt : k < n
    · have hdec : decide ((k : Int) < (n : Int)) = true := by simp; omega
      obtain ⟨s, hs⟩ : ∃ s, x.ns[k]? = some s := ⟨x.ns[k]'(by rw [← HN.out]; exact hlt), List.getElem?_eq_getElem _⟩
      obtain ⟨o, ho⟩ : ∃ o, x.fs[k]? = some o := ⟨x.fs[k]'(by rw [HFL.out]; exact hlt), List.getElem?_eq_getElem _⟩
      obtain ⟨pv, hpv⟩ : ∃ pv, ptrOf (o.map g) = .pointer pv := ⟨_, rfl⟩
      have q1 : wr.cell? ⟨b1, k, none⟩ = some (.string (str s)) := kk.cell (lit_cell HB1.out (by rw [List.getElem?_map, hs]; rfl)) hb1n.out
      have q2 : wr.cell? ⟨b2, k, none⟩ = some (.pointer pv) := kk.cell (lit_cell HB2.out (by rw [List.getElem?_map, ho, ← hpv]; rfl)) hb2n.out
      have q3 : wr.cell? ⟨m, 0, none⟩ = some (.map (some mn)) := kk.cell (cell_of_row _ _ _ _ _ _ HMB.out) hmnm.out
      have hz : zs[k]? = some (s, o.map g) := by
        rw [HZ.out, List.getElem?_zip_eq_some]
        exact ⟨hs, by rw [List.getElem?_map, ho]; rfl⟩
      have hsl := HNM.out s (List.mem_of_getElem? hs)
      have hsz : Hid (((S.cur.re g).sets (zs.take k)).length < maxLen) := by
        have h1 := Dir.sets_len (zs.take k) (S.cur.re g)
        rw [List.length_take, Dir.re_len] at h1
        show _ < _
        unfold maxLen
        omega
      have HZK := Lib.hid hz
      have hset := set_any mn ((S.cur.re g).sets (zs.take k)) s (o.map g) wr.drew (HK.out.keep (Kept.drew noBlock wr) (fun _ _ h => h)) hsl hsz.out
      rw [hpv] at hset
      clear hs ho hpv hz hdec
      have KK := Lib.hid kk
      clear kk
      go_upto_region 3 with (fail)
      refine wp_region_noPanic ?_
      refine wp_region_held_drew (S := fun w' => w'.cell? ⟨m, 0, none⟩ = some (.map (some mn)) ∧ w'.cell? ⟨b2, k, none⟩ = some (.pointer pv)) (by kernel_rfl) ⟨q3, q2⟩ (fun hHeld => ?_)
      refine wpAnyH_take (i := 0) (oi := ⟨some 15, Op.move (Operand.tmp 0), 26, _, _, none⟩) (v := ?v0n1k1) rfl (by kernel_rfl) (by kernel_rfl) (by kernel_rfl) (fun _ _ _ h => h) (Or.inl ⟨by rfl, ?y0n1k1⟩) hHeld ?z0n1k1
      case y0n1k1 => intro w hSw; (try dsimp only at hSw); go_simp <;> rfl
      try simp only [Act.put, List.setIfInBounds_toArray, List.set_cons_zero, List.set_cons_succ]
      refine wpAnyH_take (i := 1) (oi := ⟨some 16, Op.nilCheck (Operand.tmp 15), 0, _, _, none⟩) (v := ?v1n1k2) rfl (by kernel_rfl) (by kernel_rfl) (by kernel_rfl) (fun _ _ _ h => h) (Or.inl ⟨by rfl, ?y1n1k2⟩) hHeld ?z1n1k2
      case y1n1k2 => intro w hSw; (try dsimp only at hSw); go_simp <;> rfl
      try simp only [Act.put, List.setIfInBounds_toArray, List.set_cons_zero, List.set_cons_succ]
      refine wpAnyH_take (i := 2) (oi := ⟨some 17, Op.fieldAddr 31 (Operand.tmp 16) 0, 0, _, _, none⟩) (v := ?v2n1k3) rfl (by kernel_rfl) (by kernel_rfl) (by kernel_rfl) (fun _ _ _ h => h) (Or.inl ⟨by rfl, ?y2n1k3⟩) hHeld ?z2n1k3
      case y2n1k3 => intro w hSw; (try dsimp only at hSw); go_simp <;> rfl
      try simp only [Act.put, List.setIfInBounds_toArray, List.set_cons_zero, List.set_cons_succ]
      refine wpAnyH_take (i := 3) (oi := ⟨some 18, Op.load 27 (Operand.tmp 17), 27, _, _, none⟩) (v := ?v3n1k4) rfl (by kernel_rfl) (by kernel_rfl) (by kernel_rfl) (fun _ _ _ h => h) (Or.inl ⟨by rfl, ?y3n1k4⟩) hHeld ?z3n1k4
      case y3n1k4 => intro w hSw; (try dsimp only at hSw); go_simp <;> rfl
      try simp only [Act.put, List.setIfInBounds_toArray, List.set_cons_zero, List.set_cons_succ]
      refine wpAnyH_take (i := 4) (oi := ⟨some 19, Op.move (Operand.tmp 7), 9, _, _, none⟩) (v := ?v4n1k5) rfl (by kernel_rfl) (by kernel_rfl) (by kernel_rfl) (fun _ _ _ h => h) (Or.inl ⟨by rfl, ?y4n1k5⟩) hHeld ?z4n1k5
      case y4n1k5 => intro w hSw; (try dsimp only at hSw); go_simp <;> rfl
      try simp only [Act.put, List.setIfInBounds_toArray, List.set_cons_zero, List.set_cons_succ]
      refine wpAnyH_take (i := 5) (oi := ⟨some 20, Op.move (Operand.tmp 2), 63, _, _, none⟩) (v := ?v5n1k6) rfl (by kernel_rfl) (by kernel_rfl) (by kernel_rfl) (fun _ _ _ h => h) (Or.inl ⟨by rfl, ?y5n1k6⟩) hHeld ?z5n1k6
      case y5n1k6 => intro w hSw; (try dsimp only at hSw); go_simp <;> rfl
      try simp only [Act.put, List.setIfInBounds_toArray, List.set_cons_zero, List.set_cons_succ]
      refine wpAnyH_take (i := 6) (oi := ⟨some 21, Op.move (Operand.tmp 6), 3, _, _, none⟩) (v := ?v6n1k7) rfl (by kernel_rfl) (by kernel_rfl) (by kernel_rfl) (fun _ _ _ h => h) (Or.inl ⟨by rfl, ?y6n1k7⟩) hHeld ?z6n1k7
      case y6n1k7 => intro w hSw; (try dsimp only at hSw); go_simp <;> rfl
      try simp only [Act.put, List.setIfInBounds_toArray, List.set_cons_zero, List.set_cons_succ]
      refine wpAnyH_take (i := 7) (oi := ⟨some 22, Op.indexAddr 63 (Operand.tmp 20) (Operand.tmp 21), 0, _, _, none⟩) (v := ?v7n1k8) rfl (by kernel_rfl) (by kernel_rfl) (by kernel_rfl) (fun _ _ _ h => h) (Or.inl ⟨by rfl, ?y7n1k8⟩) hHeld ?z7n1k8
      case y7n1k8 => intro w hSw; (try dsimp only at hSw); go_simp <;> rfl
      try simp only [Act.put, List.setIfInBounds_toArray, List.set_cons_zero, List.set_cons_succ]
      refine wpAnyH_take (i := 8) (oi := ⟨some 23, Op.load 44 (Operand.tmp 22), 44, _, _, none⟩) (v := ?v8n1k9) rfl (by kernel_rfl) (by kernel_rfl) (by kernel_rfl) (fun _ _ _ h => h) (Or.inl ⟨by rfl, ?y8n1k9⟩) hHeld ?z8n1k9
      case y8n1k9 => intro w hSw; (try dsimp only at hSw); go_simp <;> rfl
      try simp only [Act.put, List.setIfInBounds_toArray, List.set_cons_zero, List.set_cons_succ]
      refine wpAnyH_ready (rs := [9]) (by kernel_rfl) (by simp) ?_
      refine AllReadyH.cons (o := ⟨some 24, Op.call { callee := Callee.value (Operand.func 22), args := #[Operand.tmp 18, Operand.tmp 19, Operand.tmp 23], argTypes := #[27, 9, 44] }, 0, _, _, none⟩) rfl (fun K hK => ?_) AllReadyH.nil
      go_simp
      refine hset.mono ?_
      rintro e w5 ⟨rfl, hN5, k5⟩
      dsimp only
      refine hK.out _ _ ⟨k5.cell q3 hmnm.out, k5.cell q2 hb2n.out⟩ (fun hHeld => ?_)
      clear hK K
      try simp only [Act.put, List.setIfInBounds_toArray, List.set_cons_zero, List.set_cons_succ]
      refine wpAnyH_done (by kernel_rfl) ?_ _
      refine NoPanic.normal ?_
      have HN5 := Lib.hid hN5
      have K5 := Lib.hid (KK.out.step ((Kept.drew (fun i => i = mn) wr).step k5))
      clear hN5 k5 hset q1 q2 q3 hHeld
      go_wp2
      go_roundw
      case rel =>
        refine ⟨k + 1, by omega, by go_num, ?_, K5.out⟩
        rw [take_snoc zs k _ HZK.out, Dir.sets_snoc]
        exact HN5
      case measure => simp [intOf]; omega
    · obtain rfl : k = n := by omega
      rw [List.take_of_length_le (by rw [HZL.out]; exact Nat.le_refl _)] at HK
      have hN : Nm wr (some mn) ((Dir.step S.cur x).re g) := by have := HK.out; rw [HZ.out, Chg.sets_re] at this; exact this
      have h1 := H.out.names kk hN (Dir.step_fl H.out.kcur hxK) ok1
      have hTwo : Two wr G g x (.slice (some ⟨b1, 0, none⟩) k k) (.slice (some ⟨b2, 0, none⟩) k k) := by
        rw [HN.out]
        exact ⟨b1, b2, rfl, kk.blk HB1.out hb1n.out, hG1, rfl, kk.blk HB2.out hb2n.out, hG2⟩
      obtain ⟨pn, hpn⟩ : ∃ pn, pn = S.pend.length := ⟨_, rfl⟩
      have hbm := h1.blk
      unfold mcells at hbm
      have hw1 := h1.wait
      have hf1 := h1.files
      simp only at hbm hw1 hf1
      rw [← hpn] at hbm hw1 hf1 hpl
      have GR : Hid (Gr wr wr.drew (rowB (A, c)) (rowB (A', c')) A pn c xs A' pn c' ys) :=
        Lib.hid ⟨own_keep hw1 (Kept.drew noBlock wr) (fun _ _ h => h), own_keep hf1 (Kept.drew noBlock wr) (fun _ _ h => h), Kept.drew _ wr, fun _ hk => .inl hk, fun _ hk => .inl hk⟩
      have HBM := Lib.hid ((Kept.drew noBlock wr).blk hbm (fun h => h))
      have z2 : wr.cell? ⟨m, 2, none⟩ = some (.slice A pn c) := cell_of_row _ _ _ _ _ _ hbm
      have z3 : wr.cell? ⟨m, 3, none⟩ = some (.slice A' pn c') := cell_of_row _ _ _ _ _ _ hbm
      have H1 := Lib.hid h1
      have HT := Lib.hid hTwo
      have HPN := Lib.hid hpn
      have KK := Lib.hid kk
      clear h1 hTwo hpn kk hbm hw1 hf1 hN HK
      go_upto_region 5 with (fail)
      refine wp_region_noPanic ?_
      refine wp_region_any_drew (by kernel_rfl) ?_
      refine wpAny_take (i := 1) (oi := ⟨some 27, Op.move (Operand.tmp 0), 26, _, _, none⟩) (v := ?v1n2q) rfl (by kernel_rfl) (by kernel_rfl) (by kernel_rfl) (fun _ _ _ h => h) (Or.inl ⟨by rfl, ?y1n2q⟩) ?z1n2q
      case y1n2q => intro w; go_simp <;> rfl
      try simp only [Act.put, List.setIfInBounds_toArray, List.set_cons_zero, List.set_cons_succ]
      refine wpAny_tail (S := fun w' => w'.cell? ⟨m, 2, none⟩ = some (.slice A pn c) ∧ w'.cell? ⟨m, 3, none⟩ = some (.slice A' pn c')) 16 15 ⟨z2, z3⟩ (fun hHeld => ?_)
      refine wpAnyT_take (i := 0) (oi := ⟨some 26, Op.move (Operand.tmp 0), 26, _, _, none⟩) (v := ?v0n2k1) rfl (by kernel_rfl) (by kernel_rfl) (by kernel_rfl) (fun _ _ _ h => h) (Or.inl ⟨by rfl, ?y0n2k1⟩) hHeld ?z0n2k1
      case y0n2k1 => intro w hSw; (try dsimp only at hSw); go_simp <;> rfl
      try simp only [Act.put, List.setIfInBounds_toArray, List.set_cons_zero, List.set_cons_succ]
      refine wpAnyT_take (i := 2) (oi := ⟨some 28, Op.move (Operand.tmp 0), 26, _, _, none⟩) (v := ?v2n2k2) rfl (by kernel_rfl) (by kernel_rfl) (by kernel_rfl) (fun _ _ _ h => h) (Or.inl ⟨by rfl, ?y2n2k2⟩) hHeld ?z2n2k2
      case y2n2k2 => intro w hSw; (try dsimp only at hSw); go_simp <;> rfl
      try simp only [Act.put, List.setIfInBounds_toArray, List.set_cons_zero, List.set_cons_succ]
      refine wpAnyT_take (i := 3) (oi := ⟨some 29, Op.nilCheck (Operand.tmp 28), 0, _, _, none⟩) (v := ?v3n2k3) rfl (by kernel_rfl) (by kernel_rfl) (by kernel_rfl) (fun _ _ _ h => h) (Or.inl ⟨by rfl, ?y3n2k3⟩) hHeld ?z3n2k3
      case y3n2k3 => intro w hSw; (try dsimp only at hSw); go_simp <;> rfl
      try simp only [Act.put, List.setIfInBounds_toArray, List.set_cons_zero, List.set_cons_succ]
      refine wpAnyT_take (i := 4) (oi := ⟨some 30, Op.fieldAddr 31 (Operand.tmp 29) 2, 0, _, _, none⟩) (v := ?v4n2k4) rfl (by kernel_rfl) (by kernel_rfl) (by kernel_rfl) (fun _ _ _ h => h) (Or.inl ⟨by rfl, ?y4n2k4⟩) hHeld ?z4n2k4
      case y4n2k4 => intro w hSw; (try dsimp only at hSw); go_simp <;> rfl
      try simp only [Act.put, List.setIfInBounds_toArray, List.set_cons_zero, List.set_cons_succ]
      refine wpAnyT_take (i := 5) (oi := ⟨some 31, Op.load 28 (Operand.tmp 30), 28, _, _, none⟩) (v := ?v5n2k5) rfl (by kernel_rfl) (by kernel_rfl) (by kernel_rfl) (fun _ _ _ h => h) (Or.inl ⟨by rfl, ?y5n2k5⟩) hHeld ?z5n2k5
      case y5n2k5 => intro w hSw; (try dsimp only at hSw); go_simp <;> rfl
      try simp only [Act.put, List.setIfInBounds_toArray, List.set_cons_zero, List.set_cons_succ]
      refine wpAnyT_take (i := 6) (oi := ⟨some 32, Op.move (Operand.tmp 1), 42, _, _, none⟩) (v := ?v6n2k6) rfl (by kernel_rfl) (by kernel_rfl) (by kernel_rfl) (fun _ _ _ h => h) (Or.inl ⟨by rfl, ?y6n2k6⟩) hHeld ?z6n2k6
      case y6n2k6 => intro w hSw; (try dsimp only at hSw); go_simp <;> rfl
      try simp only [Act.put, List.setIfInBounds_toArray, List.set_cons_zero, List.set_cons_succ]
      refine wpAnyT_take (i := 9) (oi := ⟨some 35, Op.move (Operand.tmp 0), 26, _, _, none⟩) (v := ?v9n2k7) rfl (by kernel_rfl) (by kernel_rfl) (by kernel_rfl) (fun _ _ _ h => h) (Or.inl ⟨by rfl, ?y9n2k7⟩) hHeld ?z9n2k7
      case y9n2k7 => intro w hSw; (try dsimp only at hSw); go_simp <;> rfl
      try simp only [Act.put, List.setIfInBounds_toArray, List.set_cons_zero, List.set_cons_succ]
      refine wpAnyT_take (i := 10) (oi := ⟨some 36, Op.nilCheck (Operand.tmp 35), 0, _, _, none⟩) (v := ?v10n2k8) rfl (by kernel_rfl) (by kernel_rfl) (by kernel_rfl) (fun _ _ _ h => h) (Or.inl ⟨by rfl, ?y10n2k8⟩) hHeld ?z10n2k8
      case y10n2k8 => intro w hSw; (try dsimp only at hSw); go_simp <;> rfl
      try simp only [Act.put, List.setIfInBounds_toArray, List.set_cons_zero, List.set_cons_succ]
      refine wpAnyT_take (i := 11) (oi := ⟨some 37, Op.fieldAddr 31 (Operand.tmp 36) 3, 0, _, _, none⟩) (v := ?v11n2k9) rfl (by kernel_rfl) (by kernel_rfl) (by kernel_rfl) (fun _ _ _ h => h) (Or.inl ⟨by rfl, ?y11n2k9⟩) hHeld ?z11n2k9
      case y11n2k9 => intro w hSw; (try dsimp only at hSw); go_simp <;> rfl
      try simp only [Act.put, List.setIfInBounds_toArray, List.set_cons_zero, List.set_cons_succ]
      refine wpAnyT_take (i := 12) (oi := ⟨some 38, Op.load 29 (Operand.tmp 37), 29, _, _, none⟩) (v := ?v12n2k10) rfl (by kernel_rfl) (by kernel_rfl) (by kernel_rfl) (fun _ _ _ h => h) (Or.inl ⟨by rfl, ?y12n2k10⟩) hHeld ?z12n2k10
      case y12n2k10 => intro w hSw; (try dsimp only at hSw); go_simp <;> rfl
      try simp only [Act.put, List.setIfInBounds_toArray, List.set_cons_zero, List.set_cons_succ]
      refine wpAnyT_take (i := 13) (oi := ⟨some 39, Op.move (Operand.tmp 2), 63, _, _, none⟩) (v := ?v13n2k11) rfl (by kernel_rfl) (by kernel_rfl) (by kernel_rfl) (fun _ _ _ h => h) (Or.inl ⟨by rfl, ?y13n2k11⟩) hHeld ?z13n2k11
      case y13n2k11 => intro w hSw; (try dsimp only at hSw); go_simp <;> rfl
      try simp only [Act.put, List.setIfInBounds_toArray, List.set_cons_zero, List.set_cons_succ]
      refine wpAnyT_ready (rs := [7, 14]) (by kernel_rfl) (by simp) ?_
      refine (AllReadyT.cons (o := ⟨some 33, Op.buildSlice 28 1 #[(0, Operand.tmp 32)], 28, _, _, none⟩) rfl (fun K hK => ?b7n2k13) (AllReadyT.cons (o := ⟨some 40, Op.buildSlice 29 1 #[(0, Operand.tmp 39)], 29, _, _, none⟩) rfl (fun K hK => ?b14n2k12) AllReadyT.nil))
      case b7n2k13 =>
        refine step_build_one rfl 28 42 (.tmp 32) rfl (.slice none 0 0) 24 Try.underlying28 Try.infoStrs (.slice (some ⟨b1, 0, none⟩) k k) rfl rfl ?_
        intro B7 w7 hB7 hf7 k7
        replace GR := Lib.hid (GR.out.step k7)
        replace HBM := Lib.hid (k7.blk HBM.out (fun h => h))
        try replace HB14 := Lib.hid (k7.blk HB14.out (fun h => h))
        have HB7 := Lib.hid hB7
        clear hB7 hf7 k7
        refine hK.out _ _ ⟨cell_of_row _ _ _ _ _ _ HBM.out, cell_of_row _ _ _ _ _ _ HBM.out⟩ (fun hHeld => ?_)
        clear hK K
        try simp only [Act.put, List.setIfInBounds_toArray, List.set_cons_zero, List.set_cons_succ]
        refine wpAnyT_ready (rs := [8, 14]) (by kernel_rfl) (by simp) ?_
        refine (AllReadyT.cons (o := ⟨some 34, Op.call { callee := Callee.builtin Builtin.append, args := #[Operand.tmp 31, Operand.tmp 33], argTypes := #[28, 28] }, 28, _, _, none⟩) rfl (fun K hK => ?b8n2k15) (AllReadyT.cons (o := ⟨some 40, Op.buildSlice 29 1 #[(0, Operand.tmp 39)], 29, _, _, none⟩) rfl (fun K hK => ?b14n2k14) AllReadyT.nil))
        case b8n2k15 =>
          refine step_append_src rfl (.tmp 31) (.tmp 33) 28 28 rfl 42 (.slice none 0 0) 1 24 Try.underlying28 Try.infoStrs rfl _ pn xs rfl GR.out.own1 _ 1 [.slice (some ⟨b1, 0, none⟩) k k] rfl (src_new Try.underlying28 _ rfl HB7.out) (by unfold maxLen; omega) (by omega) ?_
          intro A8 c8 w8 ho8 k8 hat8
          try replace HB14 := Lib.hid (k8.blk HB14.out (fun h9 => own_ne GR.out.own1 HB14.out (by decide) h9))
          replace HBM := Lib.hid (k8.blk HBM.out (fun h9 => own_ne GR.out.own1 HBM.out (by decide) h9))
          replace GR := Lib.hid (GR.out.app1 ho8 k8 hat8)
          clear ho8 k8 hat8
          refine hK.out _ _ ⟨cell_of_row _ _ _ _ _ _ HBM.out, cell_of_row _ _ _ _ _ _ HBM.out⟩ (fun hHeld => ?_)
          clear hK K
          try simp only [Act.put, List.setIfInBounds_toArray, List.set_cons_zero, List.set_cons_succ]
          refine wpAnyT_ready (rs := [14]) (by kernel_rfl) (by simp) ?_
          refine AllReadyT.cons (o := ⟨some 40, Op.buildSlice 29 1 #[(0, Operand.tmp 39)], 29, _, _, none⟩) rfl (fun K hK => ?_) AllReadyT.nil
          refine step_build_one rfl 29 63 (.tmp 39) rfl (.slice none 0 0) 24 Try.underlying29 Try.infoMfiles (.slice (some ⟨b2, 0, none⟩) k k) rfl rfl ?_
          intro B14 w14 hB14 hf14 k14
          replace GR := Lib.hid (GR.out.step k14)
          replace HBM := Lib.hid (k14.blk HBM.out (fun h => h))
          try replace HB7 := Lib.hid (k14.blk HB7.out (fun h => h))
          have HB14 := Lib.hid hB14
          clear hB14 hf14 k14
          refine hK.out _ _ ⟨cell_of_row _ _ _ _ _ _ HBM.out, cell_of_row _ _ _ _ _ _ HBM.out⟩ (fun hHeld => ?_)
          clear hK K
          try simp only [Act.put, List.setIfInBounds_toArray, List.set_cons_zero, List.set_cons_succ]
          refine wpAnyT_ready (rs := [15]) (by kernel_rfl) (by simp) ?_
          refine AllReadyT.cons (o := ⟨some 41, Op.call { callee := Callee.builtin Builtin.append, args := #[Operand.tmp 38, Operand.tmp 40], argTypes := #[29, 29] }, 29, _, _, none⟩) rfl (fun K hK => ?_) AllReadyT.nil
          refine step_append_src rfl (.tmp 38) (.tmp 40) 29 29 rfl 63 (.slice none 0 0) 1 24 Try.underlying29 Try.infoMfiles rfl _ pn ys rfl GR.out.own2 _ 1 [.slice (some ⟨b2, 0, none⟩) k k] rfl (src_new Try.underlying29 _ rfl HB14.out) (by unfold maxLen; omega) (by omega) ?_
          intro A15 c15 w15 ho15 k15 hat15
          replace HBM := Lib.hid (k15.blk HBM.out (fun h9 => own_ne GR.out.own2 HBM.out (by decide) h9))
          replace GR := Lib.hid (GR.out.app2 ho15 k15 hat15)
          clear ho15 k15 hat15
          refine hK.out _ _ ⟨cell_of_row _ _ _ _ _ _ HBM.out, cell_of_row _ _ _ _ _ _ HBM.out⟩ (fun hHeld => ?_)
          clear hK K
          try simp only [Act.put, List.setIfInBounds_toArray, List.set_cons_zero, List.set_cons_succ]
          refine wpAnyT_done (by kernel_rfl) ?_
          simp only [List.drop_succ_cons, List.drop_zero]
          have y2 : w15.cell? ⟨m, 2, none⟩ = some (.slice A pn c) := cell_of_row _ _ _ _ _ _ HBM.out
          have y3 : w15.cell? ⟨m, 3, none⟩ = some (.slice A' pn c') := cell_of_row _ _ _ _ _ _ HBM.out
          have yf2 : w15.frozen? ⟨m, 2, none⟩ = false := frozen_of_row _ _ _ _ _ HBM.out
          have yf3 : w15.frozen? ⟨m, 3, none⟩ = false := frozen_of_row _ _ _ _ _ HBM.out
          have R := H1.out.more GR.out HPN.out HT.out hxK ok2
          have K9 := Lib.hid (show Kept G w _ from (KK.out.mono (fun i _ e => e ▸ H.out.gn)).step R.2)
          have M9 := Lib.hid (show Md _ (fun i => G i ∨ fresh w _ i) m _ g K from R.1.mono (fun i hi => hi.imp id (fun h9 => ⟨Nat.le_trans KK.out.size h9.1, h9.2⟩)) (fun i hi => hi.elim (fun h9 => Nat.lt_of_lt_of_le (H.out.lt i h9) K9.out.size) (fun h9 => h9.2)))
          clear R z2 z3 hHeld
          go_wp2
          refine NoPanic.normal ?_
          go_wp2
          go_end0
          exact ⟨rfl, M9.out, K9.out⟩
        case b14n2k14 =>
          refine step_build_one rfl 29 63 (.tmp 39) rfl (.slice none 0 0) 24 Try.underlying29 Try.infoMfiles (.slice (some ⟨b2, 0, none⟩) k k) rfl rfl ?_
          intro B14 w14 hB14 hf14 k14
          replace GR := Lib.hid (GR.out.step k14)
          replace HBM := Lib.hid (k14.blk HBM.out (fun h => h))
          try replace HB7 := Lib.hid (k14.blk HB7.out (fun h => h))
          have HB14 := Lib.hid hB14
          clear hB14 hf14 k14
          refine hK.out _ _ ⟨cell_of_row _ _ _ _ _ _ HBM.out, cell_of_row _ _ _ _ _ _ HBM.out⟩ (fun hHeld => ?_)
          clear hK K
          try simp only [Act.put, List.setIfInBounds_toArray, List.set_cons_zero, List.set_cons_succ]
          refine wpAnyT_ready (rs := [8]) (by kernel_rfl) (by simp) ?_
          refine AllReadyT.cons (o := ⟨some 34, Op.call { callee := Callee.builtin Builtin.append, args := #[Operand.tmp 31, Operand.tmp 33], argTypes := #[28, 28] }, 28, _, _, none⟩) rfl (fun K hK => ?_) AllReadyT.nil
          refine step_append_src rfl (.tmp 31) (.tmp 33) 28 28 rfl 42 (.slice none 0 0) 1 24 Try.underlying28 Try.infoStrs rfl _ pn xs rfl GR.out.own1 _ 1 [.slice (some ⟨b1, 0, none⟩) k k] rfl (src_new Try.underlying28 _ rfl HB7.out) (by unfold maxLen; omega) (by omega) ?_
          intro A8 c8 w8 ho8 k8 hat8
          try replace HB14 := Lib.hid (k8.blk HB14.out (fun h9 => own_ne GR.out.own1 HB14.out (by decide) h9))
          replace HBM := Lib.hid (k8.blk HBM.out (fun h9 => own_ne GR.out.own1 HBM.out (by decide) h9))
          replace GR := Lib.hid (GR.out.app1 ho8 k8 hat8)
          clear ho8 k8 hat8
          refine hK.out _ _ ⟨cell_of_row _ _ _ _ _ _ HBM.out, cell_of_row _ _ _ _ _ _ HBM.out⟩ (fun hHeld => ?_)
          clear hK K
          try simp only [Act.put, List.setIfInBounds_toArray, List.set_cons_zero, List.set_cons_succ]
          refine wpAnyT_ready (rs := [15]) (by kernel_rfl) (by simp) ?_
          refine AllReadyT.cons (o := ⟨some 41, Op.call { callee := Callee.builtin Builtin.append, args := #[Operand.tmp 38, Operand.tmp 40], argTypes := #[29, 29] }, 29, _, _, none⟩) rfl (fun K hK => ?_) AllReadyT.nil
          refine step_append_src rfl (.tmp 38) (.tmp 40) 29 29 rfl 63 (.slice none 0 0) 1 24 Try.underlying29 Try.infoMfiles rfl _ pn ys rfl GR.out.own2 _ 1 [.slice (some ⟨b2, 0, none⟩) k k] rfl (src_new Try.underlying29 _ rfl HB14.out) (by unfold maxLen; omega) (by omega) ?_
          intro A15 c15 w15 ho15 k15 hat15
          replace HBM := Lib.hid (k15.blk HBM.out (fun h9 => own_ne GR.out.own2 HBM.out (by decide) h9))
          replace GR := Lib.hid (GR.out.app2 ho15 k15 hat15)
          clear ho15 k15 hat15
          refine hK.out _ _ ⟨cell_of_row _ _ _ _ _ _ HBM.out, cell_of_row _ _ _ _ _ _ HBM.out⟩ (fun hHeld => ?_)
          clear hK K
          try simp only [Act.put, List.setIfInBounds_toArray, List.set_cons_zero, List.set_cons_succ]
          refine wpAnyT_done (by kernel_rfl) ?_
          simp only [List.drop_succ_cons, List.drop_zero]
          have y2 : w15.cell? ⟨m, 2, none⟩ = some (.slice A pn c) := cell_of_row _ _ _ _ _ _ HBM.out
          have y3 : w15.cell? ⟨m, 3, none⟩ = some (.slice A' pn c') := cell_of_row _ _ _ _ _ _ HBM.out
          have yf2 : w15.frozen? ⟨m, 2, none⟩ = false := frozen_of_row _ _ _ _ _ HBM.out
          have yf3 : w15.frozen? ⟨m, 3, none⟩ = false := frozen_of_row _ _ _ _ _ HBM.out
          have R := H1.out.more GR.out HPN.out HT.out hxK ok2
          have K9 := Lib.hid (show Kept G w _ from (KK.out.mono (fun i _ e => e ▸ H.out.gn)).step R.2)
          have M9 := Lib.hid (show Md _ (fun i => G i ∨ fresh w _ i) m _ g K from R.1.mono (fun i hi => hi.imp id (fun h9 => ⟨Nat.le_trans KK.out.size h9.1, h9.2⟩)) (fun i hi => hi.elim (fun h9 => Nat.lt_of_lt_of_le (H.out.lt i h9) K9.out.size) (fun h9 => h9.2)))
          clear R z2 z3 hHeld
          go_wp2
          refine NoPanic.normal ?_
          go_wp2
          go_end0
          exact ⟨rfl, M9.out, K9.out⟩
      case b14n2k12 =>
        refine step_build_one rfl 29 63 (.tmp 39) rfl (.slice none 0 0) 24 Try.underlying29 Try.infoMfiles (.slice (some ⟨b2, 0, none⟩) k k) rfl rfl ?_
        intro B14 w14 hB14 hf14 k14
        replace GR := Lib.hid (GR.out.step k14)
        replace HBM := Lib.hid (k14.blk HBM.out (fun h => h))
        try replace HB7 := Lib.hid (k14.blk HB7.out (fun h => h))
        have HB14 := Lib.hid hB14
        clear hB14 hf14 k14
        refine hK.out _ _ ⟨cell_of_row _ _ _ _ _ _ HBM.out, cell_of_row _ _ _ _ _ _ HBM.out⟩ (fun hHeld => ?_)
        clear hK K
        try simp only [Act.put, List.setIfInBounds_toArray, List.set_cons_zero, List.set_cons_succ]
        refine wpAnyT_ready (rs := [7]) (by kernel_rfl) (by simp) ?_
        refine AllReadyT.cons (o := ⟨some 33, Op.buildSlice 28 1 #[(0, Operand.tmp 32)], 28, _, _, none⟩) rfl (fun K hK => ?_) AllReadyT.nil
        refine step_build_one rfl 28 42 (.tmp 32) rfl (.slice none 0 0) 24 Try.underlying28 Try.infoStrs (.slice (some ⟨b1, 0, none⟩) k k) rfl rfl ?_
        intro B7 w7 hB7 hf7 k7
        replace GR := Lib.hid (GR.out.step k7)
        replace HBM := Lib.hid (k7.blk HBM.out (fun h => h))
        try replace HB14 := Lib.hid (k7.blk HB14.out (fun h => h))
        have HB7 := Lib.hid hB7
        clear hB7 hf7 k7
        refine hK.out _ _ ⟨cell_of_row _ _ _ _ _ _ HBM.out, cell_of_row _ _ _ _ _ _ HBM.out⟩ (fun hHeld => ?_)
        clear hK K
        try simp only [Act.put, List.setIfInBounds_toArray, List.set_cons_zero, List.set_cons_succ]
        refine wpAnyT_ready (rs := [8]) (by kernel_rfl) (by simp) ?_
        refine AllReadyT.cons (o := ⟨some 34, Op.call { callee := Callee.builtin Builtin.append, args := #[Operand.tmp 31, Operand.tmp 33], argTypes := #[28, 28] }, 28, _, _, none⟩) rfl (fun K hK => ?_) AllReadyT.nil
        refine step_append_src rfl (.tmp 31) (.tmp 33) 28 28 rfl 42 (.slice none 0 0) 1 24 Try.underlying28 Try.infoStrs rfl _ pn xs rfl GR.out.own1 _ 1 [.slice (some ⟨b1, 0, none⟩) k k] rfl (src_new Try.underlying28 _ rfl HB7.out) (by unfold maxLen; omega) (by omega) ?_
        intro A8 c8 w8 ho8 k8 hat8
        try replace HB14 := Lib.hid (k8.blk HB14.out (fun h9 => own_ne GR.out.own1 HB14.out (by decide) h9))
        replace HBM := Lib.hid (k8.blk HBM.out (fun h9 => own_ne GR.out.own1 HBM.out (by decide) h9))
        replace GR := Lib.hid (GR.out.app1 ho8 k8 hat8)
        clear ho8 k8 hat8
        refine hK.out _ _ ⟨cell_of_row _ _ _ _ _ _ HBM.out, cell_of_row _ _ _ _ _ _ HBM.out⟩ (fun hHeld => ?_)
        clear hK K
        try simp only [Act.put, List.setIfInBounds_toArray, List.set_cons_zero, List.set_cons_succ]
        refine wpAnyT_ready (rs := [15]) (by kernel_rfl) (by simp) ?_
        refine AllReadyT.cons (o := ⟨some 41, Op.call { callee := Callee.builtin Builtin.append, args := #[Operand.tmp 38, Operand.tmp 40], argTypes := #[29, 29] }, 29, _, _, none⟩) rfl (fun K hK => ?_) AllReadyT.nil
        refine step_append_src rfl (.tmp 38) (.tmp 40) 29 29 rfl 63 (.slice none 0 0) 1 24 Try.underlying29 Try.infoMfiles rfl _ pn ys rfl GR.out.own2 _ 1 [.slice (some ⟨b2, 0, none⟩) k k] rfl (src_new Try.underlying29 _ rfl HB14.out) (by unfold maxLen; omega) (by omega) ?_
        intro A15 c15 w15 ho15 k15 hat15
        replace HBM := Lib.hid (k15.blk HBM.out (fun h9 => own_ne GR.out.own2 HBM.out (by decide) h9))
        replace GR := Lib.hid (GR.out.app2 ho15 k15 hat15)
        clear ho15 k15 hat15
        refine hK.out _ _ ⟨cell_of_row _ _ _ _ _ _ HBM.out, cell_of_row _ _ _ _ _ _ HBM.out⟩ (fun hHeld => ?_)
        clear hK K
        try simp only [Act.put, List.setIfInBounds_toArray, List.set_cons_zero, List.set_cons_succ]
        refine wpAnyT_done (by kernel_rfl) ?_
        simp only [List.drop_succ_cons, List.drop_zero]
        have y2 : w15.cell? ⟨m, 2, none⟩ = some (.slice A pn c) := cell_of_row _ _ _ _ _ _ HBM.out
        have y3 : w15.cell? ⟨m, 3, none⟩ = some (.slice A' pn c') := cell_of_row _ _ _ _ _ _ HBM.out
        have yf2 : w15.frozen? ⟨m, 2, none⟩ = false := frozen_of_row _ _ _ _ _ HBM.out
        have yf3 : w15.frozen? ⟨m, 3, none⟩ = false := frozen_of_row _ _ _ _ _ HBM.out
        have R := H1.out.more GR.out HPN.out HT.out hxK ok2
        have K9 := Lib.hid (show Kept G w _ from (KK.out.mono (fun i _ e => e ▸ H.out.gn)).step R.2)
        have M9 := Lib.hid (show Md _ (fun i => G i ∨ fresh w _ i) m _ g K from R.1.mono (fun i hi => hi.imp id (fun h9 => ⟨Nat.le_trans KK.out.size h9.1, h9.2⟩)) (fun i hi => hi.elim (fun h9 => Nat.lt_of_lt_of_le (H.out.lt i h9) K9.out.size) (fun h9 => h9.2)))
        clear R z2 z3 hHeld
        go_wp2
        refine NoPanic.normal ?_
        go_wp2
        go_end0
        exact ⟨rfl, M9.out, K9.out⟩
end Go.Proofs.Ytdcccjkondjhbaa
