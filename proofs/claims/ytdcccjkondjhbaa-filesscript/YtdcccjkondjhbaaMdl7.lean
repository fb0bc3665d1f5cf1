/-
  The model's methods, sixth part: do. No statement is proved here.
-/
import Derived.Test.YtdcccjkondjhbaaMdl6c
import Derived.StillTailTactics
namespace Go.Proofs.Ytdcccjkondjhbaa
open Go.RowKit Go.Maps

set_option maxRecDepth 100000 in
set_option maxHeartbeats 8000000 in
theorem mdo_any (F G K : Nat → Prop) (m : Nat) (S : St) (g : Nat → Nat) (x : ActV) (a : Option Addr) (n cp : Nat) (b : List UInt8) (f : Nat) (w : World) (h : Md w G m S g K) (hc : S.calls < 1000000) (hf : S.fl f = none) (h64 : S.cur.length < 64)
    (hb : Lies w F a (b.map bv)) (hFG : ∀ i, F i → ¬ G i) (hbn : b.length = n) (hvol : S.vol + n ≤ 1000000000) (hx1 : -32768 ≤ x.num) (hx2 : x.num ≤ 32767) :
    Calls Try.prog 10 #[.pointer (some ⟨m, 0, none⟩), x.val, .slice a n cp] w fun e w' => e = .returned (.int .i64 ((S.do_ x f b).1 : Int)) ∧ (∃ g' K', Md w' (fun i => G i ∨ fresh w w' i) m (S.do_ x f b).2 g' K') ∧ Kept G w w' := by
  obtain ⟨op, na, to_, xA, xc, row, num⟩ := x
  unfold ActV.val
  simp only at hx1 hx2 ⊢
  have hwn : IntKind.i64.wrap num = num := wrap_small (by omega) (by omega)
  obtain ⟨X, hX⟩ : ∃ X : ActV, X = ⟨op, na, to_, xA, xc, row, num⟩ := ⟨_, rfl⟩
  rw [← hX]
  have HX := Lib.hid hX; clear hX
  obtain ⟨L, hL⟩ : ∃ L, L = row.length := ⟨_, rfl⟩
  rw [← hL]
  clear hL
  have k0 := Kept.alloc noBlock w (.cells #[.int .u8 (op.toNat : Int), .int .u8 (na.toNat : Int), .int .u8 (to_.toNat : Int), .slice xA L xc, .int .i16 num] 35)
  have hB := heap_alloc_new w (.cells #[.int .u8 (op.toNat : Int), .int .u8 (na.toNat : Int), .int .u8 (to_.toNat : Int), .slice xA L xc, .int .i16 num] 35)
  have h0 := h.keep k0 (fun _ _ h => h)
  have hb0 := hb.keep k0 (fun _ _ h => h)
  have hlt := h.lt
  generalize hw0 : w.alloc (.cells #[.int .u8 (op.toNat : Int), .int .u8 (na.toNat : Int), .int .u8 (to_.toNat : Int), .slice xA L xc, .int .i16 num] 35) = w0 at k0 hB h0 hb0
  have c0 : w0.cell? ⟨w.heap.size, 0, none⟩ = some (.int .u8 (op.toNat : Int)) := cell_of_row _ _ _ _ _ _ hB
  have c1 : w0.cell? ⟨w.heap.size, 1, none⟩ = some (.int .u8 (na.toNat : Int)) := cell_of_row _ _ _ _ _ _ hB
  have c2 : w0.cell? ⟨w.heap.size, 2, none⟩ = some (.int .u8 (to_.toNat : Int)) := cell_of_row _ _ _ _ _ _ hB
  have c4 : w0.cell? ⟨w.heap.size, 4, none⟩ = some (.int .i16 num) := cell_of_row _ _ _ _ _ _ hB
  have hBG : ¬ G w.heap.size := fun h9 => by have := hlt _ h9; omega
  have HB0 := Lib.hid hb0
  have K0 := Lib.hid k0
  have HLT := Lib.hid hlt
  have HBN := Lib.hid hbn
  have HBG := Lib.hid hBG
  have HF := Lib.hid hf
  have HFG := Lib.hid hFG
  clear hb0 k0 hlt h hb hB hbn hBG hf hFG
  obtain ⟨stop, mn, mk, A, c, A', c', xs, ys, h1⟩ := h0
  have hmb := h1.blk
  unfold mcells at hmb
  have m0 : w0.cell? ⟨m, 0, none⟩ = some (.map (some mn)) := cell_of_row _ _ _ _ _ _ hmb
  have m4 : w0.cell? ⟨m, 4, none⟩ = some (.int .i64 (S.room : Int)) := cell_of_row _ _ _ _ _ _ hmb
  have m6 : w0.cell? ⟨m, 6, none⟩ = some (.bool S.down) := cell_of_row _ _ _ _ _ _ hmb
  have HM := Lib.hid h1; clear h1 hmb
  -- what is left as it was
  have same : Hid (Md w0.drew (fun i => G i ∨ fresh w w0.drew i) m S g K ∧ Kept G w w0.drew) := Lib.hid ⟨((HM.out.keep (Kept.drew noBlock w0) (fun _ _ h => h)).md).mono (fun _ h => .inl h) (fun i hi => hi.elim (fun h9 => HM.out.lt i h9) (fun h9 => h9.2)), (K0.out.mono (fun _ _ h => h.elim)).step (Kept.drew G w0)⟩
  -- what comes of a state behind
  have fin : Hid (∀ (w' : World) (S' : St) (g' : Nat → Nat) (K' G' : Nat → Prop), (∀ i, G' i → G i ∨ w.heap.size ≤ i) → Md w' G' m S' g' K' → Kept G w0 w' → Md w' (fun i => G i ∨ fresh w w' i) m S' g' K' ∧ Kept G w w') := Lib.hid fun w' S' g' K' G' hG' hM k =>
    ⟨hM.mono (fun i hi => (hG' i hi).imp id (fun h9 => ⟨h9, hM.lt i hi⟩)) (fun i hi => hi.elim (fun h9 => Nat.lt_of_lt_of_le (HM.out.lt i h9) k.size) (fun h9 => h9.2)), (K0.out.mono (fun _ _ h => h.elim)).step k⟩
  have hlook := HM.out.now
  have hkeyn := nm_len na
  have HNOW := Lib.hid (hlook.keep (Kept.drew noBlock w0) (fun _ _ h => h)); clear hlook
  have hre := Dir.re_look S.cur g (nm na)
  have HRE := Lib.hid hre; clear hre
  obtain ⟨r, hr⟩ : ∃ r, r = op.toNat % 12 := ⟨_, rfl⟩
  have hri : (op.toNat : Int) % 12 = (r : Int) := by omega
  have hr12 : r < 12 := by omega
  have hdo : S.do_ X f b = S.byOp r na to_ num f b := by rw [HX.out, hr]; exact do_byOp S _ f b
  have HDO := Lib.hid hdo; clear hdo
  have hdd : S.down = true → S.do_ X f b = (7, S) := fun h9 => do_down S h9 X f b
  have HDD := Lib.hid hdd; clear hdd hr
  go_enter Try.func10, Try.ntmps10
  go_upto_region 1 with (fail)
  clear hw0
  refine wp_region_noPanic ?_
  refine wp_region_held_drew (S := fun w' => w'.cell? ⟨w.heap.size, 1, none⟩ = some (.int .u8 (na.toNat : Int)) ∧ w'.cell? ⟨w.heap.size, 4, none⟩ = some (.int .i16 num)) (by kernel_rfl) ⟨c1, c4⟩ (fun hHeld => ?_)
  refine wpAnyH_take (i := 0) (oi := ⟨some 12, Op.fieldAddr 35 (Operand.tmp 4) 1, 0, _, _, none⟩) (v := ?v0n1k1) rfl (by kernel_rfl) (by kernel_rfl) (by kernel_rfl) (fun _ _ _ h => h) (Or.inl ⟨by rfl, ?y0n1k1⟩) hHeld ?z0n1k1
  case y0n1k1 => intro w hSw; (try dsimp only at hSw); go_simp <;> rfl
  try simp only [Act.put, List.setIfInBounds_toArray, List.set_cons_zero, List.set_cons_succ]
  refine wpAnyH_take (i := 1) (oi := ⟨some 13, Op.load 5 (Operand.tmp 12), 5, _, _, none⟩) (v := ?v1n1k2) rfl (by kernel_rfl) (by kernel_rfl) (by kernel_rfl) (fun _ _ _ h => h) (Or.inl ⟨by rfl, ?y1n1k2⟩) hHeld ?z1n1k2
  case y1n1k2 => intro w hSw; (try dsimp only at hSw); go_simp <;> rfl
  try simp only [Act.put, List.setIfInBounds_toArray, List.set_cons_zero, List.set_cons_succ]
  refine wpAnyH_take (i := 3) (oi := ⟨some 15, Op.fieldAddr 35 (Operand.tmp 4) 4, 0, _, _, none⟩) (v := ?v3n1k3) rfl (by kernel_rfl) (by kernel_rfl) (by kernel_rfl) (fun _ _ _ h => h) (Or.inl ⟨by rfl, ?y3n1k3⟩) hHeld ?z3n1k3
  case y3n1k3 => intro w hSw; (try dsimp only at hSw); go_simp <;> rfl
  try simp only [Act.put, List.setIfInBounds_toArray, List.set_cons_zero, List.set_cons_succ]
  refine wpAnyH_take (i := 4) (oi := ⟨some 16, Op.load 33 (Operand.tmp 15), 33, _, _, none⟩) (v := ?v4n1k4) rfl (by kernel_rfl) (by kernel_rfl) (by kernel_rfl) (fun _ _ _ h => h) (Or.inl ⟨by rfl, ?y4n1k4⟩) hHeld ?z4n1k4
  case y4n1k4 => intro w hSw; (try dsimp only at hSw); go_simp <;> rfl
  try simp only [Act.put, List.setIfInBounds_toArray, List.set_cons_zero, List.set_cons_succ]
  refine wpAnyH_take (i := 5) (oi := ⟨some 17, Op.convert 33 3 (Operand.tmp 16), 3, _, _, none⟩) (v := ?v5n1k5) rfl (by kernel_rfl) (by kernel_rfl) (by kernel_rfl) (fun _ _ _ h => h) (Or.inl ⟨by rfl, ?y5n1k5⟩) hHeld ?z5n1k5
  case y5n1k5 => intro w hSw; (try dsimp only at hSw); go_simp <;> rfl
  try simp only [Act.put, List.setIfInBounds_toArray, List.set_cons_zero, List.set_cons_succ]
  refine wpAnyH_ready (rs := [2]) (by kernel_rfl) (by simp) ?_
  refine AllReadyH.cons (o := ⟨some 14, Op.call { callee := Callee.value (Operand.func 24), args := #[Operand.tmp 13], argTypes := #[5] }, 9, _, _, none⟩) rfl (fun K hK => ?_) AllReadyH.nil
  go_simp
  refine (name_any na _).mono ?_
  rintro e w5 ⟨rfl, rfl⟩
  dsimp only
  refine hK.out _ _ ⟨c1, c4⟩ (fun hHeld => ?_)
  clear hK K
  try simp only [Act.put, List.setIfInBounds_toArray, List.set_cons_zero, List.set_cons_succ]
  refine wpAnyH_take (i := 6) (oi := ⟨some 7, Op.assign (Operand.tmp 14), 9, _, _, none⟩) (v := ?v6n1k6) rfl (by kernel_rfl) (by kernel_rfl) (by kernel_rfl) (fun _ _ _ h => h) (Or.inl ⟨by rfl, ?y6n1k6⟩) hHeld ?z6n1k6
  case y6n1k6 => intro w hSw; (try dsimp only at hSw); go_simp <;> rfl
  try simp only [Act.put, List.setIfInBounds_toArray, List.set_cons_zero, List.set_cons_succ]
  refine wpAnyH_take (i := 7) (oi := ⟨some 8, Op.assign (Operand.tmp 17), 3, _, _, none⟩) (v := ?v7n1k7) rfl (by kernel_rfl) (by kernel_rfl) (by kernel_rfl) (fun _ _ _ h => h) (Or.inl ⟨by rfl, ?y7n1k7⟩) hHeld ?z7n1k7
  case y7n1k7 => intro w hSw; (try dsimp only at hSw); go_simp <;> rfl
  try simp only [Act.put, List.setIfInBounds_toArray, List.set_cons_zero, List.set_cons_succ]
  refine wpAnyH_done (by kernel_rfl) ?_ _
  refine NoPanic.normal ?_
  clear hHeld
  have HM' := Lib.hid (HM.out.keep (Kept.drew noBlock w0) (fun _ _ h => h))
  have HBB := Lib.hid (HB0.out.keep (Kept.drew noBlock w0) (fun _ _ h => h))
  have KD := Lib.hid (Kept.drew G w0)
  have d0 : w0.drew.cell? ⟨w.heap.size, 0, none⟩ = some (.int .u8 (op.toNat : Int)) := c0
  have d2 : w0.drew.cell? ⟨w.heap.size, 2, none⟩ = some (.int .u8 (to_.toNat : Int)) := c2
  have d4 : w0.drew.cell? ⟨m, 4, none⟩ = some (.int .i64 (S.room : Int)) := m4
  have d5 : w0.drew.cell? ⟨m, 0, none⟩ = some (.map (some mn)) := m0
  have d6 : w0.drew.cell? ⟨m, 6, none⟩ = some (.bool S.down) := m6
  clear c0 c1 c2 c4 m0 m4 m6
  generalize w0.drew = w1 at HM' HBB KD d0 d2 d4 d5 d6 HNOW same ⊢
  cases hdn : S.down with
  | true =>
    have e1 := HDD.out hdn
    rw [hdn] at d6
    cases hl : Dir.look S.cur (nm na) with
    | none =>
      have hl2 : Dir.look (S.cur.re g) (nm na) = none := by rw [HRE.out, hl]; rfl
      go_wp2_with (at_lookup; refine wpList_look1 rfl _ _ 27 44 rfl Try.underlying27 zeroMfile (some mn) (S.cur.re g) rfl HNOW.out (nm na) rfl hkeyn ?_; rw [hl2]; clear hl2; show wpList _ _ _ _ (Act.put _ _ (Value.pointer none)) _)
      go_ret
      rw [e1]
      exact ⟨rfl, ⟨g, K, same.out.1⟩, same.out.2⟩
    | some f0 =>
      have hl2 : Dir.look (S.cur.re g) (nm na) = some (g f0) := by rw [HRE.out, hl]; rfl
      go_wp2_with (at_lookup; refine wpList_look1 rfl _ _ 27 44 rfl Try.underlying27 zeroMfile (some mn) (S.cur.re g) rfl HNOW.out (nm na) rfl hkeyn ?_; rw [hl2]; clear hl2; show wpList _ _ _ _ (Act.put _ _ (Value.pointer (some ⟨g f0, 0, none⟩))) _)
      go_ret
      rw [e1]
      exact ⟨rfl, ⟨g, K, same.out.1⟩, same.out.2⟩
  | false =>
    rw [hdn] at d6
    have hcall := mcall_any G K m S g stop mn mk A c A' c' xs ys w1 HM'.out hdn hc
    cases hl : Dir.look S.cur (nm na) with
    | none =>
      have hl2 : Dir.look (S.cur.re g) (nm na) = none := by rw [HRE.out, hl]; rfl
      have h12 : r = 0 ∨ r = 1 ∨ r = 2 ∨ r = 3 ∨ r = 4 ∨ r = 5 ∨ r = 6 ∨ r = 7 ∨ r = 8 ∨ r = 9 ∨ r = 10 ∨ r = 11 := by omega
      rcases h12 with rfl | rfl | rfl | rfl | rfl | rfl | rfl | rfl | rfl | rfl | rfl | rfl
      · have o := HM'.out.ok
        rcases S.count_err with he | he
        · have e1 : S.byOp 0 na to_ num f b = _ := create_on (s := nm na) (f := f) hdn hl h64 he
          have hoks := (o.newfl f).chgCount hc ⟨nm na, nm na, some f⟩ hkeyn hkeyn (fun i hi => by injection hi with hi; subst hi; simp [St.setFl])
          rw [count_setFl] at hoks
          have HOKS := Lib.hid hoks
          have HE := Lib.hid e1
          have HOK := Lib.hid ((St.count_ok o hc).newfl f)
          have hfl2 : Hid (S.count.2.fl f = none) := by rw [S.count_fl]; exact HF
          have hd0 : decide (S.count.1 = 0) = true := by rw [he]; rfl
          rw [hd0] at hcall
          clear hoks e1 o he hl hdn
          go_wp2_with (first | (at_lookup; refine wpList_look1 rfl _ _ 27 44 rfl Try.underlying27 zeroMfile (some mn) (S.cur.re g) rfl HNOW.out (nm na) rfl hkeyn ?_; rw [hl2]; clear hl2; show wpList _ _ _ _ (Act.put _ _ (Value.pointer none)) _) | fail)
          refine hcall.mono ?_
          rintro e w2 ⟨rfl, ⟨stop2, h2⟩, k2⟩
          have H2 := Lib.hid h2
          have K2 := Lib.hid (show Kept G w0 w2 from KD.out.trans k2 (fun i _ e => e ▸ HM'.out.gm))
          have hs2 : Hid (w.heap.size ≤ w2.heap.size) := Lib.hid (Nat.le_trans K0.out.size K2.out.size)
          have hbB : w2.cell? ⟨w.heap.size, 2, none⟩ = some (.int .u8 (to_.toNat : Int)) := k2.cell d2 (fun e => HBG.out (by rw [show w.heap.size = m from e]; exact HM'.out.gm))
          clear h2 k2 hcall d0 d2 d4 d5 d6
          go_wp2_with fail
          refine (make_any H2.out.md hfl2.out (nm na) hkeyn HOK.out HOKS.out.1 HOKS.out.2).mono ?_
          rintro e w3 ⟨rfl, ⟨g', K', h3⟩, k3⟩
          have M3 := Lib.hid h3
          have K3 := Lib.hid k3
          clear h3 k3
          go_wp2
          go_ret
          have R := fin.out w3 _ g' K' _ (fun i hi => hi.imp id (fun h9 => Nat.le_trans hs2.out h9.1)) M3.out (K2.out.step K3.out)
          rw [HDO.out, HE.out]
          exact ⟨rfl, ⟨_, _, R.1⟩, R.2⟩

        · have e1 : S.byOp 0 na to_ num f b = _ := create_off (s := nm na) (f := f) hdn hl h64 he
          have HE := Lib.hid e1
          have HOK := Lib.hid ((St.count_ok o hc).newfl f)
          have hfl2 : Hid (S.count.2.fl f = none) := by rw [S.count_fl]; exact HF
          have hd0 : decide (S.count.1 = 0) = false := by rw [he]; rfl
          rw [hd0] at hcall
          clear e1 o he hl hdn
          go_wp2_with (first | (at_lookup; refine wpList_look1 rfl _ _ 27 44 rfl Try.underlying27 zeroMfile (some mn) (S.cur.re g) rfl HNOW.out (nm na) rfl hkeyn ?_; rw [hl2]; clear hl2; show wpList _ _ _ _ (Act.put _ _ (Value.pointer none)) _) | fail)
          refine hcall.mono ?_
          rintro e w2 ⟨rfl, ⟨stop2, h2⟩, k2⟩
          have H2 := Lib.hid h2
          have K2 := Lib.hid (show Kept G w0 w2 from KD.out.trans k2 (fun i _ e => e ▸ HM'.out.gm))
          clear h2 k2 hcall
          go_wp2
          go_ret
          have R := fin.out w2 _ g K G (fun _ h => .inl h) (H2.out.newfl hfl2.out HOK.out).md K2.out
          rw [HDO.out, HE.out]
          exact ⟨rfl, ⟨g, K, R.1⟩, R.2⟩
      · have o := HM'.out.ok
        rcases S.count_err with he | he
        · have e1 : S.byOp 1 na to_ num f b = _ := create_on (s := nm na) (f := f) hdn hl h64 he
          have hoks := (o.newfl f).chgCount hc ⟨nm na, nm na, some f⟩ hkeyn hkeyn (fun i hi => by injection hi with hi; subst hi; simp [St.setFl])
          rw [count_setFl] at hoks
          have HOKS := Lib.hid hoks
          have HE := Lib.hid e1
          have HOK := Lib.hid ((St.count_ok o hc).newfl f)
          have hfl2 : Hid (S.count.2.fl f = none) := by rw [S.count_fl]; exact HF
          have hd0 : decide (S.count.1 = 0) = true := by rw [he]; rfl
          rw [hd0] at hcall
          clear hoks e1 o he hl hdn
          go_wp2_with (first | (at_lookup; refine wpList_look1 rfl _ _ 27 44 rfl Try.underlying27 zeroMfile (some mn) (S.cur.re g) rfl HNOW.out (nm na) rfl hkeyn ?_; rw [hl2]; clear hl2; show wpList _ _ _ _ (Act.put _ _ (Value.pointer none)) _) | fail)
          refine hcall.mono ?_
          rintro e w2 ⟨rfl, ⟨stop2, h2⟩, k2⟩
          have H2 := Lib.hid h2
          have K2 := Lib.hid (show Kept G w0 w2 from KD.out.trans k2 (fun i _ e => e ▸ HM'.out.gm))
          have hs2 : Hid (w.heap.size ≤ w2.heap.size) := Lib.hid (Nat.le_trans K0.out.size K2.out.size)
          have hbB : w2.cell? ⟨w.heap.size, 2, none⟩ = some (.int .u8 (to_.toNat : Int)) := k2.cell d2 (fun e => HBG.out (by rw [show w.heap.size = m from e]; exact HM'.out.gm))
          clear h2 k2 hcall d0 d2 d4 d5 d6
          go_wp2_with fail
          refine (make_any H2.out.md hfl2.out (nm na) hkeyn HOK.out HOKS.out.1 HOKS.out.2).mono ?_
          rintro e w3 ⟨rfl, ⟨g', K', h3⟩, k3⟩
          have M3 := Lib.hid h3
          have K3 := Lib.hid k3
          clear h3 k3
          go_wp2
          go_ret
          have R := fin.out w3 _ g' K' _ (fun i hi => hi.imp id (fun h9 => Nat.le_trans hs2.out h9.1)) M3.out (K2.out.step K3.out)
          rw [HDO.out, HE.out]
          exact ⟨rfl, ⟨_, _, R.1⟩, R.2⟩

        · have e1 : S.byOp 1 na to_ num f b = _ := create_off (s := nm na) (f := f) hdn hl h64 he
          have HE := Lib.hid e1
          have HOK := Lib.hid ((St.count_ok o hc).newfl f)
          have hfl2 : Hid (S.count.2.fl f = none) := by rw [S.count_fl]; exact HF
          have hd0 : decide (S.count.1 = 0) = false := by rw [he]; rfl
          rw [hd0] at hcall
          clear e1 o he hl hdn
          go_wp2_with (first | (at_lookup; refine wpList_look1 rfl _ _ 27 44 rfl Try.underlying27 zeroMfile (some mn) (S.cur.re g) rfl HNOW.out (nm na) rfl hkeyn ?_; rw [hl2]; clear hl2; show wpList _ _ _ _ (Act.put _ _ (Value.pointer none)) _) | fail)
          refine hcall.mono ?_
          rintro e w2 ⟨rfl, ⟨stop2, h2⟩, k2⟩
          have H2 := Lib.hid h2
          have K2 := Lib.hid (show Kept G w0 w2 from KD.out.trans k2 (fun i _ e => e ▸ HM'.out.gm))
          clear h2 k2 hcall
          go_wp2
          go_ret
          have R := fin.out w2 _ g K G (fun _ h => .inl h) (H2.out.newfl hfl2.out HOK.out).md K2.out
          rw [HDO.out, HE.out]
          exact ⟨rfl, ⟨g, K, R.1⟩, R.2⟩
      · have e1 := byOp_none (r := 2) (to_ := to_) (num := num) (f := f) (b := b) hdn hl (by decide) (by decide) (by decide)
        clear hcall
        go_wp2_with (at_lookup; refine wpList_look1 rfl _ _ 27 44 rfl Try.underlying27 zeroMfile (some mn) (S.cur.re g) rfl HNOW.out (nm na) rfl hkeyn ?_; rw [hl2]; clear hl2; show wpList _ _ _ _ (Act.put _ _ (Value.pointer none)) _)
        go_ret
        rw [HDO.out, e1]
        exact ⟨rfl, ⟨g, K, same.out.1⟩, same.out.2⟩
      · have e1 := byOp_none (r := 3) (to_ := to_) (num := num) (f := f) (b := b) hdn hl (by decide) (by decide) (by decide)
        clear hcall
        go_wp2_with (at_lookup; refine wpList_look1 rfl _ _ 27 44 rfl Try.underlying27 zeroMfile (some mn) (S.cur.re g) rfl HNOW.out (nm na) rfl hkeyn ?_; rw [hl2]; clear hl2; show wpList _ _ _ _ (Act.put _ _ (Value.pointer none)) _)
        go_ret
        rw [HDO.out, e1]
        exact ⟨rfl, ⟨g, K, same.out.1⟩, same.out.2⟩
      · have e1 := byOp_none (r := 4) (to_ := to_) (num := num) (f := f) (b := b) hdn hl (by decide) (by decide) (by decide)
        clear hcall
        go_wp2_with (at_lookup; refine wpList_look1 rfl _ _ 27 44 rfl Try.underlying27 zeroMfile (some mn) (S.cur.re g) rfl HNOW.out (nm na) rfl hkeyn ?_; rw [hl2]; clear hl2; show wpList _ _ _ _ (Act.put _ _ (Value.pointer none)) _)
        go_ret
        rw [HDO.out, e1]
        exact ⟨rfl, ⟨g, K, same.out.1⟩, same.out.2⟩
      · have o := HM'.out.ok
        rcases S.count_err with he | he
        · have e1 : S.byOp 5 na to_ num f b = (0, { S.count.2 with safe := S.count.2.cur, pend := [] }) := by
            show S.syncDir = _
            unfold St.syncDir
            rw [if_neg (by rw [hdn]; simp), if_pos he, S.count_cur]
          have okS : Ok { S.count.2 with safe := S.count.2.cur, pend := [] } := by
            have oc := St.count_ok o hc
            exact ⟨oc.cur_len, (by simp only [List.length_nil]; have := oc.cur_len; omega), oc.fl_len, oc.cur_fl, oc.cur_fl, (fun x hx => by simp at hx), (fun x hx => by simp at hx), oc.room_le, oc.calls_le, oc.vol_le, oc.left_lo, oc.left_hi⟩
          have hlen : Hid ((S.count.2.cur.re g).length < 1000000000) := by show _ < _; rw [Dir.re_len, S.count_cur]; omega
          have HOKS := Lib.hid okS
          have HE := Lib.hid e1
          have hd0 : decide (S.count.1 = 0) = true := by rw [he]; rfl
          rw [hd0] at hcall
          clear okS e1 o he hl hdn
          go_wp2_with (first | (at_lookup; refine wpList_look1 rfl _ _ 27 44 rfl Try.underlying27 zeroMfile (some mn) (S.cur.re g) rfl HNOW.out (nm na) rfl hkeyn ?_; rw [hl2]; clear hl2; show wpList _ _ _ _ (Act.put _ _ (Value.pointer none)) _) | fail)
          refine hcall.mono ?_
          rintro e w2 ⟨rfl, ⟨stop2, h2⟩, k2⟩
          have H2 := Lib.hid h2
          have K2 := Lib.hid (show Kept G w0 w2 from KD.out.trans k2 (fun i _ e => e ▸ HM'.out.gm))
          have hs2 : Hid (w.heap.size ≤ w2.heap.size) := Lib.hid (Nat.le_trans K0.out.size K2.out.size)
          have hbB : w2.cell? ⟨w.heap.size, 2, none⟩ = some (.int .u8 (to_.toNat : Int)) := k2.cell d2 (fun e => HBG.out (by rw [show w.heap.size = m from e]; exact HM'.out.gm))
          clear h2 k2 hcall d0 d2 d4 d5 d6
          have hmb := H2.out.blk
          unfold mcells at hmb
          have q0 : w2.cell? ⟨m, 0, none⟩ = some (.map (some mn)) := cell_of_row _ _ _ _ _ _ hmb
          have HMB := Lib.hid hmb; clear hmb
          go_wp2_with fail
          refine (copied_any mn (S.count.2.cur.re g) w2 H2.out.now hlen.out).mono ?_
          rintro e w3 ⟨b', rfl, hN3, k3, hb3⟩
          have hmb := k3.blk HMB.out (fun h => h)
          have z1 : w3.cell? ⟨m, 1, none⟩ = some (.map (some mk)) := cell_of_row _ _ _ _ _ _ hmb
          have z2 : w3.cell? ⟨m, 2, none⟩ = some (.slice A S.count.2.pend.length c) := cell_of_row _ _ _ _ _ _ hmb
          have z3 : w3.cell? ⟨m, 3, none⟩ = some (.slice A' S.count.2.pend.length c') := cell_of_row _ _ _ _ _ _ hmb
          have zf1 : w3.frozen? ⟨m, 1, none⟩ = false := frozen_of_row _ _ _ _ _ hmb
          have zf2 : w3.frozen? ⟨m, 2, none⟩ = false := frozen_of_row _ _ _ _ _ hmb
          have zf3 : w3.frozen? ⟨m, 3, none⟩ = false := frozen_of_row _ _ _ _ _ hmb
          have M3 := Lib.hid (H2.out.synced k3 hN3 hb3 HOKS.out)
          clear hmb hN3 k3 hb3 hbB q0
          go_wp2
          go_ret
          have R := fin.out _ _ g K _ (fun i hi => hi.imp id (fun h9 => Nat.le_trans hs2.out h9.1)) M3.out.1 (K2.out.step M3.out.2)
          rw [HDO.out, HE.out]
          exact ⟨rfl, ⟨_, _, R.1⟩, R.2⟩
        · have e1 : S.byOp 5 na to_ num f b = (7, S.count.2) := by
            show S.syncDir = _
            unfold St.syncDir
            rw [if_neg (by rw [hdn]; simp), if_neg (by rw [he]; simp), ← he]
          have HE := Lib.hid e1
          have hd0 : decide (S.count.1 = 0) = false := by rw [he]; rfl
          rw [hd0] at hcall
          clear e1 o he hl hdn
          go_wp2_with (first | (at_lookup; refine wpList_look1 rfl _ _ 27 44 rfl Try.underlying27 zeroMfile (some mn) (S.cur.re g) rfl HNOW.out (nm na) rfl hkeyn ?_; rw [hl2]; clear hl2; show wpList _ _ _ _ (Act.put _ _ (Value.pointer none)) _) | fail)
          refine hcall.mono ?_
          rintro e w2 ⟨rfl, ⟨stop2, h2⟩, k2⟩
          have H2 := Lib.hid h2
          have K2 := Lib.hid (show Kept G w0 w2 from KD.out.trans k2 (fun i _ e => e ▸ HM'.out.gm))
          clear h2 k2 hcall
          go_wp2
          go_ret
          have R := fin.out w2 _ g K G (fun _ h => .inl h) H2.out.md K2.out
          rw [HDO.out, HE.out]
          exact ⟨rfl, ⟨g, K, R.1⟩, R.2⟩
      · have e1 := byOp_none (r := 6) (to_ := to_) (num := num) (f := f) (b := b) hdn hl (by decide) (by decide) (by decide)
        clear hcall
        go_wp2_with (at_lookup; refine wpList_look1 rfl _ _ 27 44 rfl Try.underlying27 zeroMfile (some mn) (S.cur.re g) rfl HNOW.out (nm na) rfl hkeyn ?_; rw [hl2]; clear hl2; show wpList _ _ _ _ (Act.put _ _ (Value.pointer none)) _)
        go_ret
        rw [HDO.out, e1]
        exact ⟨rfl, ⟨g, K, same.out.1⟩, same.out.2⟩
      · have e1 := byOp_none (r := 7) (to_ := to_) (num := num) (f := f) (b := b) hdn hl (by decide) (by decide) (by decide)
        clear hcall
        go_wp2_with (at_lookup; refine wpList_look1 rfl _ _ 27 44 rfl Try.underlying27 zeroMfile (some mn) (S.cur.re g) rfl HNOW.out (nm na) rfl hkeyn ?_; rw [hl2]; clear hl2; show wpList _ _ _ _ (Act.put _ _ (Value.pointer none)) _)
        go_ret
        rw [HDO.out, e1]
        exact ⟨rfl, ⟨g, K, same.out.1⟩, same.out.2⟩
      · have e1 := byOp_none (r := 8) (to_ := to_) (num := num) (f := f) (b := b) hdn hl (by decide) (by decide) (by decide)
        clear hcall
        go_wp2_with (at_lookup; refine wpList_look1 rfl _ _ 27 44 rfl Try.underlying27 zeroMfile (some mn) (S.cur.re g) rfl HNOW.out (nm na) rfl hkeyn ?_; rw [hl2]; clear hl2; show wpList _ _ _ _ (Act.put _ _ (Value.pointer none)) _)
        go_ret
        rw [HDO.out, e1]
        exact ⟨rfl, ⟨g, K, same.out.1⟩, same.out.2⟩
      · have e1 := byOp_none (r := 9) (to_ := to_) (num := num) (f := f) (b := b) hdn hl (by decide) (by decide) (by decide)
        clear hcall
        go_wp2_with (at_lookup; refine wpList_look1 rfl _ _ 27 44 rfl Try.underlying27 zeroMfile (some mn) (S.cur.re g) rfl HNOW.out (nm na) rfl hkeyn ?_; rw [hl2]; clear hl2; show wpList _ _ _ _ (Act.put _ _ (Value.pointer none)) _)
        go_ret
        rw [HDO.out, e1]
        exact ⟨rfl, ⟨g, K, same.out.1⟩, same.out.2⟩
      · have e1 := byOp_none (r := 10) (to_ := to_) (num := num) (f := f) (b := b) hdn hl (by decide) (by decide) (by decide)
        clear hcall
        go_wp2_with (at_lookup; refine wpList_look1 rfl _ _ 27 44 rfl Try.underlying27 zeroMfile (some mn) (S.cur.re g) rfl HNOW.out (nm na) rfl hkeyn ?_; rw [hl2]; clear hl2; show wpList _ _ _ _ (Act.put _ _ (Value.pointer none)) _)
        go_ret
        rw [HDO.out, e1]
        exact ⟨rfl, ⟨g, K, same.out.1⟩, same.out.2⟩
      · have e1 := byOp_none (r := 11) (to_ := to_) (num := num) (f := f) (b := b) hdn hl (by decide) (by decide) (by decide)
        clear hcall
        go_wp2_with (at_lookup; refine wpList_look1 rfl _ _ 27 44 rfl Try.underlying27 zeroMfile (some mn) (S.cur.re g) rfl HNOW.out (nm na) rfl hkeyn ?_; rw [hl2]; clear hl2; show wpList _ _ _ _ (Act.put _ _ (Value.pointer none)) _)
        go_ret
        rw [HDO.out, e1]
        exact ⟨rfl, ⟨g, K, same.out.1⟩, same.out.2⟩
    | some f0 =>
      obtain ⟨gf, hgf⟩ : ∃ gf, g f0 = gf := ⟨_, rfl⟩
      have hl2 : Dir.look (S.cur.re g) (nm na) = some gf := by rw [HRE.out, hl, ← hgf]; rfl
      have HGF := Lib.hid hgf; clear hgf
      have HK0 := Lib.hid (HM'.out.kcur _ (Dir.mem_of_look hl))
      obtain ⟨l, hfl⟩ := Option.isSome_iff_exists.1 (HM'.out.ok.cur_fl _ (Dir.mem_of_look hl))
      have HFL := Lib.hid (show S.fl f0 = some l from hfl)
      clear hfl
      obtain ⟨ll, hll⟩ : ∃ ll, l.data.length = ll := ⟨_, rfl⟩
      have hsz : (str l.data).size = ll := by rw [str_size, hll]
      have HLL := Lib.hid hll; clear hll
      have hlbig : ll ≤ 1000000000 := by have h9 := (HM'.out.ok.fl_len f0 l HFL.out).1; have h8 := HM'.out.ok.vol_le; have h7 := HLL.out; omega
      have h12 : r = 0 ∨ r = 1 ∨ r = 2 ∨ r = 3 ∨ r = 4 ∨ r = 5 ∨ r = 6 ∨ r = 7 ∨ r = 8 ∨ r = 9 ∨ r = 10 ∨ r = 11 := by omega
      rcases h12 with rfl | rfl | rfl | rfl | rfl | rfl | rfl | rfl | rfl | rfl | rfl | rfl
      · have e1 : S.byOp 0 na to_ num f b = (5, S) := create_some hdn hl
        clear hcall
        go_wp2_with (at_lookup; refine wpList_look1 rfl _ _ 27 44 rfl Try.underlying27 zeroMfile (some mn) (S.cur.re g) rfl HNOW.out (nm na) rfl hkeyn ?_; rw [hl2]; clear hl2; show wpList _ _ _ _ (Act.put _ _ (Value.pointer (some ⟨gf, 0, none⟩))) _)
        go_ret
        rw [HDO.out, e1]
        exact ⟨rfl, ⟨g, K, same.out.1⟩, same.out.2⟩
      · have e1 : S.byOp 1 na to_ num f b = (5, S) := create_some hdn hl
        clear hcall
        go_wp2_with (at_lookup; refine wpList_look1 rfl _ _ 27 44 rfl Try.underlying27 zeroMfile (some mn) (S.cur.re g) rfl HNOW.out (nm na) rfl hkeyn ?_; rw [hl2]; clear hl2; show wpList _ _ _ _ (Act.put _ _ (Value.pointer (some ⟨gf, 0, none⟩))) _)
        go_ret
        rw [HDO.out, e1]
        exact ⟨rfl, ⟨g, K, same.out.1⟩, same.out.2⟩
      · have o := HM'.out.ok
        have e0 : S.byOp 2 na to_ num f b = S.appendAt b f0 := on_some hdn hl _
        unfold St.appendAt at e0
        rw [HBN.out] at e0
        clear hcall
        have hus := mused_any G K m S g w1.drew (HM'.out.keep (Kept.drew noBlock w1) (fun _ _ h => h)).md
        have hub := o.used_le
        have hrb := o.room_le
        obtain ⟨un, hun⟩ : ∃ un, S.used = un := ⟨_, rfl⟩
        obtain ⟨rn, hrn⟩ : ∃ rn, S.room = rn := ⟨_, rfl⟩
        rw [hun] at e0 hus hub
        rw [hrn] at e0 d4 hrb
        have hnb : n ≤ 1000000000 := by omega
        have hwa : IntKind.i64.wrap ((un : Int) + (n : Int)) = (un : Int) + (n : Int) := wrap_small (by omega) (by omega)
        clear hun
        go_upto_region 16 with (first | (at_lookup; refine wpList_look1 rfl _ _ 27 44 rfl Try.underlying27 zeroMfile (some mn) (S.cur.re g) rfl HNOW.out (nm na) rfl hkeyn ?_; rw [hl2]; clear hl2; show wpList _ _ _ _ (Act.put _ _ (Value.pointer (some ⟨gf, 0, none⟩))) _) | fail)
        refine wp_region_noPanic ?_
        refine wp_region_held_drew (S := fun w' => w'.cell? ⟨m, 4, none⟩ = some (.int .i64 (rn : Int))) (by kernel_rfl) d4 (fun hHeld => ?_)
        refine wpAnyH_take (i := 0) (oi := ⟨some 55, Op.move (Operand.tmp 0), 26, _, _, none⟩) (v := ?v0n2k1) rfl (by kernel_rfl) (by kernel_rfl) (by kernel_rfl) (fun _ _ _ h => h) (Or.inl ⟨by rfl, ?y0n2k1⟩) hHeld ?z0n2k1
        case y0n2k1 => intro w hSw; (try dsimp only at hSw); go_simp <;> rfl
        try simp only [Act.put, List.setIfInBounds_toArray, List.set_cons_zero, List.set_cons_succ]
        refine wpAnyH_take (i := 2) (oi := ⟨some 57, Op.move (Operand.tmp 2), 32, _, _, none⟩) (v := ?v2n2k2) rfl (by kernel_rfl) (by kernel_rfl) (by kernel_rfl) (fun _ _ _ h => h) (Or.inl ⟨by rfl, ?y2n2k2⟩) hHeld ?z2n2k2
        case y2n2k2 => intro w hSw; (try dsimp only at hSw); go_simp <;> rfl
        try simp only [Act.put, List.setIfInBounds_toArray, List.set_cons_zero, List.set_cons_succ]
        refine wpAnyH_take (i := 3) (oi := ⟨some 58, Op.call { callee := Callee.builtin Builtin.len, args := #[Operand.tmp 57], argTypes := #[32] }, 3, _, _, none⟩) (v := ?v3n2k3) rfl (by kernel_rfl) (by kernel_rfl) (by kernel_rfl) (fun _ _ _ h => h) (Or.inl ⟨by rfl, ?y3n2k3⟩) hHeld ?z3n2k3
        case y3n2k3 => intro w hSw; (try dsimp only at hSw); go_simp <;> rfl
        try simp only [Act.put, List.setIfInBounds_toArray, List.set_cons_zero, List.set_cons_succ]
        refine wpAnyH_take (i := 5) (oi := ⟨some 60, Op.move (Operand.tmp 0), 26, _, _, none⟩) (v := ?v5n2k4) rfl (by kernel_rfl) (by kernel_rfl) (by kernel_rfl) (fun _ _ _ h => h) (Or.inl ⟨by rfl, ?y5n2k4⟩) hHeld ?z5n2k4
        case y5n2k4 => intro w hSw; (try dsimp only at hSw); go_simp <;> rfl
        try simp only [Act.put, List.setIfInBounds_toArray, List.set_cons_zero, List.set_cons_succ]
        refine wpAnyH_take (i := 6) (oi := ⟨some 61, Op.nilCheck (Operand.tmp 60), 0, _, _, none⟩) (v := ?v6n2k5) rfl (by kernel_rfl) (by kernel_rfl) (by kernel_rfl) (fun _ _ _ h => h) (Or.inl ⟨by rfl, ?y6n2k5⟩) hHeld ?z6n2k5
        case y6n2k5 => intro w hSw; (try dsimp only at hSw); go_simp <;> rfl
        try simp only [Act.put, List.setIfInBounds_toArray, List.set_cons_zero, List.set_cons_succ]
        refine wpAnyH_take (i := 7) (oi := ⟨some 62, Op.fieldAddr 31 (Operand.tmp 61) 4, 0, _, _, none⟩) (v := ?v7n2k6) rfl (by kernel_rfl) (by kernel_rfl) (by kernel_rfl) (fun _ _ _ h => h) (Or.inl ⟨by rfl, ?y7n2k6⟩) hHeld ?z7n2k6
        case y7n2k6 => intro w hSw; (try dsimp only at hSw); go_simp <;> rfl
        try simp only [Act.put, List.setIfInBounds_toArray, List.set_cons_zero, List.set_cons_succ]
        refine wpAnyH_take (i := 8) (oi := ⟨some 63, Op.load 3 (Operand.tmp 62), 3, _, _, none⟩) (v := ?v8n2k7) rfl (by kernel_rfl) (by kernel_rfl) (by kernel_rfl) (fun _ _ _ h => h) (Or.inl ⟨by rfl, ?y8n2k7⟩) hHeld ?z8n2k7
        case y8n2k7 => intro w hSw; (try dsimp only at hSw); go_simp <;> rfl
        try simp only [Act.put, List.setIfInBounds_toArray, List.set_cons_zero, List.set_cons_succ]
        refine wpAnyH_ready (rs := [1]) (by kernel_rfl) (by simp) ?_
        refine AllReadyH.cons (o := ⟨some 56, Op.call { callee := Callee.value (Operand.func 14), args := #[Operand.tmp 55], argTypes := #[26] }, 3, _, _, none⟩) rfl (fun K hK => ?_) AllReadyH.nil
        go_simp
        refine hus.mono ?_
        rintro e w5 ⟨rfl, k5⟩
        dsimp only
        refine hK.out _ _ (k5.cell d4 (fun h => h)) (fun hHeld => ?_)
        clear hK K
        try simp only [Act.put, List.setIfInBounds_toArray, List.set_cons_zero, List.set_cons_succ]
        refine wpAnyH_take (i := 4) (oi := ⟨some 59, Op.binOp BinOp.add 3 (Operand.tmp 56) (Operand.tmp 58) 3, 3, _, _, none⟩) (v := ?v4n2k8) rfl (by kernel_rfl) (by kernel_rfl) (by kernel_rfl) (fun _ _ _ h => h) (Or.inl ⟨by rfl, ?y4n2k8⟩) hHeld ?z4n2k8
        case y4n2k8 => intro w hSw; (try dsimp only at hSw); go_simp <;> rfl
        try simp only [Act.put, List.setIfInBounds_toArray, List.set_cons_zero, List.set_cons_succ]
        refine wpAnyH_take (i := 9) (oi := ⟨some 64, Op.binOp BinOp.gtr 3 (Operand.tmp 59) (Operand.tmp 63) 3, 4, _, _, none⟩) (v := ?v9n2k9) rfl (by kernel_rfl) (by kernel_rfl) (by kernel_rfl) (fun _ _ _ h => h) (Or.inl ⟨by rfl, ?y9n2k9⟩) hHeld ?z9n2k9
        case y9n2k9 => intro w hSw; (try dsimp only at hSw); go_simp <;> rfl
        try simp only [Act.put, List.setIfInBounds_toArray, List.set_cons_zero, List.set_cons_succ]
        refine wpAnyH_done (by kernel_rfl) ?_ _
        refine NoPanic.normal ?_
        have k15 := (Kept.drew noBlock w1).step k5
        have h5 := HM'.out.keep k15 (fun _ _ h => h)
        have K5 := Lib.hid (show Kept G w0 w5 from KD.out.trans k15 (fun _ _ h => h.elim))
        have HB5 := Lib.hid (HBB.out.keep k15 (fun _ _ h => h))
        have H5 := Lib.hid h5
        have hs2 : Hid (w.heap.size ≤ w5.heap.size) := Lib.hid (Nat.le_trans K0.out.size K5.out.size)
        clear hus k15 k5 h5 hHeld d0 d2 d4 d5 d6
        by_cases hfull : rn < n + un
        · rw [if_pos hfull] at e0
          have hgt : (rn : Int) < (un : Int) + (n : Int) := by omega
          have HE := Lib.hid e0
          clear e0 o hl hdn
          go_wp2
          go_ret
          have R := fin.out w5 _ g K G (fun _ h => .inl h) H5.out.md K5.out
          rw [HDO.out, HE.out]
          exact ⟨rfl, ⟨g, K, R.1⟩, R.2⟩
        · rw [if_neg hfull, count_app] at e0
          have hgt : ¬ (rn : Int) < (un : Int) + (n : Int) := by omega
          have hcall := mcall_any G K m S g stop mn mk A c A' c' xs ys w5 H5.out hdn hc
          have hfo := o.fl_len f0 l HFL.out
          have okS : Ok { S.count.2.setFl f0 ⟨l.data ++ b, l.safe⟩ with vol := S.count.2.vol + n } := (St.count_ok o hc).setFl (Nat.le_add_right _ _) (by rw [S.count_vol]; exact hvol) (by rw [S.count_vol, List.length_append, HBN.out]; omega) (by simp only [List.length_append]; omega)
          have hfl2 : Hid (S.count.2.fl f0 = some l) := by rw [S.count_fl]; exact HFL
          have ea : S.count.2.app f0 b = { S.count.2.setFl f0 ⟨l.data ++ b, l.safe⟩ with vol := S.count.2.vol + n } := by unfold St.app; rw [file_eq hfl2.out, HBN.out]
          rw [ea] at e0
          have HOKS := Lib.hid okS
          obtain ⟨on, hon⟩ : ∃ on, decide (S.count.1 = 0) = on := ⟨_, rfl⟩
          rw [hon] at hcall
          have hee : Hid (S.count.1 = if on = true then 0 else 7) := by
            show _ = _
            rcases S.count_err with he | he
            · rw [← hon, he]; rfl
            · rw [← hon, he]; rfl
          have HE := Lib.hid e0
          clear okS ea e0 o hl hdn hfo hon
          go_wp2_with fail
          refine hcall.mono ?_
          rintro e w2 ⟨rfl, ⟨stop2, h2⟩, k2⟩
          have H2 := Lib.hid h2
          have K2 := Lib.hid (show Kept G w0 w2 from K5.out.trans k2 (fun i _ e => e ▸ HM'.out.gm))
          have HB2 := Lib.hid (HB5.out.keep k2 (fun i hi e => HFG.out i hi (by rw [show i = m from e]; exact HM'.out.gm)))
          clear h2 k2 hcall
          have hfb := H2.out.fil f0 l HK0.out hfl2.out
          rw [HGF.out] at hfb
          have p0 : w2.cell? ⟨gf, 0, none⟩ = some (.string (str l.data)) := cell_of_row _ _ _ _ _ _ hfb
          have pf0 : w2.frozen? ⟨gf, 0, none⟩ = false := frozen_of_row _ _ _ _ _ hfb
          have hcv : (convert 32 9 (.slice a n cp)).run Try.prog w2.drew = .ok (.string (str b)) w2.drew := run_str (HB2.out.keep (Kept.drew noBlock w2) (fun _ _ h => h)) HBN.out cp
          have HFB := Lib.hid hfb
          clear hfb
          have hbs : (str b).size = n := by rw [str_size, HBN.out]
          have hcat : ¬ 9223372036854775807 < ll + n := by omega
          go_upto_region 26 with (fail)
          refine wp_region_noPanic ?_
          refine wp_region_any_drew (by kernel_rfl) ?_
          refine wpAny_tail (S := fun w' => w'.cell? ⟨gf, 0, none⟩ = some (.string (str l.data)) ∧ (convert 32 9 (.slice a n cp)).run Try.prog w' = .ok (.string (str b)) w') 10 10 ⟨p0, hcv⟩ (fun hHeld => ?_)
          refine wpAnyT_take (i := 0) (oi := ⟨some 97, Op.move (Operand.tmp 9), 44, _, _, none⟩) (v := ?v0n3k1) rfl (by kernel_rfl) (by kernel_rfl) (by kernel_rfl) (fun _ _ _ h => h) (Or.inl ⟨by rfl, ?y0n3k1⟩) hHeld ?z0n3k1
          case y0n3k1 => intro w hSw; (try dsimp only at hSw); go_simp <;> rfl
          try simp only [Act.put, List.setIfInBounds_toArray, List.set_cons_zero, List.set_cons_succ]
          refine wpAnyT_take (i := 1) (oi := ⟨some 98, Op.move (Operand.tmp 9), 44, _, _, none⟩) (v := ?v1n3k2) rfl (by kernel_rfl) (by kernel_rfl) (by kernel_rfl) (fun _ _ _ h => h) (Or.inl ⟨by rfl, ?y1n3k2⟩) hHeld ?z1n3k2
          case y1n3k2 => intro w hSw; (try dsimp only at hSw); go_simp <;> rfl
          try simp only [Act.put, List.setIfInBounds_toArray, List.set_cons_zero, List.set_cons_succ]
          refine wpAnyT_take (i := 2) (oi := ⟨some 99, Op.nilCheck (Operand.tmp 98), 0, _, _, none⟩) (v := ?v2n3k3) rfl (by kernel_rfl) (by kernel_rfl) (by kernel_rfl) (fun _ _ _ h => h) (Or.inl ⟨by rfl, ?y2n3k3⟩) hHeld ?z2n3k3
          case y2n3k3 => intro w hSw; (try dsimp only at hSw); go_simp <;> rfl
          try simp only [Act.put, List.setIfInBounds_toArray, List.set_cons_zero, List.set_cons_succ]
          refine wpAnyT_take (i := 3) (oi := ⟨some 100, Op.fieldAddr 48 (Operand.tmp 99) 0, 0, _, _, none⟩) (v := ?v3n3k4) rfl (by kernel_rfl) (by kernel_rfl) (by kernel_rfl) (fun _ _ _ h => h) (Or.inl ⟨by rfl, ?y3n3k4⟩) hHeld ?z3n3k4
          case y3n3k4 => intro w hSw; (try dsimp only at hSw); go_simp <;> rfl
          try simp only [Act.put, List.setIfInBounds_toArray, List.set_cons_zero, List.set_cons_succ]
          refine wpAnyT_take (i := 4) (oi := ⟨some 101, Op.load 9 (Operand.tmp 100), 9, _, _, none⟩) (v := ?v4n3k5) rfl (by kernel_rfl) (by kernel_rfl) (by kernel_rfl) (fun _ _ _ h => h) (Or.inl ⟨by rfl, ?y4n3k5⟩) hHeld ?z4n3k5
          case y4n3k5 => intro w hSw; (try dsimp only at hSw); go_simp <;> rfl
          try simp only [Act.put, List.setIfInBounds_toArray, List.set_cons_zero, List.set_cons_succ]
          refine wpAnyT_take (i := 5) (oi := ⟨some 102, Op.move (Operand.tmp 2), 32, _, _, none⟩) (v := ?v5n3k6) rfl (by kernel_rfl) (by kernel_rfl) (by kernel_rfl) (fun _ _ _ h => h) (Or.inl ⟨by rfl, ?y5n3k6⟩) hHeld ?z5n3k6
          case y5n3k6 => intro w hSw; (try dsimp only at hSw); go_simp <;> rfl
          try simp only [Act.put, List.setIfInBounds_toArray, List.set_cons_zero, List.set_cons_succ]
          refine wpAnyT_take (i := 6) (oi := ⟨some 103, Op.convert 32 9 (Operand.tmp 102), 9, _, _, none⟩) (v := ?v6n3k7) rfl (by kernel_rfl) (by kernel_rfl) (by kernel_rfl) (fun _ _ _ h => h) (Or.inl ⟨by rfl, ?y6n3k7⟩) hHeld ?z6n3k7
          case y6n3k7 => intro w hSw; (try dsimp only at hSw); go_simp <;> rfl
          try simp only [Act.put, List.setIfInBounds_toArray, List.set_cons_zero, List.set_cons_succ]
          refine wpAnyT_take (i := 7) (oi := ⟨some 104, Op.binOp BinOp.add 9 (Operand.tmp 101) (Operand.tmp 103) 9, 9, _, _, none⟩) (v := ?v7n3k8) rfl (by kernel_rfl) (by kernel_rfl) (by kernel_rfl) (fun _ _ _ h => h) (Or.inl ⟨by rfl, ?y7n3k8⟩) hHeld ?z7n3k8
          case y7n3k8 => intro w hSw; (try dsimp only at hSw); go_simp <;> rfl
          try simp only [Act.put, List.setIfInBounds_toArray, List.set_cons_zero, List.set_cons_succ]
          refine wpAnyT_take (i := 8) (oi := ⟨some 105, Op.nilCheck (Operand.tmp 97), 0, _, _, none⟩) (v := ?v8n3k9) rfl (by kernel_rfl) (by kernel_rfl) (by kernel_rfl) (fun _ _ _ h => h) (Or.inl ⟨by rfl, ?y8n3k9⟩) hHeld ?z8n3k9
          case y8n3k9 => intro w hSw; (try dsimp only at hSw); go_simp <;> rfl
          try simp only [Act.put, List.setIfInBounds_toArray, List.set_cons_zero, List.set_cons_succ]
          refine wpAnyT_take (i := 9) (oi := ⟨some 106, Op.fieldAddr 48 (Operand.tmp 105) 0, 0, _, _, none⟩) (v := ?v9n3k10) rfl (by kernel_rfl) (by kernel_rfl) (by kernel_rfl) (fun _ _ _ h => h) (Or.inl ⟨by rfl, ?y9n3k10⟩) hHeld ?z9n3k10
          case y9n3k10 => intro w hSw; (try dsimp only at hSw); go_simp <;> rfl
          try simp only [Act.put, List.setIfInBounds_toArray, List.set_cons_zero, List.set_cons_succ]
          refine wpAnyT_done (by kernel_rfl) ?_
          simp only [List.drop_succ_cons, List.drop_zero]
          have kd := Kept.drew (fun i => i = gf) w2
          have hfbd := (Kept.drew noBlock w2).blk HFB.out (fun h => h)
          clear hcv hHeld
          generalize w2.drew = w3 at hfbd kd ⊢
          have y0 : w3.cell? ⟨gf, 0, none⟩ = some (.string (str l.data)) := cell_of_row _ _ _ _ _ _ hfbd
          have yf0 : w3.frozen? ⟨gf, 0, none⟩ = false := frozen_of_row _ _ _ _ _ hfbd
          have k4 : Kept (fun i => i = g f0) w2 (w3.setCell ⟨gf, 0, none⟩ (.string (str l.data ++ str b))) := by rw [HGF.out]; exact kd.step (Kept.setCell w3 (by rfl) _)
          have b4 := heap_setCell_same w3 gf 0 _ 48 (.string (str l.data ++ str b)) hfbd
          have M3 := Lib.hid (H2.out.file HK0.out hfl2.out k4 (l' := ⟨l.data ++ b, l.safe⟩) (v := S.count.2.vol + n) (by rw [HGF.out, b4, str_append]; rfl) HOKS.out)
          have K3 := Lib.hid (show Kept G w2 _ from k4.mono (fun i _ e => e ▸ H2.out.gfil f0 HK0.out))
          clear kd hfbd k4 b4 p0 pf0
          have R := Lib.hid (fin.out _ _ g K G (fun _ h => .inl h) M3.out.md (K2.out.step K3.out))
          cases on with
          | true =>
            have h0 : S.count.1 = 0 := hee.out
            have HC := Lib.hid h0
            clear h0
            go_wp2
            refine NoPanic.normal ?_
            go_wp2
            go_ret
            rw [HDO.out, HE.out, HC.out]
            exact ⟨rfl, ⟨_, _, R.out.1⟩, R.out.2⟩
          | false =>
            have h0 : S.count.1 = 7 := hee.out
            have HC := Lib.hid h0
            clear h0
            go_wp2
            refine NoPanic.normal ?_
            go_wp2
            go_ret
            rw [HDO.out, HE.out, HC.out]
            exact ⟨rfl, ⟨_, _, R.out.1⟩, R.out.2⟩
      · have o := HM'.out.ok
        have e0 : S.byOp 3 na to_ num f b = S.cutAt num f0 := on_some hdn hl _
        unfold St.cutAt at e0
        rw [file_eq HFL.out, HLL.out] at e0
        have hfb := HM'.out.fil f0 l HK0.out HFL.out
        rw [HGF.out] at hfb
        have q0 : w1.cell? ⟨gf, 0, none⟩ = some (.string (str l.data)) := cell_of_row _ _ _ _ _ _ hfb
        clear hfb
        by_cases hneg : num < 0
        · rw [if_pos (.inl hneg)] at e0
          have HE := Lib.hid e0
          clear e0 o hl hdn hcall
          go_wp2_with (first | (at_lookup; refine wpList_look1 rfl _ _ 27 44 rfl Try.underlying27 zeroMfile (some mn) (S.cur.re g) rfl HNOW.out (nm na) rfl hkeyn ?_; rw [hl2]; clear hl2; show wpList _ _ _ _ (Act.put _ _ (Value.pointer (some ⟨gf, 0, none⟩))) _) | fail)
          go_ret
          rw [HDO.out, HE.out]
          exact ⟨rfl, ⟨g, K, same.out.1⟩, same.out.2⟩
        · obtain ⟨kk, rfl⟩ : ∃ kk : Nat, num = (kk : Int) := ⟨num.toNat, by omega⟩
          by_cases hbig : ll < kk
          · rw [if_pos (.inr (by omega))] at e0
            have HE := Lib.hid e0
            clear e0 o hl hdn hcall
            go_wp2_with (first | (at_lookup; refine wpList_look1 rfl _ _ 27 44 rfl Try.underlying27 zeroMfile (some mn) (S.cur.re g) rfl HNOW.out (nm na) rfl hkeyn ?_; rw [hl2]; clear hl2; show wpList _ _ _ _ (Act.put _ _ (Value.pointer (some ⟨gf, 0, none⟩))) _) | fail)
            go_ret
            rw [HDO.out, HE.out]
            exact ⟨rfl, ⟨g, K, same.out.1⟩, same.out.2⟩
          · rw [if_neg (by omega)] at e0
            have hkl : kk ≤ ll := by omega
            rcases S.count_err with he | he
            · rw [if_pos he, Int.toNat_natCast] at e0
              have hfo := o.fl_len f0 l HFL.out
              have hkeepl : (l.keep kk).data.length = kk := by have h9 := HLL.out; simp only [Fl.keep, List.length_take]; omega
              have okS : Ok { S.count.2.setFl f0 (l.keep kk) with vol := S.count.2.vol } := (St.count_ok o hc).setFl (Nat.le_refl _) (by rw [S.count_vol]; exact o.vol_le) (by rw [S.count_vol, hkeepl]; have h9 := HLL.out; omega) (by rw [hkeepl]; simp only [Fl.keep]; omega)
              have hfl2 : Hid (S.count.2.fl f0 = some l) := by rw [S.count_fl]; exact HFL
              have HOKS := Lib.hid okS
              have HE := Lib.hid e0
              have hd0 : decide (S.count.1 = 0) = true := by rw [he]; rfl
              rw [hd0] at hcall
              clear okS e0 o he hl hdn hfo hkeepl
              go_wp2_with (first | (at_lookup; refine wpList_look1 rfl _ _ 27 44 rfl Try.underlying27 zeroMfile (some mn) (S.cur.re g) rfl HNOW.out (nm na) rfl hkeyn ?_; rw [hl2]; clear hl2; show wpList _ _ _ _ (Act.put _ _ (Value.pointer (some ⟨gf, 0, none⟩))) _) | fail)
              refine hcall.mono ?_
              rintro e w2 ⟨rfl, ⟨stop2, h2⟩, k2⟩
              have H2 := Lib.hid h2
              have K2 := Lib.hid (show Kept G w0 w2 from KD.out.trans k2 (fun i _ e => e ▸ HM'.out.gm))
              have hs2 : Hid (w.heap.size ≤ w2.heap.size) := Lib.hid (Nat.le_trans K0.out.size K2.out.size)
              have hbB : w2.cell? ⟨w.heap.size, 2, none⟩ = some (.int .u8 (to_.toNat : Int)) := k2.cell d2 (fun e => HBG.out (by rw [show w.heap.size = m from e]; exact HM'.out.gm))
              clear h2 k2 hcall d0 d2 d4 d5 d6
              have hfb := H2.out.fil f0 l HK0.out hfl2.out
              rw [HGF.out] at hfb
              have p0 : w2.cell? ⟨gf, 0, none⟩ = some (.string (str l.data)) := cell_of_row _ _ _ _ _ _ hfb
              have p1 : w2.cell? ⟨gf, 1, none⟩ = some (.int .i64 (l.safe : Int)) := cell_of_row _ _ _ _ _ _ hfb
              have pf0 : w2.frozen? ⟨gf, 0, none⟩ = false := frozen_of_row _ _ _ _ _ hfb
              have pf1 : w2.frozen? ⟨gf, 1, none⟩ = false := frozen_of_row _ _ _ _ _ hfb
              have HFB := Lib.hid hfb
              clear hfb q0
              obtain ⟨sm, hsm⟩ : ∃ sm, sm = min l.safe kk := ⟨_, rfl⟩
              have hm1 : (if (kk : Int) < (l.safe : Int) then (kk : Int) else (l.safe : Int)) = (sm : Int) := by split <;> omega
              have hm2 : min (l.safe : Int) (kk : Int) = (sm : Int) := by omega
              have HSM := Lib.hid hsm; clear hsm
              go_upto_region 34 with (fail)
              have HFBd := Lib.hid ((Kept.drew noBlock w2).blk HFB.out (fun h => h))
              refine wp_region_noPanic ?_
              refine wp_region_any_drew (by kernel_rfl) ?_
              refine wpAny_tail (S := fun w' => w'.cell? ⟨gf, 1, none⟩ = some (.int .i64 (l.safe : Int))) 19 19 p1 (fun hHeld => ?_)
              refine wpAnyT_take (i := 0) (oi := ⟨some 122, Op.move (Operand.tmp 9), 44, _, _, none⟩) (v := ?v0n4k1) rfl (by kernel_rfl) (by kernel_rfl) (by kernel_rfl) (fun _ _ _ h => h) (Or.inl ⟨by rfl, ?y0n4k1⟩) hHeld ?z0n4k1
              case y0n4k1 => intro w hSw; (try dsimp only at hSw); go_simp <;> rfl
              try simp only [Act.put, List.setIfInBounds_toArray, List.set_cons_zero, List.set_cons_succ]
              refine wpAnyT_take (i := 1) (oi := ⟨some 123, Op.move (Operand.tmp 9), 44, _, _, none⟩) (v := ?v1n4k2) rfl (by kernel_rfl) (by kernel_rfl) (by kernel_rfl) (fun _ _ _ h => h) (Or.inl ⟨by rfl, ?y1n4k2⟩) hHeld ?z1n4k2
              case y1n4k2 => intro w hSw; (try dsimp only at hSw); go_simp <;> rfl
              try simp only [Act.put, List.setIfInBounds_toArray, List.set_cons_zero, List.set_cons_succ]
              refine wpAnyT_take (i := 2) (oi := ⟨some 124, Op.move (Operand.tmp 9), 44, _, _, none⟩) (v := ?v2n4k3) rfl (by kernel_rfl) (by kernel_rfl) (by kernel_rfl) (fun _ _ _ h => h) (Or.inl ⟨by rfl, ?y2n4k3⟩) hHeld ?z2n4k3
              case y2n4k3 => intro w hSw; (try dsimp only at hSw); go_simp <;> rfl
              try simp only [Act.put, List.setIfInBounds_toArray, List.set_cons_zero, List.set_cons_succ]
              refine wpAnyT_take (i := 3) (oi := ⟨some 125, Op.nilCheck (Operand.tmp 124), 0, _, _, none⟩) (v := ?v3n4k4) rfl (by kernel_rfl) (by kernel_rfl) (by kernel_rfl) (fun _ _ _ h => h) (Or.inl ⟨by rfl, ?y3n4k4⟩) hHeld ?z3n4k4
              case y3n4k4 => intro w hSw; (try dsimp only at hSw); go_simp <;> rfl
              try simp only [Act.put, List.setIfInBounds_toArray, List.set_cons_zero, List.set_cons_succ]
              refine wpAnyT_take (i := 4) (oi := ⟨some 126, Op.fieldAddr 48 (Operand.tmp 125) 0, 0, _, _, none⟩) (v := ?v4n4k5) rfl (by kernel_rfl) (by kernel_rfl) (by kernel_rfl) (fun _ _ _ h => h) (Or.inl ⟨by rfl, ?y4n4k5⟩) hHeld ?z4n4k5
              case y4n4k5 => intro w hSw; (try dsimp only at hSw); go_simp <;> rfl
              try simp only [Act.put, List.setIfInBounds_toArray, List.set_cons_zero, List.set_cons_succ]
              refine wpAnyT_take (i := 6) (oi := ⟨some 128, Op.move (Operand.tmp 8), 3, _, _, none⟩) (v := ?v6n4k6) rfl (by kernel_rfl) (by kernel_rfl) (by kernel_rfl) (fun _ _ _ h => h) (Or.inl ⟨by rfl, ?y6n4k6⟩) hHeld ?z6n4k6
              case y6n4k6 => intro w hSw; (try dsimp only at hSw); go_simp <;> rfl
              try simp only [Act.put, List.setIfInBounds_toArray, List.set_cons_zero, List.set_cons_succ]
              refine wpAnyT_take (i := 8) (oi := ⟨some 130, Op.move (Operand.tmp 9), 44, _, _, none⟩) (v := ?v8n4k7) rfl (by kernel_rfl) (by kernel_rfl) (by kernel_rfl) (fun _ _ _ h => h) (Or.inl ⟨by rfl, ?y8n4k7⟩) hHeld ?z8n4k7
              case y8n4k7 => intro w hSw; (try dsimp only at hSw); go_simp <;> rfl
              try simp only [Act.put, List.setIfInBounds_toArray, List.set_cons_zero, List.set_cons_succ]
              refine wpAnyT_take (i := 9) (oi := ⟨some 131, Op.nilCheck (Operand.tmp 130), 0, _, _, none⟩) (v := ?v9n4k8) rfl (by kernel_rfl) (by kernel_rfl) (by kernel_rfl) (fun _ _ _ h => h) (Or.inl ⟨by rfl, ?y9n4k8⟩) hHeld ?z9n4k8
              case y9n4k8 => intro w hSw; (try dsimp only at hSw); go_simp <;> rfl
              try simp only [Act.put, List.setIfInBounds_toArray, List.set_cons_zero, List.set_cons_succ]
              refine wpAnyT_take (i := 10) (oi := ⟨some 132, Op.fieldAddr 48 (Operand.tmp 131) 1, 0, _, _, none⟩) (v := ?v10n4k9) rfl (by kernel_rfl) (by kernel_rfl) (by kernel_rfl) (fun _ _ _ h => h) (Or.inl ⟨by rfl, ?y10n4k9⟩) hHeld ?z10n4k9
              case y10n4k9 => intro w hSw; (try dsimp only at hSw); go_simp <;> rfl
              try simp only [Act.put, List.setIfInBounds_toArray, List.set_cons_zero, List.set_cons_succ]
              refine wpAnyT_take (i := 11) (oi := ⟨some 133, Op.load 3 (Operand.tmp 132), 3, _, _, none⟩) (v := ?v11n4k10) rfl (by kernel_rfl) (by kernel_rfl) (by kernel_rfl) (fun _ _ _ h => h) (Or.inl ⟨by rfl, ?y11n4k10⟩) hHeld ?z11n4k10
              case y11n4k10 => intro w hSw; (try dsimp only at hSw); go_simp <;> rfl
              try simp only [Act.put, List.setIfInBounds_toArray, List.set_cons_zero, List.set_cons_succ]
              refine wpAnyT_take (i := 12) (oi := ⟨some 134, Op.move (Operand.tmp 8), 3, _, _, none⟩) (v := ?v12n4k11) rfl (by kernel_rfl) (by kernel_rfl) (by kernel_rfl) (fun _ _ _ h => h) (Or.inl ⟨by rfl, ?y12n4k11⟩) hHeld ?z12n4k11
              case y12n4k11 => intro w hSw; (try dsimp only at hSw); go_simp <;> rfl
              try simp only [Act.put, List.setIfInBounds_toArray, List.set_cons_zero, List.set_cons_succ]
              refine wpAnyT_take (i := 13) (oi := ⟨some 135, Op.call { callee := Callee.builtin Builtin.min, args := #[Operand.tmp 133, Operand.tmp 134], argTypes := #[3, 3] }, 3, _, _, none⟩) (v := ?v13n4k12) rfl (by kernel_rfl) (by kernel_rfl) (by kernel_rfl) (fun _ _ _ h => h) (Or.inl ⟨by rfl, ?y13n4k12⟩) hHeld ?z13n4k12
              case y13n4k12 => intro w hSw; (try dsimp only at hSw); go_simp <;> rfl
              try simp only [Act.put, List.setIfInBounds_toArray, List.set_cons_zero, List.set_cons_succ]
              refine wpAnyT_ready (rs := [5]) (by kernel_rfl) (by simp) ?_
              refine AllReadyT.cons (o := ⟨some 127, Op.load 9 (Operand.tmp 126), 9, _, _, none⟩) rfl (fun K hK => ?_) AllReadyT.nil
              go_simp
              refine hK.out _ _ p1 (fun hHeld => ?_)
              clear hK K
              try simp only [Act.put, List.setIfInBounds_toArray, List.set_cons_zero, List.set_cons_succ]
              refine wpAnyT_take (i := 7) (oi := ⟨some 129, Op.slice 9 (Operand.tmp 127) none (some (Operand.tmp 128)) none, 9, _, _, none⟩) (v := ?v7n4k13) rfl (by kernel_rfl) (by kernel_rfl) (by kernel_rfl) (fun _ _ _ h => h) (Or.inl ⟨by rfl, ?y7n4k13⟩) hHeld ?z7n4k13
              case y7n4k13 => intro w hSw; (try dsimp only at hSw); go_simp <;> rfl
              try simp only [Act.put, List.setIfInBounds_toArray, List.set_cons_zero, List.set_cons_succ]
              refine wpAnyT_take (i := 14) (oi := ⟨some 136, Op.nilCheck (Operand.tmp 122), 0, _, _, none⟩) (v := ?v14n4k14) rfl (by kernel_rfl) (by kernel_rfl) (by kernel_rfl) (fun _ _ _ h => h) (Or.inl ⟨by rfl, ?y14n4k14⟩) hHeld ?z14n4k14
              case y14n4k14 => intro w hSw; (try dsimp only at hSw); go_simp <;> rfl
              try simp only [Act.put, List.setIfInBounds_toArray, List.set_cons_zero, List.set_cons_succ]
              refine wpAnyT_take (i := 15) (oi := ⟨some 137, Op.fieldAddr 48 (Operand.tmp 136) 0, 0, _, _, none⟩) (v := ?v15n4k15) rfl (by kernel_rfl) (by kernel_rfl) (by kernel_rfl) (fun _ _ _ h => h) (Or.inl ⟨by rfl, ?y15n4k15⟩) hHeld ?z15n4k15
              case y15n4k15 => intro w hSw; (try dsimp only at hSw); go_simp <;> rfl
              try simp only [Act.put, List.setIfInBounds_toArray, List.set_cons_zero, List.set_cons_succ]
              refine wpAnyT_ready (rs := [16]) (by kernel_rfl) (by simp) ?_
              refine AllReadyT.cons (o := ⟨none, Op.store 9 (Operand.tmp 137) (Operand.tmp 129), 0, _, _, none⟩) rfl (fun K hK => ?_) AllReadyT.nil
              go_simp
              refine hK.out _ _ (cell_of_row _ _ _ _ _ _ (heap_setCell_same _ gf 0 _ 48 _ HFBd.out)) (fun hHeld => ?_)
              clear hK K
              try simp only [Act.put, List.setIfInBounds_toArray, List.set_cons_zero, List.set_cons_succ]
              refine wpAnyT_take (i := 17) (oi := ⟨some 138, Op.nilCheck (Operand.tmp 123), 0, _, _, none⟩) (v := ?v17n4k16) rfl (by kernel_rfl) (by kernel_rfl) (by kernel_rfl) (fun _ _ _ h => h) (Or.inl ⟨by rfl, ?y17n4k16⟩) hHeld ?z17n4k16
              case y17n4k16 => intro w hSw; (try dsimp only at hSw); go_simp <;> rfl
              try simp only [Act.put, List.setIfInBounds_toArray, List.set_cons_zero, List.set_cons_succ]
              refine wpAnyT_take (i := 18) (oi := ⟨some 139, Op.fieldAddr 48 (Operand.tmp 138) 1, 0, _, _, none⟩) (v := ?v18n4k17) rfl (by kernel_rfl) (by kernel_rfl) (by kernel_rfl) (fun _ _ _ h => h) (Or.inl ⟨by rfl, ?y18n4k17⟩) hHeld ?z18n4k17
              case y18n4k17 => intro w hSw; (try dsimp only at hSw); go_simp <;> rfl
              try simp only [Act.put, List.setIfInBounds_toArray, List.set_cons_zero, List.set_cons_succ]
              refine wpAnyT_done (by kernel_rfl) ?_
              simp only [List.drop_succ_cons, List.drop_zero]
              have k3 : Kept (fun i => i = gf) w2 (w2.setCell ⟨gf, 0, none⟩ (.string ((str l.data).extract 0 kk))).drew := (Kept.setCell (S := fun i => i = gf) w2 (by rfl) _).step (Kept.drew _ _)
              have b3 : (w2.setCell ⟨gf, 0, none⟩ (.string ((str l.data).extract 0 kk))).drew.heap[gf]? = some (.cells #[.string (str (l.data.take kk)), .int .i64 (l.safe : Int)] 48 (0, 0)) := by
                rw [← str_extract]
                exact heap_setCell_same w2 gf 0 _ 48 (.string ((str l.data).extract 0 kk)) HFB.out
              generalize (w2.setCell ⟨gf, 0, none⟩ (.string ((str l.data).extract 0 kk))).drew = w3 at k3 b3 ⊢
              have y1 : w3.cell? ⟨gf, 1, none⟩ = some (.int .i64 (l.safe : Int)) := cell_of_row _ _ _ _ _ _ b3
              have yf1 : w3.frozen? ⟨gf, 1, none⟩ = false := frozen_of_row _ _ _ _ _ b3
              have k4 : Kept (fun i => i = g f0) w2 (w3.setCell ⟨gf, 1, none⟩ (.int .i64 (sm : Int))) := by rw [HGF.out]; exact k3.step (Kept.setCell w3 (by rfl) _)
              have b4 := heap_setCell_same w3 gf 1 _ 48 (.int .i64 (sm : Int)) b3
              have M3 := Lib.hid (H2.out.file HK0.out hfl2.out k4 (l' := l.keep kk) (v := S.count.2.vol) (by rw [HGF.out, b4, HSM.out]; rfl) HOKS.out)
              have K3 := Lib.hid (show Kept G w2 _ from k4.mono (fun i _ e => e ▸ H2.out.gfil f0 HK0.out))
              clear k3 b3 k4 b4 p0 p1 pf0 pf1 hHeld
              go_wp2
              refine NoPanic.normal ?_
              go_wp2
              go_ret
              have R := fin.out _ _ g K G (fun _ h => .inl h) M3.out.md (K2.out.step K3.out)
              rw [HDO.out, HE.out]
              exact ⟨rfl, ⟨_, _, R.1⟩, R.2⟩
            · rw [if_neg (by rw [he]; simp), show S.count = (7, S.count.2) by rw [← he]] at e0
              have HE := Lib.hid e0
              have hd0 : decide (S.count.1 = 0) = false := by rw [he]; rfl
              rw [hd0] at hcall
              clear e0 o he hl hdn
              go_wp2_with (first | (at_lookup; refine wpList_look1 rfl _ _ 27 44 rfl Try.underlying27 zeroMfile (some mn) (S.cur.re g) rfl HNOW.out (nm na) rfl hkeyn ?_; rw [hl2]; clear hl2; show wpList _ _ _ _ (Act.put _ _ (Value.pointer (some ⟨gf, 0, none⟩))) _) | fail)
              refine hcall.mono ?_
              rintro e w2 ⟨rfl, ⟨stop2, h2⟩, k2⟩
              have H2 := Lib.hid h2
              have K2 := Lib.hid (show Kept G w0 w2 from KD.out.trans k2 (fun i _ e => e ▸ HM'.out.gm))
              clear h2 k2 hcall
              go_wp2
              go_ret
              have R := fin.out w2 _ g K G (fun _ h => .inl h) H2.out.md K2.out
              rw [HDO.out, HE.out]
              exact ⟨rfl, ⟨g, K, R.1⟩, R.2⟩
      · have o := HM'.out.ok
        have e0 : S.byOp 4 na to_ num f b = S.syncAt f0 := on_some hdn hl _
        unfold St.syncAt at e0
        rw [file_eq HFL.out] at e0
        rcases S.count_err with he | he
        · rw [if_pos he] at e0
          have okS : Ok { S.count.2.setFl f0 ⟨l.data, l.data.length⟩ with vol := S.count.2.vol } := (St.count_ok o hc).setFl (Nat.le_refl _) (by rw [S.count_vol]; exact o.vol_le) (by rw [S.count_vol]; exact (o.fl_len f0 l HFL.out).1) (Nat.le_refl _)
          have hfl2 : Hid (S.count.2.fl f0 = some l) := by rw [S.count_fl]; exact HFL
          have HOKS := Lib.hid okS
          have HE := Lib.hid e0
          have hd0 : decide (S.count.1 = 0) = true := by rw [he]; rfl
          rw [hd0] at hcall
          clear okS e0 o he hl hdn
          go_wp2_with (first | (at_lookup; refine wpList_look1 rfl _ _ 27 44 rfl Try.underlying27 zeroMfile (some mn) (S.cur.re g) rfl HNOW.out (nm na) rfl hkeyn ?_; rw [hl2]; clear hl2; show wpList _ _ _ _ (Act.put _ _ (Value.pointer (some ⟨gf, 0, none⟩))) _) | fail)
          refine hcall.mono ?_
          rintro e w2 ⟨rfl, ⟨stop2, h2⟩, k2⟩
          have H2 := Lib.hid h2
          have K2 := Lib.hid (show Kept G w0 w2 from KD.out.trans k2 (fun i _ e => e ▸ HM'.out.gm))
          have hs2 : Hid (w.heap.size ≤ w2.heap.size) := Lib.hid (Nat.le_trans K0.out.size K2.out.size)
          have hbB : w2.cell? ⟨w.heap.size, 2, none⟩ = some (.int .u8 (to_.toNat : Int)) := k2.cell d2 (fun e => HBG.out (by rw [show w.heap.size = m from e]; exact HM'.out.gm))
          clear h2 k2 hcall d0 d2 d4 d5 d6
          have hfb := H2.out.fil f0 l HK0.out hfl2.out
          rw [HGF.out] at hfb
          have q0 : w2.cell? ⟨gf, 0, none⟩ = some (.string (str l.data)) := cell_of_row _ _ _ _ _ _ hfb
          have q1 : w2.cell? ⟨gf, 1, none⟩ = some (.int .i64 (l.safe : Int)) := cell_of_row _ _ _ _ _ _ hfb
          have qf : w2.frozen? ⟨gf, 1, none⟩ = false := frozen_of_row _ _ _ _ _ hfb
          have k3 : Kept (fun i => i = g f0) w2 (w2.setCell ⟨gf, 1, none⟩ (.int .i64 (ll : Int))) := Kept.setCell w2 (by rw [HGF.out]) _
          have b3 := heap_setCell_same w2 gf 1 _ 48 (.int .i64 (ll : Int)) hfb
          have M3 := Lib.hid (H2.out.file HK0.out hfl2.out k3 (l' := ⟨l.data, l.data.length⟩) (v := S.count.2.vol) (by rw [HGF.out, b3, HLL.out]; rfl) HOKS.out)
          have K3 := Lib.hid (show Kept G w2 _ from k3.mono (fun i _ e => e ▸ H2.out.gfil f0 HK0.out))
          clear hfb k3 b3
          go_wp2
          go_ret
          have R := fin.out _ _ g K G (fun _ h => .inl h) M3.out.md (K2.out.step K3.out)
          rw [HDO.out, HE.out]
          exact ⟨rfl, ⟨_, _, R.1⟩, R.2⟩
        · rw [if_neg (by rw [he]; simp), show S.count = (7, S.count.2) by rw [← he]] at e0
          have HE := Lib.hid e0
          have hd0 : decide (S.count.1 = 0) = false := by rw [he]; rfl
          rw [hd0] at hcall
          clear e0 o he hl hdn
          go_wp2_with (first | (at_lookup; refine wpList_look1 rfl _ _ 27 44 rfl Try.underlying27 zeroMfile (some mn) (S.cur.re g) rfl HNOW.out (nm na) rfl hkeyn ?_; rw [hl2]; clear hl2; show wpList _ _ _ _ (Act.put _ _ (Value.pointer (some ⟨gf, 0, none⟩))) _) | fail)
          refine hcall.mono ?_
          rintro e w2 ⟨rfl, ⟨stop2, h2⟩, k2⟩
          have H2 := Lib.hid h2
          have K2 := Lib.hid (show Kept G w0 w2 from KD.out.trans k2 (fun i _ e => e ▸ HM'.out.gm))
          clear h2 k2 hcall
          go_wp2
          go_ret
          have R := fin.out w2 _ g K G (fun _ h => .inl h) H2.out.md K2.out
          rw [HDO.out, HE.out]
          exact ⟨rfl, ⟨g, K, R.1⟩, R.2⟩
      · have o := HM'.out.ok
        rcases S.count_err with he | he
        · have e1 : S.byOp 5 na to_ num f b = (0, { S.count.2 with safe := S.count.2.cur, pend := [] }) := by
            show S.syncDir = _
            unfold St.syncDir
            rw [if_neg (by rw [hdn]; simp), if_pos he, S.count_cur]
          have okS : Ok { S.count.2 with safe := S.count.2.cur, pend := [] } := by
            have oc := St.count_ok o hc
            exact ⟨oc.cur_len, (by simp only [List.length_nil]; have := oc.cur_len; omega), oc.fl_len, oc.cur_fl, oc.cur_fl, (fun x hx => by simp at hx), (fun x hx => by simp at hx), oc.room_le, oc.calls_le, oc.vol_le, oc.left_lo, oc.left_hi⟩
          have hlen : Hid ((S.count.2.cur.re g).length < 1000000000) := by show _ < _; rw [Dir.re_len, S.count_cur]; omega
          have HOKS := Lib.hid okS
          have HE := Lib.hid e1
          have hd0 : decide (S.count.1 = 0) = true := by rw [he]; rfl
          rw [hd0] at hcall
          clear okS e1 o he hl hdn
          go_wp2_with (first | (at_lookup; refine wpList_look1 rfl _ _ 27 44 rfl Try.underlying27 zeroMfile (some mn) (S.cur.re g) rfl HNOW.out (nm na) rfl hkeyn ?_; rw [hl2]; clear hl2; show wpList _ _ _ _ (Act.put _ _ (Value.pointer (some ⟨gf, 0, none⟩))) _) | fail)
          refine hcall.mono ?_
          rintro e w2 ⟨rfl, ⟨stop2, h2⟩, k2⟩
          have H2 := Lib.hid h2
          have K2 := Lib.hid (show Kept G w0 w2 from KD.out.trans k2 (fun i _ e => e ▸ HM'.out.gm))
          have hs2 : Hid (w.heap.size ≤ w2.heap.size) := Lib.hid (Nat.le_trans K0.out.size K2.out.size)
          have hbB : w2.cell? ⟨w.heap.size, 2, none⟩ = some (.int .u8 (to_.toNat : Int)) := k2.cell d2 (fun e => HBG.out (by rw [show w.heap.size = m from e]; exact HM'.out.gm))
          clear h2 k2 hcall d0 d2 d4 d5 d6
          have hmb := H2.out.blk
          unfold mcells at hmb
          have q0 : w2.cell? ⟨m, 0, none⟩ = some (.map (some mn)) := cell_of_row _ _ _ _ _ _ hmb
          have HMB := Lib.hid hmb; clear hmb
          go_wp2_with fail
          refine (copied_any mn (S.count.2.cur.re g) w2 H2.out.now hlen.out).mono ?_
          rintro e w3 ⟨b', rfl, hN3, k3, hb3⟩
          have hmb := k3.blk HMB.out (fun h => h)
          have z1 : w3.cell? ⟨m, 1, none⟩ = some (.map (some mk)) := cell_of_row _ _ _ _ _ _ hmb
          have z2 : w3.cell? ⟨m, 2, none⟩ = some (.slice A S.count.2.pend.length c) := cell_of_row _ _ _ _ _ _ hmb
          have z3 : w3.cell? ⟨m, 3, none⟩ = some (.slice A' S.count.2.pend.length c') := cell_of_row _ _ _ _ _ _ hmb
          have zf1 : w3.frozen? ⟨m, 1, none⟩ = false := frozen_of_row _ _ _ _ _ hmb
          have zf2 : w3.frozen? ⟨m, 2, none⟩ = false := frozen_of_row _ _ _ _ _ hmb
          have zf3 : w3.frozen? ⟨m, 3, none⟩ = false := frozen_of_row _ _ _ _ _ hmb
          have M3 := Lib.hid (H2.out.synced k3 hN3 hb3 HOKS.out)
          clear hmb hN3 k3 hb3 hbB q0
          go_wp2
          go_ret
          have R := fin.out _ _ g K _ (fun i hi => hi.imp id (fun h9 => Nat.le_trans hs2.out h9.1)) M3.out.1 (K2.out.step M3.out.2)
          rw [HDO.out, HE.out]
          exact ⟨rfl, ⟨_, _, R.1⟩, R.2⟩
        · have e1 : S.byOp 5 na to_ num f b = (7, S.count.2) := by
            show S.syncDir = _
            unfold St.syncDir
            rw [if_neg (by rw [hdn]; simp), if_neg (by rw [he]; simp), ← he]
          have HE := Lib.hid e1
          have hd0 : decide (S.count.1 = 0) = false := by rw [he]; rfl
          rw [hd0] at hcall
          clear e1 o he hl hdn
          go_wp2_with (first | (at_lookup; refine wpList_look1 rfl _ _ 27 44 rfl Try.underlying27 zeroMfile (some mn) (S.cur.re g) rfl HNOW.out (nm na) rfl hkeyn ?_; rw [hl2]; clear hl2; show wpList _ _ _ _ (Act.put _ _ (Value.pointer (some ⟨gf, 0, none⟩))) _) | fail)
          refine hcall.mono ?_
          rintro e w2 ⟨rfl, ⟨stop2, h2⟩, k2⟩
          have H2 := Lib.hid h2
          have K2 := Lib.hid (show Kept G w0 w2 from KD.out.trans k2 (fun i _ e => e ▸ HM'.out.gm))
          clear h2 k2 hcall
          go_wp2
          go_ret
          have R := fin.out w2 _ g K G (fun _ h => .inl h) H2.out.md K2.out
          rw [HDO.out, HE.out]
          exact ⟨rfl, ⟨g, K, R.1⟩, R.2⟩
      · have o := HM'.out.ok
        have e0 : S.byOp 6 na to_ num f b = if nm na = nm to_ then (14, S) else S.step ⟨nm na, nm to_, some f0⟩ := on_some hdn hl _
        by_cases hst : nm na = nm to_
        · rw [if_pos hst] at e0
          have HE := Lib.hid e0
          clear e0 o hl hdn hcall
          go_wp2_with (first | (at_lookup; refine wpList_look1 rfl _ _ 27 44 rfl Try.underlying27 zeroMfile (some mn) (S.cur.re g) rfl HNOW.out (nm na) rfl hkeyn ?_; rw [hl2]; clear hl2; show wpList _ _ _ _ (Act.put _ _ (Value.pointer (some ⟨gf, 0, none⟩))) _) | fail)
          refine (name_any to_ w1).mono ?_
          rintro e w2 ⟨rfl, rfl⟩
          rw [← hst]
          go_wp2
          go_ret
          rw [HDO.out, HE.out]
          exact ⟨rfl, ⟨g, K, same.out.1⟩, same.out.2⟩
        · rw [if_neg hst] at e0
          have hst2 : ((str (nm na)).toList == (str (nm to_)).toList) = false := by rw [str_beq]; simpa using hst
          have hkt := nm_len to_
          have HST := Lib.hid hst
          clear hst
          rcases S.count_err with he | he
          · rw [step_on _ _ he] at e0
            have hoks := o.chgCount hc ⟨nm na, nm to_, some f0⟩ hkeyn hkt (fun i hi => by injection hi with hi; subst hi; rw [HFL.out]; rfl)
            have HOKS := Lib.hid hoks
            have HE := Lib.hid e0
            have hd0 : decide (S.count.1 = 0) = true := by rw [he]; rfl
            rw [hd0] at hcall
            clear hoks e0 o he hl hdn
            go_wp2_with (first | (at_lookup; refine wpList_look1 rfl _ _ 27 44 rfl Try.underlying27 zeroMfile (some mn) (S.cur.re g) rfl HNOW.out (nm na) rfl hkeyn ?_; rw [hl2]; clear hl2; show wpList _ _ _ _ (Act.put _ _ (Value.pointer (some ⟨gf, 0, none⟩))) _) | fail)
            refine (name_any to_ w1).mono ?_
            rintro e w2 ⟨rfl, rfl⟩
            go_wp2_with fail
            refine hcall.mono ?_
            rintro e w2 ⟨rfl, ⟨stop2, h2⟩, k2⟩
            have H2 := Lib.hid h2
            have K2 := Lib.hid (show Kept G w0 w2 from KD.out.trans k2 (fun i _ e => e ▸ HM'.out.gm))
            have hs2 : Hid (w.heap.size ≤ w2.heap.size) := Lib.hid (Nat.le_trans K0.out.size K2.out.size)
            have hbB : w2.cell? ⟨w.heap.size, 2, none⟩ = some (.int .u8 (to_.toNat : Int)) := k2.cell d2 (fun e => HBG.out (by rw [show w.heap.size = m from e]; exact HM'.out.gm))
            clear h2 k2 hcall d0 d2 d4 d5 d6
            go_wp2_with fail
            refine (name_any to_ w2).mono ?_
            rintro e w3 ⟨rfl, rfl⟩
            go_wp2_with fail
            have hmv := move_any H2.out.md (nm na) (nm to_) HST.out hkeyn hkt f0 HK0.out HOKS.out.1 HOKS.out.2
            rw [HGF.out] at hmv
            refine hmv.mono ?_
            rintro e w3 ⟨rfl, h3, k3⟩
            have M3 := Lib.hid h3
            have K3 := Lib.hid k3
            clear h3 k3 hmv
            go_wp2
            go_ret
            have R := fin.out w3 _ g K _ (fun i hi => hi.imp id (fun h9 => Nat.le_trans hs2.out h9.1)) M3.out (K2.out.step K3.out)
            rw [HDO.out, HE.out]
            exact ⟨rfl, ⟨_, _, R.1⟩, R.2⟩

          · rw [step_off _ _ he] at e0
            have HE := Lib.hid e0
            have hd0 : decide (S.count.1 = 0) = false := by rw [he]; rfl
            rw [hd0] at hcall
            clear e0 o he hl hdn
            go_wp2_with (first | (at_lookup; refine wpList_look1 rfl _ _ 27 44 rfl Try.underlying27 zeroMfile (some mn) (S.cur.re g) rfl HNOW.out (nm na) rfl hkeyn ?_; rw [hl2]; clear hl2; show wpList _ _ _ _ (Act.put _ _ (Value.pointer (some ⟨gf, 0, none⟩))) _) | fail)
            refine (name_any to_ w1).mono ?_
            rintro e w2 ⟨rfl, rfl⟩
            go_wp2_with fail
            refine hcall.mono ?_
            rintro e w2 ⟨rfl, ⟨stop2, h2⟩, k2⟩
            have H2 := Lib.hid h2
            have K2 := Lib.hid (show Kept G w0 w2 from KD.out.trans k2 (fun i _ e => e ▸ HM'.out.gm))
            clear h2 k2 hcall
            go_wp2
            go_ret
            have R := fin.out w2 _ g K G (fun _ h => .inl h) H2.out.md K2.out
            rw [HDO.out, HE.out]
            exact ⟨rfl, ⟨g, K, R.1⟩, R.2⟩
      · have o := HM'.out.ok
        have e0 : S.byOp 7 na to_ num f b = S.appendAt b f0 := on_some hdn hl _
        unfold St.appendAt at e0
        rw [HBN.out] at e0
        clear hcall
        have hus := mused_any G K m S g w1.drew (HM'.out.keep (Kept.drew noBlock w1) (fun _ _ h => h)).md
        have hub := o.used_le
        have hrb := o.room_le
        obtain ⟨un, hun⟩ : ∃ un, S.used = un := ⟨_, rfl⟩
        obtain ⟨rn, hrn⟩ : ∃ rn, S.room = rn := ⟨_, rfl⟩
        rw [hun] at e0 hus hub
        rw [hrn] at e0 d4 hrb
        have hnb : n ≤ 1000000000 := by omega
        have hwa : IntKind.i64.wrap ((un : Int) + (n : Int)) = (un : Int) + (n : Int) := wrap_small (by omega) (by omega)
        clear hun
        go_upto_region 16 with (first | (at_lookup; refine wpList_look1 rfl _ _ 27 44 rfl Try.underlying27 zeroMfile (some mn) (S.cur.re g) rfl HNOW.out (nm na) rfl hkeyn ?_; rw [hl2]; clear hl2; show wpList _ _ _ _ (Act.put _ _ (Value.pointer (some ⟨gf, 0, none⟩))) _) | fail)
        refine wp_region_noPanic ?_
        refine wp_region_held_drew (S := fun w' => w'.cell? ⟨m, 4, none⟩ = some (.int .i64 (rn : Int))) (by kernel_rfl) d4 (fun hHeld => ?_)
        refine wpAnyH_take (i := 0) (oi := ⟨some 55, Op.move (Operand.tmp 0), 26, _, _, none⟩) (v := ?v0n5k1) rfl (by kernel_rfl) (by kernel_rfl) (by kernel_rfl) (fun _ _ _ h => h) (Or.inl ⟨by rfl, ?y0n5k1⟩) hHeld ?z0n5k1
        case y0n5k1 => intro w hSw; (try dsimp only at hSw); go_simp <;> rfl
        try simp only [Act.put, List.setIfInBounds_toArray, List.set_cons_zero, List.set_cons_succ]
        refine wpAnyH_take (i := 2) (oi := ⟨some 57, Op.move (Operand.tmp 2), 32, _, _, none⟩) (v := ?v2n5k2) rfl (by kernel_rfl) (by kernel_rfl) (by kernel_rfl) (fun _ _ _ h => h) (Or.inl ⟨by rfl, ?y2n5k2⟩) hHeld ?z2n5k2
        case y2n5k2 => intro w hSw; (try dsimp only at hSw); go_simp <;> rfl
        try simp only [Act.put, List.setIfInBounds_toArray, List.set_cons_zero, List.set_cons_succ]
        refine wpAnyH_take (i := 3) (oi := ⟨some 58, Op.call { callee := Callee.builtin Builtin.len, args := #[Operand.tmp 57], argTypes := #[32] }, 3, _, _, none⟩) (v := ?v3n5k3) rfl (by kernel_rfl) (by kernel_rfl) (by kernel_rfl) (fun _ _ _ h => h) (Or.inl ⟨by rfl, ?y3n5k3⟩) hHeld ?z3n5k3
        case y3n5k3 => intro w hSw; (try dsimp only at hSw); go_simp <;> rfl
        try simp only [Act.put, List.setIfInBounds_toArray, List.set_cons_zero, List.set_cons_succ]
        refine wpAnyH_take (i := 5) (oi := ⟨some 60, Op.move (Operand.tmp 0), 26, _, _, none⟩) (v := ?v5n5k4) rfl (by kernel_rfl) (by kernel_rfl) (by kernel_rfl) (fun _ _ _ h => h) (Or.inl ⟨by rfl, ?y5n5k4⟩) hHeld ?z5n5k4
        case y5n5k4 => intro w hSw; (try dsimp only at hSw); go_simp <;> rfl
        try simp only [Act.put, List.setIfInBounds_toArray, List.set_cons_zero, List.set_cons_succ]
        refine wpAnyH_take (i := 6) (oi := ⟨some 61, Op.nilCheck (Operand.tmp 60), 0, _, _, none⟩) (v := ?v6n5k5) rfl (by kernel_rfl) (by kernel_rfl) (by kernel_rfl) (fun _ _ _ h => h) (Or.inl ⟨by rfl, ?y6n5k5⟩) hHeld ?z6n5k5
        case y6n5k5 => intro w hSw; (try dsimp only at hSw); go_simp <;> rfl
        try simp only [Act.put, List.setIfInBounds_toArray, List.set_cons_zero, List.set_cons_succ]
        refine wpAnyH_take (i := 7) (oi := ⟨some 62, Op.fieldAddr 31 (Operand.tmp 61) 4, 0, _, _, none⟩) (v := ?v7n5k6) rfl (by kernel_rfl) (by kernel_rfl) (by kernel_rfl) (fun _ _ _ h => h) (Or.inl ⟨by rfl, ?y7n5k6⟩) hHeld ?z7n5k6
        case y7n5k6 => intro w hSw; (try dsimp only at hSw); go_simp <;> rfl
        try simp only [Act.put, List.setIfInBounds_toArray, List.set_cons_zero, List.set_cons_succ]
        refine wpAnyH_take (i := 8) (oi := ⟨some 63, Op.load 3 (Operand.tmp 62), 3, _, _, none⟩) (v := ?v8n5k7) rfl (by kernel_rfl) (by kernel_rfl) (by kernel_rfl) (fun _ _ _ h => h) (Or.inl ⟨by rfl, ?y8n5k7⟩) hHeld ?z8n5k7
        case y8n5k7 => intro w hSw; (try dsimp only at hSw); go_simp <;> rfl
        try simp only [Act.put, List.setIfInBounds_toArray, List.set_cons_zero, List.set_cons_succ]
        refine wpAnyH_ready (rs := [1]) (by kernel_rfl) (by simp) ?_
        refine AllReadyH.cons (o := ⟨some 56, Op.call { callee := Callee.value (Operand.func 14), args := #[Operand.tmp 55], argTypes := #[26] }, 3, _, _, none⟩) rfl (fun K hK => ?_) AllReadyH.nil
        go_simp
        refine hus.mono ?_
        rintro e w5 ⟨rfl, k5⟩
        dsimp only
        refine hK.out _ _ (k5.cell d4 (fun h => h)) (fun hHeld => ?_)
        clear hK K
        try simp only [Act.put, List.setIfInBounds_toArray, List.set_cons_zero, List.set_cons_succ]
        refine wpAnyH_take (i := 4) (oi := ⟨some 59, Op.binOp BinOp.add 3 (Operand.tmp 56) (Operand.tmp 58) 3, 3, _, _, none⟩) (v := ?v4n5k8) rfl (by kernel_rfl) (by kernel_rfl) (by kernel_rfl) (fun _ _ _ h => h) (Or.inl ⟨by rfl, ?y4n5k8⟩) hHeld ?z4n5k8
        case y4n5k8 => intro w hSw; (try dsimp only at hSw); go_simp <;> rfl
        try simp only [Act.put, List.setIfInBounds_toArray, List.set_cons_zero, List.set_cons_succ]
        refine wpAnyH_take (i := 9) (oi := ⟨some 64, Op.binOp BinOp.gtr 3 (Operand.tmp 59) (Operand.tmp 63) 3, 4, _, _, none⟩) (v := ?v9n5k9) rfl (by kernel_rfl) (by kernel_rfl) (by kernel_rfl) (fun _ _ _ h => h) (Or.inl ⟨by rfl, ?y9n5k9⟩) hHeld ?z9n5k9
        case y9n5k9 => intro w hSw; (try dsimp only at hSw); go_simp <;> rfl
        try simp only [Act.put, List.setIfInBounds_toArray, List.set_cons_zero, List.set_cons_succ]
        refine wpAnyH_done (by kernel_rfl) ?_ _
        refine NoPanic.normal ?_
        have k15 := (Kept.drew noBlock w1).step k5
        have h5 := HM'.out.keep k15 (fun _ _ h => h)
        have K5 := Lib.hid (show Kept G w0 w5 from KD.out.trans k15 (fun _ _ h => h.elim))
        have HB5 := Lib.hid (HBB.out.keep k15 (fun _ _ h => h))
        have H5 := Lib.hid h5
        have hs2 : Hid (w.heap.size ≤ w5.heap.size) := Lib.hid (Nat.le_trans K0.out.size K5.out.size)
        clear hus k15 k5 h5 hHeld d0 d2 d4 d5 d6
        by_cases hfull : rn < n + un
        · rw [if_pos hfull] at e0
          have hgt : (rn : Int) < (un : Int) + (n : Int) := by omega
          have HE := Lib.hid e0
          clear e0 o hl hdn
          go_wp2
          go_ret
          have R := fin.out w5 _ g K G (fun _ h => .inl h) H5.out.md K5.out
          rw [HDO.out, HE.out]
          exact ⟨rfl, ⟨g, K, R.1⟩, R.2⟩
        · rw [if_neg hfull, count_app] at e0
          have hgt : ¬ (rn : Int) < (un : Int) + (n : Int) := by omega
          have hcall := mcall_any G K m S g stop mn mk A c A' c' xs ys w5 H5.out hdn hc
          have hfo := o.fl_len f0 l HFL.out
          have okS : Ok { S.count.2.setFl f0 ⟨l.data ++ b, l.safe⟩ with vol := S.count.2.vol + n } := (St.count_ok o hc).setFl (Nat.le_add_right _ _) (by rw [S.count_vol]; exact hvol) (by rw [S.count_vol, List.length_append, HBN.out]; omega) (by simp only [List.length_append]; omega)
          have hfl2 : Hid (S.count.2.fl f0 = some l) := by rw [S.count_fl]; exact HFL
          have ea : S.count.2.app f0 b = { S.count.2.setFl f0 ⟨l.data ++ b, l.safe⟩ with vol := S.count.2.vol + n } := by unfold St.app; rw [file_eq hfl2.out, HBN.out]
          rw [ea] at e0
          have HOKS := Lib.hid okS
          obtain ⟨on, hon⟩ : ∃ on, decide (S.count.1 = 0) = on := ⟨_, rfl⟩
          rw [hon] at hcall
          have hee : Hid (S.count.1 = if on = true then 0 else 7) := by
            show _ = _
            rcases S.count_err with he | he
            · rw [← hon, he]; rfl
            · rw [← hon, he]; rfl
          have HE := Lib.hid e0
          clear okS ea e0 o hl hdn hfo hon
          go_wp2_with fail
          refine hcall.mono ?_
          rintro e w2 ⟨rfl, ⟨stop2, h2⟩, k2⟩
          have H2 := Lib.hid h2
          have K2 := Lib.hid (show Kept G w0 w2 from K5.out.trans k2 (fun i _ e => e ▸ HM'.out.gm))
          have HB2 := Lib.hid (HB5.out.keep k2 (fun i hi e => HFG.out i hi (by rw [show i = m from e]; exact HM'.out.gm)))
          clear h2 k2 hcall
          have hfb := H2.out.fil f0 l HK0.out hfl2.out
          rw [HGF.out] at hfb
          have p0 : w2.cell? ⟨gf, 0, none⟩ = some (.string (str l.data)) := cell_of_row _ _ _ _ _ _ hfb
          have pf0 : w2.frozen? ⟨gf, 0, none⟩ = false := frozen_of_row _ _ _ _ _ hfb
          have hcv : (convert 32 9 (.slice a n cp)).run Try.prog w2.drew = .ok (.string (str b)) w2.drew := run_str (HB2.out.keep (Kept.drew noBlock w2) (fun _ _ h => h)) HBN.out cp
          have HFB := Lib.hid hfb
          clear hfb
          have hbs : (str b).size = n := by rw [str_size, HBN.out]
          have hcat : ¬ 9223372036854775807 < ll + n := by omega
          go_upto_region 26 with (fail)
          refine wp_region_noPanic ?_
          refine wp_region_any_drew (by kernel_rfl) ?_
          refine wpAny_tail (S := fun w' => w'.cell? ⟨gf, 0, none⟩ = some (.string (str l.data)) ∧ (convert 32 9 (.slice a n cp)).run Try.prog w' = .ok (.string (str b)) w') 10 10 ⟨p0, hcv⟩ (fun hHeld => ?_)
          refine wpAnyT_take (i := 0) (oi := ⟨some 97, Op.move (Operand.tmp 9), 44, _, _, none⟩) (v := ?v0n6k1) rfl (by kernel_rfl) (by kernel_rfl) (by kernel_rfl) (fun _ _ _ h => h) (Or.inl ⟨by rfl, ?y0n6k1⟩) hHeld ?z0n6k1
          case y0n6k1 => intro w hSw; (try dsimp only at hSw); go_simp <;> rfl
          try simp only [Act.put, List.setIfInBounds_toArray, List.set_cons_zero, List.set_cons_succ]
          refine wpAnyT_take (i := 1) (oi := ⟨some 98, Op.move (Operand.tmp 9), 44, _, _, none⟩) (v := ?v1n6k2) rfl (by kernel_rfl) (by kernel_rfl) (by kernel_rfl) (fun _ _ _ h => h) (Or.inl ⟨by rfl, ?y1n6k2⟩) hHeld ?z1n6k2
          case y1n6k2 => intro w hSw; (try dsimp only at hSw); go_simp <;> rfl
          try simp only [Act.put, List.setIfInBounds_toArray, List.set_cons_zero, List.set_cons_succ]
          refine wpAnyT_take (i := 2) (oi := ⟨some 99, Op.nilCheck (Operand.tmp 98), 0, _, _, none⟩) (v := ?v2n6k3) rfl (by kernel_rfl) (by kernel_rfl) (by kernel_rfl) (fun _ _ _ h => h) (Or.inl ⟨by rfl, ?y2n6k3⟩) hHeld ?z2n6k3
          case y2n6k3 => intro w hSw; (try dsimp only at hSw); go_simp <;> rfl
          try simp only [Act.put, List.setIfInBounds_toArray, List.set_cons_zero, List.set_cons_succ]
          refine wpAnyT_take (i := 3) (oi := ⟨some 100, Op.fieldAddr 48 (Operand.tmp 99) 0, 0, _, _, none⟩) (v := ?v3n6k4) rfl (by kernel_rfl) (by kernel_rfl) (by kernel_rfl) (fun _ _ _ h => h) (Or.inl ⟨by rfl, ?y3n6k4⟩) hHeld ?z3n6k4
          case y3n6k4 => intro w hSw; (try dsimp only at hSw); go_simp <;> rfl
          try simp only [Act.put, List.setIfInBounds_toArray, List.set_cons_zero, List.set_cons_succ]
          refine wpAnyT_take (i := 4) (oi := ⟨some 101, Op.load 9 (Operand.tmp 100), 9, _, _, none⟩) (v := ?v4n6k5) rfl (by kernel_rfl) (by kernel_rfl) (by kernel_rfl) (fun _ _ _ h => h) (Or.inl ⟨by rfl, ?y4n6k5⟩) hHeld ?z4n6k5
          case y4n6k5 => intro w hSw; (try dsimp only at hSw); go_simp <;> rfl
          try simp only [Act.put, List.setIfInBounds_toArray, List.set_cons_zero, List.set_cons_succ]
          refine wpAnyT_take (i := 5) (oi := ⟨some 102, Op.move (Operand.tmp 2), 32, _, _, none⟩) (v := ?v5n6k6) rfl (by kernel_rfl) (by kernel_rfl) (by kernel_rfl) (fun _ _ _ h => h) (Or.inl ⟨by rfl, ?y5n6k6⟩) hHeld ?z5n6k6
          case y5n6k6 => intro w hSw; (try dsimp only at hSw); go_simp <;> rfl
          try simp only [Act.put, List.setIfInBounds_toArray, List.set_cons_zero, List.set_cons_succ]
          refine wpAnyT_take (i := 6) (oi := ⟨some 103, Op.convert 32 9 (Operand.tmp 102), 9, _, _, none⟩) (v := ?v6n6k7) rfl (by kernel_rfl) (by kernel_rfl) (by kernel_rfl) (fun _ _ _ h => h) (Or.inl ⟨by rfl, ?y6n6k7⟩) hHeld ?z6n6k7
          case y6n6k7 => intro w hSw; (try dsimp only at hSw); go_simp <;> rfl
          try simp only [Act.put, List.setIfInBounds_toArray, List.set_cons_zero, List.set_cons_succ]
          refine wpAnyT_take (i := 7) (oi := ⟨some 104, Op.binOp BinOp.add 9 (Operand.tmp 101) (Operand.tmp 103) 9, 9, _, _, none⟩) (v := ?v7n6k8) rfl (by kernel_rfl) (by kernel_rfl) (by kernel_rfl) (fun _ _ _ h => h) (Or.inl ⟨by rfl, ?y7n6k8⟩) hHeld ?z7n6k8
          case y7n6k8 => intro w hSw; (try dsimp only at hSw); go_simp <;> rfl
          try simp only [Act.put, List.setIfInBounds_toArray, List.set_cons_zero, List.set_cons_succ]
          refine wpAnyT_take (i := 8) (oi := ⟨some 105, Op.nilCheck (Operand.tmp 97), 0, _, _, none⟩) (v := ?v8n6k9) rfl (by kernel_rfl) (by kernel_rfl) (by kernel_rfl) (fun _ _ _ h => h) (Or.inl ⟨by rfl, ?y8n6k9⟩) hHeld ?z8n6k9
          case y8n6k9 => intro w hSw; (try dsimp only at hSw); go_simp <;> rfl
          try simp only [Act.put, List.setIfInBounds_toArray, List.set_cons_zero, List.set_cons_succ]
          refine wpAnyT_take (i := 9) (oi := ⟨some 106, Op.fieldAddr 48 (Operand.tmp 105) 0, 0, _, _, none⟩) (v := ?v9n6k10) rfl (by kernel_rfl) (by kernel_rfl) (by kernel_rfl) (fun _ _ _ h => h) (Or.inl ⟨by rfl, ?y9n6k10⟩) hHeld ?z9n6k10
          case y9n6k10 => intro w hSw; (try dsimp only at hSw); go_simp <;> rfl
          try simp only [Act.put, List.setIfInBounds_toArray, List.set_cons_zero, List.set_cons_succ]
          refine wpAnyT_done (by kernel_rfl) ?_
          simp only [List.drop_succ_cons, List.drop_zero]
          have kd := Kept.drew (fun i => i = gf) w2
          have hfbd := (Kept.drew noBlock w2).blk HFB.out (fun h => h)
          clear hcv hHeld
          generalize w2.drew = w3 at hfbd kd ⊢
          have y0 : w3.cell? ⟨gf, 0, none⟩ = some (.string (str l.data)) := cell_of_row _ _ _ _ _ _ hfbd
          have yf0 : w3.frozen? ⟨gf, 0, none⟩ = false := frozen_of_row _ _ _ _ _ hfbd
          have k4 : Kept (fun i => i = g f0) w2 (w3.setCell ⟨gf, 0, none⟩ (.string (str l.data ++ str b))) := by rw [HGF.out]; exact kd.step (Kept.setCell w3 (by rfl) _)
          have b4 := heap_setCell_same w3 gf 0 _ 48 (.string (str l.data ++ str b)) hfbd
          have M3 := Lib.hid (H2.out.file HK0.out hfl2.out k4 (l' := ⟨l.data ++ b, l.safe⟩) (v := S.count.2.vol + n) (by rw [HGF.out, b4, str_append]; rfl) HOKS.out)
          have K3 := Lib.hid (show Kept G w2 _ from k4.mono (fun i _ e => e ▸ H2.out.gfil f0 HK0.out))
          clear kd hfbd k4 b4 p0 pf0
          have R := Lib.hid (fin.out _ _ g K G (fun _ h => .inl h) M3.out.md (K2.out.step K3.out))
          cases on with
          | true =>
            have h0 : S.count.1 = 0 := hee.out
            have HC := Lib.hid h0
            clear h0
            go_wp2
            refine NoPanic.normal ?_
            go_wp2
            go_ret
            rw [HDO.out, HE.out, HC.out]
            exact ⟨rfl, ⟨_, _, R.out.1⟩, R.out.2⟩
          | false =>
            have h0 : S.count.1 = 7 := hee.out
            have HC := Lib.hid h0
            clear h0
            go_wp2
            refine NoPanic.normal ?_
            go_wp2
            go_ret
            rw [HDO.out, HE.out, HC.out]
            exact ⟨rfl, ⟨_, _, R.out.1⟩, R.out.2⟩
      · have o := HM'.out.ok
        have e0 : S.byOp 8 na to_ num f b = S.appendAt b f0 := on_some hdn hl _
        unfold St.appendAt at e0
        rw [HBN.out] at e0
        clear hcall
        have hus := mused_any G K m S g w1.drew (HM'.out.keep (Kept.drew noBlock w1) (fun _ _ h => h)).md
        have hub := o.used_le
        have hrb := o.room_le
        obtain ⟨un, hun⟩ : ∃ un, S.used = un := ⟨_, rfl⟩
        obtain ⟨rn, hrn⟩ : ∃ rn, S.room = rn := ⟨_, rfl⟩
        rw [hun] at e0 hus hub
        rw [hrn] at e0 d4 hrb
        have hnb : n ≤ 1000000000 := by omega
        have hwa : IntKind.i64.wrap ((un : Int) + (n : Int)) = (un : Int) + (n : Int) := wrap_small (by omega) (by omega)
        clear hun
        go_upto_region 16 with (first | (at_lookup; refine wpList_look1 rfl _ _ 27 44 rfl Try.underlying27 zeroMfile (some mn) (S.cur.re g) rfl HNOW.out (nm na) rfl hkeyn ?_; rw [hl2]; clear hl2; show wpList _ _ _ _ (Act.put _ _ (Value.pointer (some ⟨gf, 0, none⟩))) _) | fail)
        refine wp_region_noPanic ?_
        refine wp_region_held_drew (S := fun w' => w'.cell? ⟨m, 4, none⟩ = some (.int .i64 (rn : Int))) (by kernel_rfl) d4 (fun hHeld => ?_)
        refine wpAnyH_take (i := 0) (oi := ⟨some 55, Op.move (Operand.tmp 0), 26, _, _, none⟩) (v := ?v0n7k1) rfl (by kernel_rfl) (by kernel_rfl) (by kernel_rfl) (fun _ _ _ h => h) (Or.inl ⟨by rfl, ?y0n7k1⟩) hHeld ?z0n7k1
        case y0n7k1 => intro w hSw; (try dsimp only at hSw); go_simp <;> rfl
        try simp only [Act.put, List.setIfInBounds_toArray, List.set_cons_zero, List.set_cons_succ]
        refine wpAnyH_take (i := 2) (oi := ⟨some 57, Op.move (Operand.tmp 2), 32, _, _, none⟩) (v := ?v2n7k2) rfl (by kernel_rfl) (by kernel_rfl) (by kernel_rfl) (fun _ _ _ h => h) (Or.inl ⟨by rfl, ?y2n7k2⟩) hHeld ?z2n7k2
        case y2n7k2 => intro w hSw; (try dsimp only at hSw); go_simp <;> rfl
        try simp only [Act.put, List.setIfInBounds_toArray, List.set_cons_zero, List.set_cons_succ]
        refine wpAnyH_take (i := 3) (oi := ⟨some 58, Op.call { callee := Callee.builtin Builtin.len, args := #[Operand.tmp 57], argTypes := #[32] }, 3, _, _, none⟩) (v := ?v3n7k3) rfl (by kernel_rfl) (by kernel_rfl) (by kernel_rfl) (fun _ _ _ h => h) (Or.inl ⟨by rfl, ?y3n7k3⟩) hHeld ?z3n7k3
        case y3n7k3 => intro w hSw; (try dsimp only at hSw); go_simp <;> rfl
        try simp only [Act.put, List.setIfInBounds_toArray, List.set_cons_zero, List.set_cons_succ]
        refine wpAnyH_take (i := 5) (oi := ⟨some 60, Op.move (Operand.tmp 0), 26, _, _, none⟩) (v := ?v5n7k4) rfl (by kernel_rfl) (by kernel_rfl) (by kernel_rfl) (fun _ _ _ h => h) (Or.inl ⟨by rfl, ?y5n7k4⟩) hHeld ?z5n7k4
        case y5n7k4 => intro w hSw; (try dsimp only at hSw); go_simp <;> rfl
        try simp only [Act.put, List.setIfInBounds_toArray, List.set_cons_zero, List.set_cons_succ]
        refine wpAnyH_take (i := 6) (oi := ⟨some 61, Op.nilCheck (Operand.tmp 60), 0, _, _, none⟩) (v := ?v6n7k5) rfl (by kernel_rfl) (by kernel_rfl) (by kernel_rfl) (fun _ _ _ h => h) (Or.inl ⟨by rfl, ?y6n7k5⟩) hHeld ?z6n7k5
        case y6n7k5 => intro w hSw; (try dsimp only at hSw); go_simp <;> rfl
        try simp only [Act.put, List.setIfInBounds_toArray, List.set_cons_zero, List.set_cons_succ]
        refine wpAnyH_take (i := 7) (oi := ⟨some 62, Op.fieldAddr 31 (Operand.tmp 61) 4, 0, _, _, none⟩) (v := ?v7n7k6) rfl (by kernel_rfl) (by kernel_rfl) (by kernel_rfl) (fun _ _ _ h => h) (Or.inl ⟨by rfl, ?y7n7k6⟩) hHeld ?z7n7k6
        case y7n7k6 => intro w hSw; (try dsimp only at hSw); go_simp <;> rfl
        try simp only [Act.put, List.setIfInBounds_toArray, List.set_cons_zero, List.set_cons_succ]
        refine wpAnyH_take (i := 8) (oi := ⟨some 63, Op.load 3 (Operand.tmp 62), 3, _, _, none⟩) (v := ?v8n7k7) rfl (by kernel_rfl) (by kernel_rfl) (by kernel_rfl) (fun _ _ _ h => h) (Or.inl ⟨by rfl, ?y8n7k7⟩) hHeld ?z8n7k7
        case y8n7k7 => intro w hSw; (try dsimp only at hSw); go_simp <;> rfl
        try simp only [Act.put, List.setIfInBounds_toArray, List.set_cons_zero, List.set_cons_succ]
        refine wpAnyH_ready (rs := [1]) (by kernel_rfl) (by simp) ?_
        refine AllReadyH.cons (o := ⟨some 56, Op.call { callee := Callee.value (Operand.func 14), args := #[Operand.tmp 55], argTypes := #[26] }, 3, _, _, none⟩) rfl (fun K hK => ?_) AllReadyH.nil
        go_simp
        refine hus.mono ?_
        rintro e w5 ⟨rfl, k5⟩
        dsimp only
        refine hK.out _ _ (k5.cell d4 (fun h => h)) (fun hHeld => ?_)
        clear hK K
        try simp only [Act.put, List.setIfInBounds_toArray, List.set_cons_zero, List.set_cons_succ]
        refine wpAnyH_take (i := 4) (oi := ⟨some 59, Op.binOp BinOp.add 3 (Operand.tmp 56) (Operand.tmp 58) 3, 3, _, _, none⟩) (v := ?v4n7k8) rfl (by kernel_rfl) (by kernel_rfl) (by kernel_rfl) (fun _ _ _ h => h) (Or.inl ⟨by rfl, ?y4n7k8⟩) hHeld ?z4n7k8
        case y4n7k8 => intro w hSw; (try dsimp only at hSw); go_simp <;> rfl
        try simp only [Act.put, List.setIfInBounds_toArray, List.set_cons_zero, List.set_cons_succ]
        refine wpAnyH_take (i := 9) (oi := ⟨some 64, Op.binOp BinOp.gtr 3 (Operand.tmp 59) (Operand.tmp 63) 3, 4, _, _, none⟩) (v := ?v9n7k9) rfl (by kernel_rfl) (by kernel_rfl) (by kernel_rfl) (fun _ _ _ h => h) (Or.inl ⟨by rfl, ?y9n7k9⟩) hHeld ?z9n7k9
        case y9n7k9 => intro w hSw; (try dsimp only at hSw); go_simp <;> rfl
        try simp only [Act.put, List.setIfInBounds_toArray, List.set_cons_zero, List.set_cons_succ]
        refine wpAnyH_done (by kernel_rfl) ?_ _
        refine NoPanic.normal ?_
        have k15 := (Kept.drew noBlock w1).step k5
        have h5 := HM'.out.keep k15 (fun _ _ h => h)
        have K5 := Lib.hid (show Kept G w0 w5 from KD.out.trans k15 (fun _ _ h => h.elim))
        have HB5 := Lib.hid (HBB.out.keep k15 (fun _ _ h => h))
        have H5 := Lib.hid h5
        have hs2 : Hid (w.heap.size ≤ w5.heap.size) := Lib.hid (Nat.le_trans K0.out.size K5.out.size)
        clear hus k15 k5 h5 hHeld d0 d2 d4 d5 d6
        by_cases hfull : rn < n + un
        · rw [if_pos hfull] at e0
          have hgt : (rn : Int) < (un : Int) + (n : Int) := by omega
          have HE := Lib.hid e0
          clear e0 o hl hdn
          go_wp2
          go_ret
          have R := fin.out w5 _ g K G (fun _ h => .inl h) H5.out.md K5.out
          rw [HDO.out, HE.out]
          exact ⟨rfl, ⟨g, K, R.1⟩, R.2⟩
        · rw [if_neg hfull, count_app] at e0
          have hgt : ¬ (rn : Int) < (un : Int) + (n : Int) := by omega
          have hcall := mcall_any G K m S g stop mn mk A c A' c' xs ys w5 H5.out hdn hc
          have hfo := o.fl_len f0 l HFL.out
          have okS : Ok { S.count.2.setFl f0 ⟨l.data ++ b, l.safe⟩ with vol := S.count.2.vol + n } := (St.count_ok o hc).setFl (Nat.le_add_right _ _) (by rw [S.count_vol]; exact hvol) (by rw [S.count_vol, List.length_append, HBN.out]; omega) (by simp only [List.length_append]; omega)
          have hfl2 : Hid (S.count.2.fl f0 = some l) := by rw [S.count_fl]; exact HFL
          have ea : S.count.2.app f0 b = { S.count.2.setFl f0 ⟨l.data ++ b, l.safe⟩ with vol := S.count.2.vol + n } := by unfold St.app; rw [file_eq hfl2.out, HBN.out]
          rw [ea] at e0
          have HOKS := Lib.hid okS
          obtain ⟨on, hon⟩ : ∃ on, decide (S.count.1 = 0) = on := ⟨_, rfl⟩
          rw [hon] at hcall
          have hee : Hid (S.count.1 = if on = true then 0 else 7) := by
            show _ = _
            rcases S.count_err with he | he
            · rw [← hon, he]; rfl
            · rw [← hon, he]; rfl
          have HE := Lib.hid e0
          clear okS ea e0 o hl hdn hfo hon
          go_wp2_with fail
          refine hcall.mono ?_
          rintro e w2 ⟨rfl, ⟨stop2, h2⟩, k2⟩
          have H2 := Lib.hid h2
          have K2 := Lib.hid (show Kept G w0 w2 from K5.out.trans k2 (fun i _ e => e ▸ HM'.out.gm))
          have HB2 := Lib.hid (HB5.out.keep k2 (fun i hi e => HFG.out i hi (by rw [show i = m from e]; exact HM'.out.gm)))
          clear h2 k2 hcall
          have hfb := H2.out.fil f0 l HK0.out hfl2.out
          rw [HGF.out] at hfb
          have p0 : w2.cell? ⟨gf, 0, none⟩ = some (.string (str l.data)) := cell_of_row _ _ _ _ _ _ hfb
          have pf0 : w2.frozen? ⟨gf, 0, none⟩ = false := frozen_of_row _ _ _ _ _ hfb
          have hcv : (convert 32 9 (.slice a n cp)).run Try.prog w2.drew = .ok (.string (str b)) w2.drew := run_str (HB2.out.keep (Kept.drew noBlock w2) (fun _ _ h => h)) HBN.out cp
          have HFB := Lib.hid hfb
          clear hfb
          have hbs : (str b).size = n := by rw [str_size, HBN.out]
          have hcat : ¬ 9223372036854775807 < ll + n := by omega
          go_upto_region 26 with (fail)
          refine wp_region_noPanic ?_
          refine wp_region_any_drew (by kernel_rfl) ?_
          refine wpAny_tail (S := fun w' => w'.cell? ⟨gf, 0, none⟩ = some (.string (str l.data)) ∧ (convert 32 9 (.slice a n cp)).run Try.prog w' = .ok (.string (str b)) w') 10 10 ⟨p0, hcv⟩ (fun hHeld => ?_)
          refine wpAnyT_take (i := 0) (oi := ⟨some 97, Op.move (Operand.tmp 9), 44, _, _, none⟩) (v := ?v0n8k1) rfl (by kernel_rfl) (by kernel_rfl) (by kernel_rfl) (fun _ _ _ h => h) (Or.inl ⟨by rfl, ?y0n8k1⟩) hHeld ?z0n8k1
          case y0n8k1 => intro w hSw; (try dsimp only at hSw); go_simp <;> rfl
          try simp only [Act.put, List.setIfInBounds_toArray, List.set_cons_zero, List.set_cons_succ]
          refine wpAnyT_take (i := 1) (oi := ⟨some 98, Op.move (Operand.tmp 9), 44, _, _, none⟩) (v := ?v1n8k2) rfl (by kernel_rfl) (by kernel_rfl) (by kernel_rfl) (fun _ _ _ h => h) (Or.inl ⟨by rfl, ?y1n8k2⟩) hHeld ?z1n8k2
          case y1n8k2 => intro w hSw; (try dsimp only at hSw); go_simp <;> rfl
          try simp only [Act.put, List.setIfInBounds_toArray, List.set_cons_zero, List.set_cons_succ]
          refine wpAnyT_take (i := 2) (oi := ⟨some 99, Op.nilCheck (Operand.tmp 98), 0, _, _, none⟩) (v := ?v2n8k3) rfl (by kernel_rfl) (by kernel_rfl) (by kernel_rfl) (fun _ _ _ h => h) (Or.inl ⟨by rfl, ?y2n8k3⟩) hHeld ?z2n8k3
          case y2n8k3 => intro w hSw; (try dsimp only at hSw); go_simp <;> rfl
          try simp only [Act.put, List.setIfInBounds_toArray, List.set_cons_zero, List.set_cons_succ]
          refine wpAnyT_take (i := 3) (oi := ⟨some 100, Op.fieldAddr 48 (Operand.tmp 99) 0, 0, _, _, none⟩) (v := ?v3n8k4) rfl (by kernel_rfl) (by kernel_rfl) (by kernel_rfl) (fun _ _ _ h => h) (Or.inl ⟨by rfl, ?y3n8k4⟩) hHeld ?z3n8k4
          case y3n8k4 => intro w hSw; (try dsimp only at hSw); go_simp <;> rfl
          try simp only [Act.put, List.setIfInBounds_toArray, List.set_cons_zero, List.set_cons_succ]
          refine wpAnyT_take (i := 4) (oi := ⟨some 101, Op.load 9 (Operand.tmp 100), 9, _, _, none⟩) (v := ?v4n8k5) rfl (by kernel_rfl) (by kernel_rfl) (by kernel_rfl) (fun _ _ _ h => h) (Or.inl ⟨by rfl, ?y4n8k5⟩) hHeld ?z4n8k5
          case y4n8k5 => intro w hSw; (try dsimp only at hSw); go_simp <;> rfl
          try simp only [Act.put, List.setIfInBounds_toArray, List.set_cons_zero, List.set_cons_succ]
          refine wpAnyT_take (i := 5) (oi := ⟨some 102, Op.move (Operand.tmp 2), 32, _, _, none⟩) (v := ?v5n8k6) rfl (by kernel_rfl) (by kernel_rfl) (by kernel_rfl) (fun _ _ _ h => h) (Or.inl ⟨by rfl, ?y5n8k6⟩) hHeld ?z5n8k6
          case y5n8k6 => intro w hSw; (try dsimp only at hSw); go_simp <;> rfl
          try simp only [Act.put, List.setIfInBounds_toArray, List.set_cons_zero, List.set_cons_succ]
          refine wpAnyT_take (i := 6) (oi := ⟨some 103, Op.convert 32 9 (Operand.tmp 102), 9, _, _, none⟩) (v := ?v6n8k7) rfl (by kernel_rfl) (by kernel_rfl) (by kernel_rfl) (fun _ _ _ h => h) (Or.inl ⟨by rfl, ?y6n8k7⟩) hHeld ?z6n8k7
          case y6n8k7 => intro w hSw; (try dsimp only at hSw); go_simp <;> rfl
          try simp only [Act.put, List.setIfInBounds_toArray, List.set_cons_zero, List.set_cons_succ]
          refine wpAnyT_take (i := 7) (oi := ⟨some 104, Op.binOp BinOp.add 9 (Operand.tmp 101) (Operand.tmp 103) 9, 9, _, _, none⟩) (v := ?v7n8k8) rfl (by kernel_rfl) (by kernel_rfl) (by kernel_rfl) (fun _ _ _ h => h) (Or.inl ⟨by rfl, ?y7n8k8⟩) hHeld ?z7n8k8
          case y7n8k8 => intro w hSw; (try dsimp only at hSw); go_simp <;> rfl
          try simp only [Act.put, List.setIfInBounds_toArray, List.set_cons_zero, List.set_cons_succ]
          refine wpAnyT_take (i := 8) (oi := ⟨some 105, Op.nilCheck (Operand.tmp 97), 0, _, _, none⟩) (v := ?v8n8k9) rfl (by kernel_rfl) (by kernel_rfl) (by kernel_rfl) (fun _ _ _ h => h) (Or.inl ⟨by rfl, ?y8n8k9⟩) hHeld ?z8n8k9
          case y8n8k9 => intro w hSw; (try dsimp only at hSw); go_simp <;> rfl
          try simp only [Act.put, List.setIfInBounds_toArray, List.set_cons_zero, List.set_cons_succ]
          refine wpAnyT_take (i := 9) (oi := ⟨some 106, Op.fieldAddr 48 (Operand.tmp 105) 0, 0, _, _, none⟩) (v := ?v9n8k10) rfl (by kernel_rfl) (by kernel_rfl) (by kernel_rfl) (fun _ _ _ h => h) (Or.inl ⟨by rfl, ?y9n8k10⟩) hHeld ?z9n8k10
          case y9n8k10 => intro w hSw; (try dsimp only at hSw); go_simp <;> rfl
          try simp only [Act.put, List.setIfInBounds_toArray, List.set_cons_zero, List.set_cons_succ]
          refine wpAnyT_done (by kernel_rfl) ?_
          simp only [List.drop_succ_cons, List.drop_zero]
          have kd := Kept.drew (fun i => i = gf) w2
          have hfbd := (Kept.drew noBlock w2).blk HFB.out (fun h => h)
          clear hcv hHeld
          generalize w2.drew = w3 at hfbd kd ⊢
          have y0 : w3.cell? ⟨gf, 0, none⟩ = some (.string (str l.data)) := cell_of_row _ _ _ _ _ _ hfbd
          have yf0 : w3.frozen? ⟨gf, 0, none⟩ = false := frozen_of_row _ _ _ _ _ hfbd
          have k4 : Kept (fun i => i = g f0) w2 (w3.setCell ⟨gf, 0, none⟩ (.string (str l.data ++ str b))) := by rw [HGF.out]; exact kd.step (Kept.setCell w3 (by rfl) _)
          have b4 := heap_setCell_same w3 gf 0 _ 48 (.string (str l.data ++ str b)) hfbd
          have M3 := Lib.hid (H2.out.file HK0.out hfl2.out k4 (l' := ⟨l.data ++ b, l.safe⟩) (v := S.count.2.vol + n) (by rw [HGF.out, b4, str_append]; rfl) HOKS.out)
          have K3 := Lib.hid (show Kept G w2 _ from k4.mono (fun i _ e => e ▸ H2.out.gfil f0 HK0.out))
          clear kd hfbd k4 b4 p0 pf0
          have R := Lib.hid (fin.out _ _ g K G (fun _ h => .inl h) M3.out.md (K2.out.step K3.out))
          cases on with
          | true =>
            have h0 : S.count.1 = 0 := hee.out
            have HC := Lib.hid h0
            clear h0
            go_wp2
            refine NoPanic.normal ?_
            go_wp2
            go_ret
            rw [HDO.out, HE.out, HC.out]
            exact ⟨rfl, ⟨_, _, R.out.1⟩, R.out.2⟩
          | false =>
            have h0 : S.count.1 = 7 := hee.out
            have HC := Lib.hid h0
            clear h0
            go_wp2
            refine NoPanic.normal ?_
            go_wp2
            go_ret
            rw [HDO.out, HE.out, HC.out]
            exact ⟨rfl, ⟨_, _, R.out.1⟩, R.out.2⟩
      · have o := HM'.out.ok
        have e0 : S.byOp 9 na to_ num f b = S.syncAt f0 := on_some hdn hl _
        unfold St.syncAt at e0
        rw [file_eq HFL.out] at e0
        rcases S.count_err with he | he
        · rw [if_pos he] at e0
          have okS : Ok { S.count.2.setFl f0 ⟨l.data, l.data.length⟩ with vol := S.count.2.vol } := (St.count_ok o hc).setFl (Nat.le_refl _) (by rw [S.count_vol]; exact o.vol_le) (by rw [S.count_vol]; exact (o.fl_len f0 l HFL.out).1) (Nat.le_refl _)
          have hfl2 : Hid (S.count.2.fl f0 = some l) := by rw [S.count_fl]; exact HFL
          have HOKS := Lib.hid okS
          have HE := Lib.hid e0
          have hd0 : decide (S.count.1 = 0) = true := by rw [he]; rfl
          rw [hd0] at hcall
          clear okS e0 o he hl hdn
          go_wp2_with (first | (at_lookup; refine wpList_look1 rfl _ _ 27 44 rfl Try.underlying27 zeroMfile (some mn) (S.cur.re g) rfl HNOW.out (nm na) rfl hkeyn ?_; rw [hl2]; clear hl2; show wpList _ _ _ _ (Act.put _ _ (Value.pointer (some ⟨gf, 0, none⟩))) _) | fail)
          refine hcall.mono ?_
          rintro e w2 ⟨rfl, ⟨stop2, h2⟩, k2⟩
          have H2 := Lib.hid h2
          have K2 := Lib.hid (show Kept G w0 w2 from KD.out.trans k2 (fun i _ e => e ▸ HM'.out.gm))
          have hs2 : Hid (w.heap.size ≤ w2.heap.size) := Lib.hid (Nat.le_trans K0.out.size K2.out.size)
          have hbB : w2.cell? ⟨w.heap.size, 2, none⟩ = some (.int .u8 (to_.toNat : Int)) := k2.cell d2 (fun e => HBG.out (by rw [show w.heap.size = m from e]; exact HM'.out.gm))
          clear h2 k2 hcall d0 d2 d4 d5 d6
          have hfb := H2.out.fil f0 l HK0.out hfl2.out
          rw [HGF.out] at hfb
          have q0 : w2.cell? ⟨gf, 0, none⟩ = some (.string (str l.data)) := cell_of_row _ _ _ _ _ _ hfb
          have q1 : w2.cell? ⟨gf, 1, none⟩ = some (.int .i64 (l.safe : Int)) := cell_of_row _ _ _ _ _ _ hfb
          have qf : w2.frozen? ⟨gf, 1, none⟩ = false := frozen_of_row _ _ _ _ _ hfb
          have k3 : Kept (fun i => i = g f0) w2 (w2.setCell ⟨gf, 1, none⟩ (.int .i64 (ll : Int))) := Kept.setCell w2 (by rw [HGF.out]) _
          have b3 := heap_setCell_same w2 gf 1 _ 48 (.int .i64 (ll : Int)) hfb
          have M3 := Lib.hid (H2.out.file HK0.out hfl2.out k3 (l' := ⟨l.data, l.data.length⟩) (v := S.count.2.vol) (by rw [HGF.out, b3, HLL.out]; rfl) HOKS.out)
          have K3 := Lib.hid (show Kept G w2 _ from k3.mono (fun i _ e => e ▸ H2.out.gfil f0 HK0.out))
          clear hfb k3 b3
          go_wp2
          go_ret
          have R := fin.out _ _ g K G (fun _ h => .inl h) M3.out.md (K2.out.step K3.out)
          rw [HDO.out, HE.out]
          exact ⟨rfl, ⟨_, _, R.1⟩, R.2⟩
        · rw [if_neg (by rw [he]; simp), show S.count = (7, S.count.2) by rw [← he]] at e0
          have HE := Lib.hid e0
          have hd0 : decide (S.count.1 = 0) = false := by rw [he]; rfl
          rw [hd0] at hcall
          clear e0 o he hl hdn
          go_wp2_with (first | (at_lookup; refine wpList_look1 rfl _ _ 27 44 rfl Try.underlying27 zeroMfile (some mn) (S.cur.re g) rfl HNOW.out (nm na) rfl hkeyn ?_; rw [hl2]; clear hl2; show wpList _ _ _ _ (Act.put _ _ (Value.pointer (some ⟨gf, 0, none⟩))) _) | fail)
          refine hcall.mono ?_
          rintro e w2 ⟨rfl, ⟨stop2, h2⟩, k2⟩
          have H2 := Lib.hid h2
          have K2 := Lib.hid (show Kept G w0 w2 from KD.out.trans k2 (fun i _ e => e ▸ HM'.out.gm))
          clear h2 k2 hcall
          go_wp2
          go_ret
          have R := fin.out w2 _ g K G (fun _ h => .inl h) H2.out.md K2.out
          rw [HDO.out, HE.out]
          exact ⟨rfl, ⟨g, K, R.1⟩, R.2⟩
      · have o := HM'.out.ok
        have e0 : S.byOp 10 na to_ num f b = S.step ⟨nm na, [], none⟩ := on_some hdn hl _
        rcases S.count_err with he | he
        · rw [step_on _ _ he] at e0
          have hoks := o.chgCount hc ⟨nm na, [], none⟩ hkeyn (Nat.zero_le _) (fun i hi => by cases hi)
          have HOKS := Lib.hid hoks
          have HE := Lib.hid e0
          have hd0 : decide (S.count.1 = 0) = true := by rw [he]; rfl
          rw [hd0] at hcall
          clear hoks e0 o he hl hdn
          go_wp2_with (first | (at_lookup; refine wpList_look1 rfl _ _ 27 44 rfl Try.underlying27 zeroMfile (some mn) (S.cur.re g) rfl HNOW.out (nm na) rfl hkeyn ?_; rw [hl2]; clear hl2; show wpList _ _ _ _ (Act.put _ _ (Value.pointer (some ⟨gf, 0, none⟩))) _) | fail)
          refine hcall.mono ?_
          rintro e w2 ⟨rfl, ⟨stop2, h2⟩, k2⟩
          have H2 := Lib.hid h2
          have K2 := Lib.hid (show Kept G w0 w2 from KD.out.trans k2 (fun i _ e => e ▸ HM'.out.gm))
          have hs2 : Hid (w.heap.size ≤ w2.heap.size) := Lib.hid (Nat.le_trans K0.out.size K2.out.size)
          have hbB : w2.cell? ⟨w.heap.size, 2, none⟩ = some (.int .u8 (to_.toNat : Int)) := k2.cell d2 (fun e => HBG.out (by rw [show w.heap.size = m from e]; exact HM'.out.gm))
          clear h2 k2 hcall d0 d2 d4 d5 d6
          go_wp2_with fail
          refine (drop_any H2.out.md (nm na) hkeyn HOKS.out.1 HOKS.out.2).mono ?_
          rintro e w3 ⟨rfl, h3, k3⟩
          have M3 := Lib.hid h3
          have K3 := Lib.hid k3
          clear h3 k3
          go_wp2
          go_ret
          have R := fin.out w3 _ g K _ (fun i hi => hi.imp id (fun h9 => Nat.le_trans hs2.out h9.1)) M3.out (K2.out.step K3.out)
          rw [HDO.out, HE.out]
          exact ⟨rfl, ⟨_, _, R.1⟩, R.2⟩

        · rw [step_off _ _ he] at e0
          have HE := Lib.hid e0
          have hd0 : decide (S.count.1 = 0) = false := by rw [he]; rfl
          rw [hd0] at hcall
          clear e0 o he hl hdn
          go_wp2_with (first | (at_lookup; refine wpList_look1 rfl _ _ 27 44 rfl Try.underlying27 zeroMfile (some mn) (S.cur.re g) rfl HNOW.out (nm na) rfl hkeyn ?_; rw [hl2]; clear hl2; show wpList _ _ _ _ (Act.put _ _ (Value.pointer (some ⟨gf, 0, none⟩))) _) | fail)
          refine hcall.mono ?_
          rintro e w2 ⟨rfl, ⟨stop2, h2⟩, k2⟩
          have H2 := Lib.hid h2
          have K2 := Lib.hid (show Kept G w0 w2 from KD.out.trans k2 (fun i _ e => e ▸ HM'.out.gm))
          clear h2 k2 hcall
          go_wp2
          go_ret
          have R := fin.out w2 _ g K G (fun _ h => .inl h) H2.out.md K2.out
          rw [HDO.out, HE.out]
          exact ⟨rfl, ⟨g, K, R.1⟩, R.2⟩
      · have o := HM'.out.ok
        have e0 : S.byOp 11 na to_ num f b = S.step ⟨nm na, [], none⟩ := on_some hdn hl _
        rcases S.count_err with he | he
        · rw [step_on _ _ he] at e0
          have hoks := o.chgCount hc ⟨nm na, [], none⟩ hkeyn (Nat.zero_le _) (fun i hi => by cases hi)
          have HOKS := Lib.hid hoks
          have HE := Lib.hid e0
          have hd0 : decide (S.count.1 = 0) = true := by rw [he]; rfl
          rw [hd0] at hcall
          clear hoks e0 o he hl hdn
          go_wp2_with (first | (at_lookup; refine wpList_look1 rfl _ _ 27 44 rfl Try.underlying27 zeroMfile (some mn) (S.cur.re g) rfl HNOW.out (nm na) rfl hkeyn ?_; rw [hl2]; clear hl2; show wpList _ _ _ _ (Act.put _ _ (Value.pointer (some ⟨gf, 0, none⟩))) _) | fail)
          refine hcall.mono ?_
          rintro e w2 ⟨rfl, ⟨stop2, h2⟩, k2⟩
          have H2 := Lib.hid h2
          have K2 := Lib.hid (show Kept G w0 w2 from KD.out.trans k2 (fun i _ e => e ▸ HM'.out.gm))
          have hs2 : Hid (w.heap.size ≤ w2.heap.size) := Lib.hid (Nat.le_trans K0.out.size K2.out.size)
          have hbB : w2.cell? ⟨w.heap.size, 2, none⟩ = some (.int .u8 (to_.toNat : Int)) := k2.cell d2 (fun e => HBG.out (by rw [show w.heap.size = m from e]; exact HM'.out.gm))
          clear h2 k2 hcall d0 d2 d4 d5 d6
          go_wp2_with fail
          refine (drop_any H2.out.md (nm na) hkeyn HOKS.out.1 HOKS.out.2).mono ?_
          rintro e w3 ⟨rfl, h3, k3⟩
          have M3 := Lib.hid h3
          have K3 := Lib.hid k3
          clear h3 k3
          go_wp2
          go_ret
          have R := fin.out w3 _ g K _ (fun i hi => hi.imp id (fun h9 => Nat.le_trans hs2.out h9.1)) M3.out (K2.out.step K3.out)
          rw [HDO.out, HE.out]
          exact ⟨rfl, ⟨_, _, R.1⟩, R.2⟩

        · rw [step_off _ _ he] at e0
          have HE := Lib.hid e0
          have hd0 : decide (S.count.1 = 0) = false := by rw [he]; rfl
          rw [hd0] at hcall
          clear e0 o he hl hdn
          go_wp2_with (first | (at_lookup; refine wpList_look1 rfl _ _ 27 44 rfl Try.underlying27 zeroMfile (some mn) (S.cur.re g) rfl HNOW.out (nm na) rfl hkeyn ?_; rw [hl2]; clear hl2; show wpList _ _ _ _ (Act.put _ _ (Value.pointer (some ⟨gf, 0, none⟩))) _) | fail)
          refine hcall.mono ?_
          rintro e w2 ⟨rfl, ⟨stop2, h2⟩, k2⟩
          have H2 := Lib.hid h2
          have K2 := Lib.hid (show Kept G w0 w2 from KD.out.trans k2 (fun i _ e => e ▸ HM'.out.gm))
          clear h2 k2 hcall
          go_wp2
          go_ret
          have R := fin.out w2 _ g K G (fun _ h => .inl h) H2.out.md K2.out
          rw [HDO.out, HE.out]
          exact ⟨rfl, ⟨g, K, R.1⟩, R.2⟩
end Go.Proofs.Ytdcccjkondjhbaa
