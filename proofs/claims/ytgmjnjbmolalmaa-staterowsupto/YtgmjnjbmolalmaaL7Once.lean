/-
  The walk of StateOnce. No statement is proved here.
-/
import Derived.Test.YtgmjnjbmolalmaaL7Plain
import Derived.Test.YtgmjnjbmolalmaaStgK
namespace Go.Proofs.Ytgmjnjbmolalmaa
open Go.RowKit Tot

/-- Two pairs compared part by part. -/
def pairSame (p q : ByteArray × (ByteArray × Bool)) : Bool := p.1.toList == q.1.toList && (p.2.1.toList == q.2.1.toList && p.2.2 == q.2.2)
theorem pairSame_iff (p q : ByteArray × (ByteArray × Bool)) : pairSame p q = true ↔ p = q := by
  obtain ⟨a1, a2, a3⟩ := p
  obtain ⟨b1, b2, b3⟩ := q
  simp only [pairSame, Bool.and_eq_true, toList_inj, Prod.mk.injEq, beq_iff_eq]
theorem pairSame_self (p : ByteArray × (ByteArray × Bool)) : pairSame p p = true := (pairSame_iff p p).2 rfl
set_option maxRecDepth 100000 in
theorem pair_equalIn (k : Nat) (w : World) (p q : ByteArray × (ByteArray × Bool)) : (Op.equalIn (k + 1 + 1) 61 (PR.val p) (PR.val q)).run Try.prog w = .ok (pairSame p q) w := by
  have u3 := Try.underlying4
  have a3 := Try.isAgg4
  have z3 := Try.sizeOf4
  have u5 := Try.underlying9
  have a5 := Try.isAgg9
  have z5 := Try.sizeOf9
  have hS : Try.prog.underlying 61 = some (.struct (Try.prog.fieldsOf 61)) := by kernel_rfl
  have hp : Try.prog.stoodInHeld 61 = false := by kernel_rfl
  unfold PR.val
  rw [run_equalIn_agg w (k + 1) 61 _ _ hS hp]
  simp only [Program.fieldsOf, Try.underlying61]
  go_simp
  unfold pairSame
  repeat' split
  all_goals simp_all
theorem pair_neq (w : World) (p q : ByteArray × (ByteArray × Bool)) : (binOp .neq 61 (PR.val p) (PR.val q)).run Try.prog w = .ok (.bool (!pairSame p q)) w := by
  have h := pair_equalIn 9998 w p q
  unfold PR.val at h ⊢
  rw [run_neq_struct, show (10000 : Nat) = 9998 + 1 + 1 from rfl, h]
  rfl
theorem ix_next {a b : Int} {k : Nat} (h : a = b + (k : Int)) : a + 1 = b + ((k + 1 : Nat) : Int) := by omega
theorem wrap_next {k : Nat} (h : k < 1000) : wrap64 ((k : Int) + 1) = (k : Int) + 1 := by unfold wrap64; omega
/-- A state some entries later. -/
def StV.later (s : StV) (i : Int) : StV := { s with index := i }
theorem later_right {s : StV} (h : s.Right) {i : Int} (h0 : 0 ≤ i) (h1 : i ≤ 1048576) : (s.later i).Right := ⟨⟨h0, h1⟩, h.2.1, h.2.2⟩

set_option maxRecDepth 100000 in
set_option maxHeartbeats 1000000 in
theorem once_walk (F : Nat → Prop) (a : Option Addr) (n cp : Nat) (ss : List SayV) (s : SayV) (times : UInt8) (w : World) (h : Lies w F a (sayCells ss)) (hl : ss.length = n) (hnc : n ≤ cp) :
    Calls Try.prog 5 #[.slice a n cp, s.val, .int .u8 (times.toNat : Int)] w fun e w' => e = .returned (.bool true) ∧ Kept noBlock w w' := by
  have SOME : Hid (∀ u, Kept noBlock w u → _) := fun u k => some_any F a n cp ss u (h.keep k (fun _ _ h => h)) hl hnc
  have SAY := Lib.hid (fun u => say_any s u)
  obtain ⟨A0, hA0⟩ : ∃ A0, A0 = someV ss := ⟨_, rfl⟩
  have hr0 : A0.Right := by rw [hA0]; exact someV_right ss
  obtain ⟨hi0, ht0, ht1, hq0⟩ := someV_facts ss
  have hle := entsS_length ss
  rw [← hA0] at hi0 ht0 ht1 hq0 SOME
  have hi1 : 0 ≤ A0.index ∧ A0.index ≤ 80 := by omega
  clear hi0 hA0 hle h hl hnc
  have hmay := s.may
  obtain ⟨c, hc⟩ : ∃ c, c = s.cmd := ⟨_, rfl⟩
  rw [← hc] at SAY hmay
  clear hc
  have RI := Lib.hid (fun F A c B d u h => sright_any F A0 A c B d u h (by have := hr0.len; omega) (by have := hr0.lens; omega))
  rw [decide_eq_true hr0] at RI
  unfold SayV.val CmdV.val stv at *
  obtain ⟨s0, s1, s2, s3, s4, s5⟩ := s
  simp only at SAY ⊢
  go_enter Try.func5, Try.ntmps5
  go_wp2_with fail
  refine (awake_any _).mono ?_
  rintro e w2 ⟨rfl, k2⟩
  have K2 := Lib.hid ((Kept.alloc noBlock w _).step k2)
  have HS := Lib.hid (k2.blk (heap_alloc_new w _) (fun h => h))
  clear k2
  go_wp2_with fail
  refine (SOME.out w2 K2.out).mono ?_
  rintro e w3 ⟨A3, c3, B3, d3, rfl, sv3, k3⟩
  have ka := Kept.alloc noBlock w3 (.cells #[.int .i64 A0.index, .int .i64 A0.term, .slice A3 A0.pairs.length c3, .slice B3 A0.sess.length d3] 33)
  have ha := heap_alloc_new w3 (.cells #[.int .i64 A0.index, .int .i64 A0.term, .slice A3 A0.pairs.length c3, .slice B3 A0.sess.length d3] 33)
  go_upto_region 4 with (fail)
  generalize w3.alloc (.cells #[.int .i64 A0.index, .int .i64 A0.term, .slice A3 A0.pairs.length c3, .slice B3 A0.sess.length d3] 33) = w4 at ka ha ⊢
  have K4 := Lib.hid (K2.out.step (k3.step ka))
  have Z23 := Lib.hid k3.size
  have HS4 := Lib.hid ((k3.step ka).blk HS.out (fun h => h))
  have SV4 := Lib.hid (sv3.kept ka)
  have HA4 := Lib.hid ha
  have Z34 := Lib.hid ka.size
  clear ka ha k3 sv3 SOME HS
  have y0 := cell_of_row _ _ 0 _ _ _ HS4.out
  have y1 := cell_of_row _ _ 1 _ _ _ HS4.out
  have y2 := cell_of_row _ _ 2 _ _ _ HS4.out
  have y3 := cell_of_row _ _ 3 _ _ _ HS4.out
  have y4 := cell_of_row _ _ 4 _ _ _ HS4.out
  have y5 := cell_of_row _ _ 5 _ _ _ HS4.out
  go_wp2_with fail
  refine (SAY.out w4).mono ?_
  rintro e w5 ⟨rfl, k5⟩
  clear y0 y1 y2 y3 y4 y5 HS4 SAY
  have ka := Kept.alloc noBlock w5 (.cells #[.int .i64 c.op, .int .i64 c.client, .int .i64 c.seq, .string c.key, .string c.value, .string c.old] 39)
  have ha := heap_alloc_new w5 (.cells #[.int .i64 c.op, .int .i64 c.client, .int .i64 c.seq, .string c.key, .string c.value, .string c.old] 39)
  have hzw : w5.heap.size < (w5.alloc (.cells #[.int .i64 c.op, .int .i64 c.client, .int .i64 c.seq, .string c.key, .string c.value, .string c.old] 39)).heap.size := by simp
  go_upto_region 5 with (fail)
  generalize w5.alloc (.cells #[.int .i64 c.op, .int .i64 c.client, .int .i64 c.seq, .string c.key, .string c.value, .string c.old] 39) = w6 at ka ha hzw ⊢
  have K6 := Lib.hid (K4.out.step (k5.step ka))
  have SV6 := Lib.hid (SV4.out.kept (k5.step ka))
  have HA6 := Lib.hid ((k5.step ka).blk HA4.out (fun h => h))
  have HC6 := Lib.hid ha
  have Z45 := Lib.hid k5.size
  have hpa := lt_of_blk HA4.out
  have hPC : w3.heap.size < w5.heap.size := Nat.lt_of_lt_of_le hpa k5.size
  have Z25 : Hid (w2.heap.size ≤ w5.heap.size) := by have := Z23.out; unfold Hid; omega
  clear ka ha k5 SV4 HA4 hpa
  obtain ⟨a0, a1, a2, a3⟩ := st_cells HA6.out
  have g0 : w6.cell? ⟨w5.heap.size, 0, none⟩ = some (.int .i64 c.op) := cell_of_row _ _ _ _ _ _ HC6.out
  by_cases hop : c.op = 0
  · have R6 := Lib.hid (RI.out _ A3 c3 B3 d3 w6 SV6.out)
    clear RI hmay
    go_wp2_with fail
    refine R6.out.mono ?_
    rintro e w7 ⟨rfl, k7⟩
    have K7 := Lib.hid (K6.out.step k7)
    clear k7 R6
    go_wp2
    go_ret
    exact ⟨rfl, K7.out⟩
  · have hop' : (c.op == 0) = false := by simpa using hop
    have g1 : w6.cell? ⟨w5.heap.size, 1, none⟩ = some (.int .i64 c.client) := cell_of_row _ _ _ _ _ _ HC6.out
    have g2 : w6.cell? ⟨w5.heap.size, 2, none⟩ = some (.int .i64 c.seq) := cell_of_row _ _ _ _ _ _ HC6.out
    have f1 : w6.frozen? ⟨w5.heap.size, 1, none⟩ = false := frozen_of_row _ _ _ _ _ HC6.out
    have f2 : w6.frozen? ⟨w5.heap.size, 2, none⟩ = false := frozen_of_row _ _ _ _ _ HC6.out
    have kc : Kept (fun i => i = w5.heap.size) w6 ((w6.setCell ⟨w5.heap.size, 1, none⟩ (.int .i64 2)).setCell ⟨w5.heap.size, 2, none⟩ (.int .i64 1000)) := (Kept.setCell w6 (by rfl) _).step (Kept.setCell _ (by rfl) _)
    have hc1 := heap_setCell_same w6 w5.heap.size 1 _ 39 (.int .i64 2) HC6.out
    have hc2 := heap_setCell_same _ w5.heap.size 2 _ 39 (.int .i64 1000) hc1
    go_upto_region 8 with (fail)
    generalize (w6.setCell ⟨w5.heap.size, 1, none⟩ (.int .i64 2)).setCell ⟨w5.heap.size, 2, none⟩ (.int .i64 1000) = w7 at kc hc2 ⊢
    have hc2' : w7.heap[w5.heap.size]? = some (.cells #[.int .i64 c.op, .int .i64 2, .int .i64 1000, .string c.key, .string c.value, .string c.old] 39 (0, 0)) := by simpa using hc2
    have HC7 := Lib.hid hc2'
    have HA7 := Lib.hid (kc.blk HA6.out (by omega))
    have K7 : Hid (Kept noBlock w w7) := ((K6.out.mono (T := fun i => w.heap.size ≤ i) (fun _ _ h => h.elim)).trans kc (fun i _ h => by have := K4.out.size; have := Z45.out; omega)).mono (fun i hi h => by omega)
    have SV7 := Lib.hid (SV6.out.keep kc (fun i hi e => by have := hi.2; omega))
    clear hc1 hc2 hc2' kc a0 a1 a2 a3 g0 g1 g2 f1 f2 HC6 HA6 SV6 K6 RI
    obtain ⟨cc, hcc⟩ : ∃ cc : CmdV, cc = ⟨c.op, 2, 1000, c.key, c.value, c.old⟩ := ⟨_, rfl⟩
    have hmc : cc.May := by
      rw [hcc]
      unfold CmdV.May at hmay ⊢
      simp only
      omega
    have hnx : NextE A0 ⟨A0.index + 1, A0.term, cc⟩ := ⟨⟨by show 1 ≤ A0.index + 1; omega, by show A0.index + 1 ≤ 1048576; omega, ht0, by show A0.term ≤ 1048576; omega, hmc⟩, rfl, Int.le_refl _⟩
    have hst := stepV_new hnx (by rw [hcc]; exact hop) (fun x hx => by rw [hcc]; have := hq0 x hx; show x.2.1 < 1000; omega)
    have AP := Lib.hid (apply_any _ A0 A3 c3 B3 d3 ⟨A0.index + 1, A0.term, cc⟩ w7 SV7.out hr0)
    obtain ⟨b1, hb1⟩ : ∃ b1, b1 = (stepV A0 ⟨A0.index + 1, A0.term, cc⟩).1 := ⟨_, rfl⟩
    obtain ⟨fst, hfst⟩ : ∃ fst, fst = (stepV A0 ⟨A0.index + 1, A0.term, cc⟩).2 := ⟨_, rfl⟩
    rw [← hb1, ← hfst] at AP
    have hbr : b1.Right := by rw [hb1]; exact stepV_right hr0 _
    have hbi : b1.index = A0.index + 1 := by rw [hb1, hst]
    have hbt : b1.term = A0.term := by rw [hb1, hst]
    have hbl : Srt.look b1.sess 2 = some (1000, fst) := by
      rw [hb1, hfst, hst]
      have := look_put hr0.ups (2 : Int) ((1000 : Int), (doV A0.pairs cc).2)
      rw [show cc.client = 2 by rw [hcc], show cc.seq = 1000 by rw [hcc]]
      exact this
    have hw : wrap64 (A0.index + 1) = A0.index + 1 := by unfold wrap64; omega
    have HBI := Lib.hid hbi
    have HBT := Lib.hid hbt
    clear hst hnx hb1 hfst hbi hbt
    rw [hcc] at AP
    unfold stv EntryV.val RepV.val at AP
    simp only at AP
    obtain ⟨a0, a1, a2, a3⟩ := st_cells HA7.out
    obtain ⟨m0, m1, m2, m3, m4, m5⟩ : w7.cell? ⟨w5.heap.size, 0, none⟩ = some (.int .i64 c.op) ∧ w7.cell? ⟨w5.heap.size, 1, none⟩ = some (.int .i64 2) ∧ w7.cell? ⟨w5.heap.size, 2, none⟩ = some (.int .i64 1000) ∧ w7.cell? ⟨w5.heap.size, 3, none⟩ = some (.string c.key) ∧ w7.cell? ⟨w5.heap.size, 4, none⟩ = some (.string c.value) ∧ w7.cell? ⟨w5.heap.size, 5, none⟩ = some (.string c.old) := ⟨cell_of_row _ _ _ _ _ _ HC7.out, cell_of_row _ _ _ _ _ _ HC7.out, cell_of_row _ _ _ _ _ _ HC7.out, cell_of_row _ _ _ _ _ _ HC7.out, cell_of_row _ _ _ _ _ _ HC7.out, cell_of_row _ _ _ _ _ _ HC7.out⟩
    go_wp2_with fail
    refine AP.out.mono ?_
    rintro e w8 ⟨A8, c8, B8, d8, rfl, sv8, k8⟩
    obtain ⟨ka, ha, hf⟩ := two_new w8 (.int .i64 b1.index) (.int .i64 b1.term) (.slice A8 b1.pairs.length c8) (.slice B8 b1.sess.length d8) (.int .i64 fst.err) (.string fst.value)
    go_upto_region 9 with (fail)
    generalize (w8.alloc (.cells #[.int .i64 b1.index, .int .i64 b1.term, .slice A8 b1.pairs.length c8, .slice B8 b1.sess.length d8] 33)).alloc (.cells #[.int .i64 fst.err, .string fst.value] 44) = w9 at ka ha hf ⊢
    have K9 := Lib.hid (K7.out.step (k8.step ka))
    have HC9 := Lib.hid ((k8.step ka).blk HC7.out (fun h => h))
    have SV9 := Lib.hid (sv8.kept ka |>.mono (G := fun i => i ≠ w8.heap.size) (fun i hi e => by have := hi.2; omega))
    have HB9 := Lib.hid ha
    have HF9 := Lib.hid hf
    have hPB : w5.heap.size < w8.heap.size := Nat.lt_of_lt_of_le (lt_of_blk HC7.out) k8.size
    clear ka ha hf k8 sv8 AP a0 a1 a2 a3 m0 m1 m2 m3 m4 m5 HA7 HC7 SV7 K7 hw
    obtain ⟨T, hT⟩ : ∃ T, T = times.toNat % 20 := ⟨_, rfl⟩
    have t1 : ((times.toNat : Int)).tmod 20 = (T : Int) := by rw [hT]; exact tmod_nat _ 20
    have hT20 : T < 20 := by omega
    have hwT : IntKind.i64.wrap (T : Int) = (T : Int) := wrap_nat T (by omega)
    have bound : 0 ≤ b1.index ∧ b1.index ≤ 81 := by have := HBI.out; omega
    have bt : 0 ≤ b1.term ∧ b1.term ≤ 80 := by have := HBT.out; omega
    have NEQ : ∀ u, (binOp .neq 44 (.agg #[.int .i64 fst.err, .string fst.value]) (.agg #[.int .i64 fst.err, .string fst.value])).run Try.prog u = .ok (.bool false) u := fun u => by
      have h := rep_neq u fst fst
      rw [RepV.same_self] at h
      exact h
    have AP2 : Hid (∀ u F ix A c' B d, 0 ≤ ix → ix ≤ 200 → Sv u F (b1.later ix) A c' B d → Calls Try.prog 13 #[.agg #[.int .i64 ix, .int .i64 b1.term, .slice A b1.pairs.length c', .slice B b1.sess.length d], .agg #[.int .i64 (ix + 1), .int .i64 b1.term, .int .i64 c.op, .int .i64 2, .int .i64 1000, .string c.key, .string c.value, .string c.old]] u fun en w' => ∃ A c' B d, en = .returned (.tuple #[.agg #[.int .i64 (ix + 1), .int .i64 b1.term, .slice A b1.pairs.length c', .slice B b1.sess.length d], .agg #[.int .i64 fst.err, .string fst.value]]) ∧ Sv w' (fresh u w') (b1.later (ix + 1)) A c' B d ∧ Kept noBlock u w') := fun u F ix A c' B d h0 h1 hsv => by
      have hn : NextE (b1.later ix) ⟨ix + 1, b1.term, cc⟩ := ⟨⟨by show 1 ≤ ix + 1; omega, by show ix + 1 ≤ 1048576; omega, bt.1, by show b1.term ≤ 1048576; omega, hmc⟩, rfl, Int.le_refl _⟩
      have h := apply_any F (b1.later ix) A c' B d ⟨ix + 1, b1.term, cc⟩ u hsv (later_right hbr h0 (by omega))
      rw [stepV_again (r := fst) hn (by rw [hcc]; exact hop) (by rw [hcc]; exact hbl)] at h
      rw [hcc] at h
      exact h
    have AP3 : Hid (∀ u F ix A c' B d, 0 ≤ ix → ix ≤ 200 → Sv u F (b1.later ix) A c' B d → Calls Try.prog 13 #[.agg #[.int .i64 ix, .int .i64 b1.term, .slice A b1.pairs.length c', .slice B b1.sess.length d], .agg #[.int .i64 (ix + 1), .int .i64 b1.term, .int .i64 1, .int .i64 2, .int .i64 999, .string ⟨#[107]⟩, .string ⟨#[]⟩, .string ⟨#[]⟩]] u fun en w' => ∃ A c' B d, en = .returned (.tuple #[.agg #[.int .i64 (ix + 1), .int .i64 b1.term, .slice A b1.pairs.length c', .slice B b1.sess.length d], .agg #[.int .i64 12, .string ⟨#[]⟩]]) ∧ Kept noBlock u w') := fun u F ix A c' B d h0 h1 hsv => by
      have hn : NextE (b1.later ix) ⟨ix + 1, b1.term, ⟨1, 2, 999, tK, noText, noText⟩⟩ := ⟨⟨by show 1 ≤ ix + 1; omega, by show ix + 1 ≤ 1048576; omega, bt.1, by show b1.term ≤ 1048576; omega, (show CmdV.May ⟨1, 2, 999, tK, noText, noText⟩ from .inr (by decide))⟩, rfl, Int.le_refl _⟩
      have h := apply_any F (b1.later ix) A c' B d ⟨ix + 1, b1.term, ⟨1, 2, 999, tK, noText, noText⟩⟩ u hsv (later_right hbr h0 (by omega))
      rw [stepV_old (q := 1000) (r := fst) hn (by show (1 : Int) ≠ 0; decide) (by show Srt.look b1.sess 2 = _; exact hbl) (by show (999 : Int) < 1000; decide)] at h
      refine h.mono ?_
      rintro en w' ⟨A', c', B', d', rfl, _, k⟩
      exact ⟨A', c', B', d', rfl, k⟩
    have PNE := fun u p => pair_neq u p p
    simp only [pairSame_self] at PNE
    unfold PR.val at PNE
    have LEN := Lib.hid hbr.len
    obtain ⟨PB, hPBe⟩ : ∃ PB, PB = w8.heap.size := ⟨_, rfl⟩
    obtain ⟨PC, hPCe⟩ : ∃ PC, PC = w5.heap.size := ⟨_, rfl⟩
    rw [← hPBe] at SV9 HB9 HF9 hPB ⊢
    rw [← hPCe] at HC9 hPB ⊢
    have hA0i : 0 ≤ b1.index := bound.1
    have HWPB : Hid (w.heap.size ≤ PB) := by have := K2.out.size; have := Z25.out; unfold Hid; omega
    have hA0j : b1.index ≤ 81 := bound.2
    clear hPBe hPCe hPC hT hbl hmc hmay hbr HBI HBT hq0 hr0 hi1 ht0 ht1 hop hop' bound bt hzw hcc Z34 Z45 K2 K4
    have HW0 : Hid (∃ ix A c' B d, Hid (ix = b1.index + ((0 : Nat) : Int)) ∧ Hid (w9.heap[PB]? = some (.cells #[.int .i64 ix, .int .i64 b1.term, .slice A b1.pairs.length c', .slice B b1.sess.length d] 33 (0, 0))) ∧ Hid (Sv w9 (fun i => i ≠ PB) (b1.later ix) A c' B d)) := ⟨b1.index, A8, c8, B8, d8, by unfold Hid; simp, HB9, SV9⟩
    go_wp2_with fail
    go_loopw [11] (fun i wr => ∃ k : Nat, k ≤ T ∧ i = .int .i64 (k : Int) ∧ Hid (∃ ix A c' B d, Hid (ix = b1.index + (k : Int)) ∧ Hid (wr.heap[PB]? = some (.cells #[.int .i64 ix, .int .i64 b1.term, .slice A b1.pairs.length c', .slice B b1.sess.length d] 33 (0, 0))) ∧ Hid (Sv wr (fun i => i ≠ PB) (b1.later ix) A c' B d)) ∧ Hid (wr.heap[PB + 1]? = some (.cells #[.int .i64 fst.err, .string fst.value] 44 (0, 0))) ∧ Hid (wr.heap[PC]? = some (.cells #[.int .i64 c.op, .int .i64 2, .int .i64 1000, .string c.key, .string c.value, .string c.old] 39 (0, 0))) ∧ Hid (Kept noBlock w wr)) (fun i _ => T - (intOf i).toNat)
    case atStart => exact ⟨0, by omega, rfl, HW0, HF9, HC9, K9⟩
    case round =>
      obtain ⟨k, hk, rfl, HX, HF, HC, HK⟩ := hrel
      obtain ⟨ix, A, c', B, d, HI, HB, SV⟩ := HX.out
      clear HX
      have hix0 : 0 ≤ ix := by have := HI.out; omega
      have hix1 : ix ≤ 120 := by have := HI.out; omega
      obtain ⟨a0, a1, a2, a3⟩ := st_cells HB.out
      obtain ⟨q0, q1⟩ := re_cells HF.out
      obtain ⟨m0, m1, m2, m3, m4, m5⟩ : wr.cell? ⟨PC, 0, none⟩ = some (.int .i64 c.op) ∧ wr.cell? ⟨PC, 1, none⟩ = some (.int .i64 2) ∧ wr.cell? ⟨PC, 2, none⟩ = some (.int .i64 1000) ∧ wr.cell? ⟨PC, 3, none⟩ = some (.string c.key) ∧ wr.cell? ⟨PC, 4, none⟩ = some (.string c.value) ∧ wr.cell? ⟨PC, 5, none⟩ = some (.string c.old) := ⟨cell_of_row _ _ _ _ _ _ HC.out, cell_of_row _ _ _ _ _ _ HC.out, cell_of_row _ _ _ _ _ _ HC.out, cell_of_row _ _ _ _ _ _ HC.out, cell_of_row _ _ _ _ _ _ HC.out, cell_of_row _ _ _ _ _ _ HC.out⟩
      by_cases hlt : k < T
      · go_wp2_with fail
        refine (AP2.out wr _ ix A c' B d hix0 (by omega) SV.out).mono ?_
        rintro e u2 ⟨A2, c2, B2, d2, rfl, sv2, k2⟩
        obtain ⟨ka, ha, hf⟩ := two_new u2 (.int .i64 (ix + 1)) (.int .i64 b1.term) (.slice A2 b1.pairs.length c2) (.slice B2 b1.sess.length d2) (.int .i64 fst.err) (.string fst.value)
        go_upto_region 13 with (fail)
        generalize (u2.alloc (.cells #[.int .i64 (ix + 1), .int .i64 b1.term, .slice A2 b1.pairs.length c2, .slice B2 b1.sess.length d2] 33)).alloc (.cells #[.int .i64 fst.err, .string fst.value] 44) = u3 at ka ha hf ⊢
        have K3 := Lib.hid (HK.out.step (k2.step ka))
        have HB3 := Lib.hid ((k2.step ka).blk HB.out (fun h => h))
        have HF3 := Lib.hid ((k2.step ka).blk HF.out (fun h => h))
        have HC3 := Lib.hid ((k2.step ka).blk HC.out (fun h => h))
        have hpb := lt_of_blk HB.out
        have SVB := Lib.hid (SV.out.kept (k2.step ka))
        have SVT := Lib.hid (sv2.kept ka |>.mono (G := fun i => i ≠ PB) (fun i hi e => by have := hi.1; omega))
        have HT3 := Lib.hid ha
        have HO3 := Lib.hid hf
        have hQ : PB < u2.heap.size := Nat.lt_of_lt_of_le hpb k2.size
        obtain ⟨Q, hQe⟩ : ∃ Q, Q = u2.heap.size := ⟨_, rfl⟩
        rw [← hQe] at HT3 HO3 hQ ⊢
        clear ka ha hf k2 sv2 a0 a1 a2 a3 q0 q1 m0 m1 m2 m3 m4 m5 HB HF HC HK SV hpb hQe
        obtain ⟨a0, a1, a2, a3⟩ := st_cells HB3.out
        obtain ⟨q0, q1⟩ := re_cells HF3.out
        obtain ⟨b0, b1', b2, b3⟩ := st_cells HT3.out
        obtain ⟨o0, o1⟩ := re_cells HO3.out
        go_upto_region 15 with (fail)
        clear q0 q1 o0 o1
        have A2c := Lib.hid a2
        have B2c := Lib.hid b2
        have HK84 : Hid (k < T) := hlt
        have hdk : decide ((k : Int) < (T : Int)) = true := decide_eq_true (by omega)
        have hln : b1.pairs.length ≤ 64 := LEN.out
        clear a0 a1 a3 b0 b1' b3
        go_wp2_with fail
        go_loopw [84] (fun i wr => ∃ j : Nat, j ≤ b1.pairs.length ∧ i = .int .i64 (j : Int) ∧ Hid (Kept noBlock u3 wr)) (fun i _ => b1.pairs.length - (intOf i).toNat)
        case atStart => exact ⟨0, by omega, rfl, Kept.refl _ _⟩
        case round =>
          obtain ⟨j, hj, rfl, KJ⟩ := hrel
          have e2 := KJ.out.cell A2c.out (fun h => h)
          have d2' := KJ.out.cell B2c.out (fun h => h)
          by_cases hjl : j < b1.pairs.length
          · obtain ⟨p, hp⟩ : ∃ p, b1.pairs[j]? = some p := ⟨_, List.getElem?_eq_getElem hjl⟩
            obtain ⟨g1, o1, rfl, _, z1⟩ := ((SVB.out.kept KJ.out).lp).elem PR.enc_len (by omega) hp
            obtain ⟨g2, o2, rfl, _, z2⟩ := ((SVT.out.kept KJ.out).lp).elem PR.enc_len (by omega) hp
            have x0 := z1 0 _ rfl
            have x1 := z1 1 _ rfl
            have x2 := z1 2 _ rfl
            have v0 := z2 0 _ rfl
            have v1 := z2 1 _ rfl
            have v2 := z2 2 _ rfl
            rw [Nat.add_zero] at x0 v0
            have PN := fun u => PNE u p
            obtain ⟨pk, pv, pg⟩ := p
            simp only at x0 x1 x2 v0 v1 v2 PN
            have hjn : (j : Int) < (b1.pairs.length : Int) := by omega
            clear z1 z2 hp
            go_upto_region 18 with (fail)
            go_quiet (fail)
            have kq := Kept.drewN noBlock wr nq
            generalize wr.drewN nq = v at kq ⊢
            have KV := Lib.hid (KJ.out.step kq)
            clear kq x0 x1 x2 v0 v1 v2 e2 d2'
            go_wp2
            go_roundw
            case rel => exact ⟨j + 1, by omega, by go_num, KV⟩
            case measure => simp [intOf]; omega
          · have hje : j = b1.pairs.length := by omega
            have HB4 := Lib.hid (KJ.out.blk HB3.out (fun h => h))
            have HT4 := Lib.hid (KJ.out.blk HT3.out (fun h => h))
            have HF4 := Lib.hid (KJ.out.blk HF3.out (fun h => h))
            have HC4 := Lib.hid (KJ.out.blk HC3.out (fun h => h))
            have SVT4 := Lib.hid (SVT.out.kept KJ.out)
            have K4 := Lib.hid (K3.out.step KJ.out)
            obtain ⟨a0, a1, a2, a3⟩ := st_cells HB4.out
            obtain ⟨b0, b1', b2, b3⟩ := st_cells HT4.out
            have hfz : ∀ j, wr.frozen? ⟨PB, j, none⟩ = false := fun j => frozen_of_row _ _ _ _ _ HB4.out
            have f0 := hfz 0
            have f1 := hfz 1
            have f2 := hfz 2
            have f3 := hfz 3
            have kz := setT_kept wr PB (b1.later (ix + 1)) A2 c2 B2 d2
            have hz := setT_block (s := b1.later (ix + 1)) (A := A2) (c := c2) (B := B2) (d := d2) HB4.out
            clear hfz e2 d2' KJ
            have KW : Hid (Kept noBlock w (setT wr PB (b1.later (ix + 1)) A2 c2 B2 d2)) := ((K4.out.mono (T := fun i => w.heap.size ≤ i) (fun _ _ h => h.elim)).trans kz (fun i _ h => by have := HWPB.out; omega)).mono (fun i hi h => by omega)
            have HB5 : Hid (∃ iy A c' B d, Hid (iy = b1.index + ((k + 1 : Nat) : Int)) ∧ Hid ((setT wr PB (b1.later (ix + 1)) A2 c2 B2 d2).heap[PB]? = some (.cells #[.int .i64 iy, .int .i64 b1.term, .slice A b1.pairs.length c', .slice B b1.sess.length d] 33 (0, 0))) ∧ Hid (Sv (setT wr PB (b1.later (ix + 1)) A2 c2 B2 d2) (fun i => i ≠ PB) (b1.later iy) A c' B d)) :=
              ⟨ix + 1, A2, c2, B2, d2, ix_next HI.out, hz, SVT4.out.keep kz (fun i hi e => hi e)⟩
            have HF5 := Lib.hid (kz.blk HF4.out (by omega))
            have HC5 := Lib.hid (kz.blk HC4.out (by omega))
            clear kz hz
            go_upto_region 11 with (fail)
            change Code.wp _ _ _ _ (setT wr PB (b1.later (ix + 1)) A2 c2 B2 d2)
            generalize setT wr PB (b1.later (ix + 1)) A2 c2 B2 d2 = vz at KW HB5 HF5 HC5 ⊢
            clear a0 a1 a2 a3 b0 b1' b2 b3 f0 f1 f2 f3 hwT t1 hdk hje hjl hj AP2 AP3 PNE NEQ
            go_wp2_with fail
            go_roundw
            case rel => exact ⟨k + 1, HK84.out, rfl, HB5, HF5, HC5, KW⟩
            case measure => simp [intOf]; omega
      · go_wp2_with fail
        refine (AP3.out wr _ ix A c' B d hix0 (by omega) SV.out).mono ?_
        rintro e u2 ⟨A2, c2, B2, d2, rfl, k2⟩
        obtain ⟨ka, ha, hf⟩ := two_new u2 (.int .i64 (ix + 1)) (.int .i64 b1.term) (.slice A2 b1.pairs.length c2) (.slice B2 b1.sess.length d2) (.int .i64 12) (.string ⟨#[]⟩)
        go_upto_region 23 with (fail)
        generalize (u2.alloc (.cells #[.int .i64 (ix + 1), .int .i64 b1.term, .slice A2 b1.pairs.length c2, .slice B2 b1.sess.length d2] 33)).alloc (.cells #[.int .i64 12, .string ⟨#[]⟩] 44) = u3 at ka ha hf ⊢
        have K3 := Lib.hid (HK.out.step (k2.step ka))
        obtain ⟨q2, q3⟩ := re_cells hf
        have EQ : ∀ w, (binOp .eql 44 (.agg #[.int .i64 12, .string ⟨#[]⟩]) (.agg #[.int .i64 12, .string ⟨#[]⟩])).run Try.prog w = .ok (.bool true) w := fun w => by
          have h := rep_eql w (told 12) (told 12)
          rw [RepV.same_self] at h
          exact h
        go_wp2
        go_ret
        exact ⟨rfl, K3.out⟩
end Go.Proofs.Ytgmjnjbmolalmaa
