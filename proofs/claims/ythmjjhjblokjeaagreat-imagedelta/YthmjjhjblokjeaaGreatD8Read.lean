/-
  The contract of delta.Read; a delta that was laid is read again. No statement is proved here.
-/
import Derived.Test.YthmjjhjblokjeaaGreatStRound
import Derived.Test.YthmjjhjblokjeaaGreatConK
namespace Go.Proofs.YthmjjhjblokjeaaGreat
open Go.RowKit Tot

/-- What is read as a delta. -/
def rdDelta (l : List UInt8) : DltV :=
  let q1 := rNum l false
  let q2 := rNum q1.2.1 q1.2.2
  let q3 := rNum q2.2.1 q2.2.2
  ⟨q1.1, q2.1, q3.1, rdPs q3.2.1 q3.2.2, rdXs q3.2.1 q3.2.2⟩
def gotDT (l : List UInt8) : Bool := decide ((rdDelta l).Right ∧ (rdDelta l).bytes = l)
def gotD (l : List UInt8) : DltV := if (rdDelta l).Right ∧ (rdDelta l).bytes = l then rdDelta l else noDelta
theorem noDelta_right : noDelta.Right := by decide
theorem gotD_right (l : List UInt8) : (gotD l).Right := by
  unfold gotD
  split
  · rename_i h; exact h.1
  · exact noDelta_right
theorem gotDT_true {l : List UInt8} (h : gotDT l = true) : (gotD l).Right ∧ (gotD l).bytes = l := by
  unfold gotDT at h
  have h := of_decide_eq_true h
  unfold gotD
  rw [if_pos h]
  exact h
theorem gotDT_false {l : List UInt8} (h : gotDT l = false) : gotD l = noDelta := by
  unfold gotDT at h
  have h := of_decide_eq_false h
  unfold gotD
  rw [if_neg h]
theorem dright_pairs {s : DltV} (h : s.Right) : ∀ p ∈ s.pairs, PairFit p := fun p hp => by
  have := h.2.2.2.1.2 p hp
  unfold PairOk at this
  exact ⟨by omega, by omega⟩
theorem dright_sess {s : DltV} (h : s.Right) : ∀ x ∈ s.sess, SessFit x := fun x hx => by
  have := h.2.2.2.2.2 x hx
  unfold SessOk at this
  exact ⟨⟨by omega, by omega⟩, ⟨by omega, by omega⟩, ⟨by omega, by omega⟩, by omega⟩
theorem DltV.Right.len {s : DltV} (h : s.Right) : s.pairs.length ≤ 512 := by have := h.2.2.1; omega
theorem DltV.Right.lens {s : DltV} (h : s.Right) : s.sess.length ≤ 4 := sess_len h.2.2.2.2
theorem dright_bytes {s : DltV} (h : s.Right) : s.bytes.length ≤ 30000 := by
  have h1 := flatMap_bound prB 41 s.pairs (fun p hp => by rw [prB_length]; have := h.2.2.2.1.2 p hp; unfold PairOk at this; omega)
  have h2 := flatMap_bound snB 48 s.sess (fun x hx => by rw [snB_length]; have := h.2.2.2.2.2 x hx; unfold SessOk at this; omega)
  have h3 := h.len
  have h4 := h.lens
  rw [DltV.bytes_length]
  unfold rowsB
  simp only [List.length_append, be8_length]
  omega
theorem rdDelta_bytes {s : DltV} (h : s.Right) : rdDelta s.bytes = s := by
  have h1 := h.1
  have h2 := h.2.1
  obtain ⟨r1, r2, _⟩ := rows_round s.pairs s.sess [] (dright_pairs h) (dright_sess h) (by have := h.len; omega) (by have := h.lens; omega)
  rw [List.append_nil] at r1 r2
  unfold rdDelta DltV.bytes
  simp only
  rw [rNum_be8 _ _ (by omega) (by omega)]
  simp only
  rw [rNum_be8 _ _ (by omega) (by omega)]
  simp only
  rw [rNum_be8 _ _ (by omega) (by omega)]
  simp only
  rw [r1, r2]
/-- A right delta is read of its bytes. -/
theorem gotD_bytes {s : DltV} (h : s.Right) : gotD s.bytes = s ∧ gotDT s.bytes = true := by
  have e := rdDelta_bytes h
  unfold gotD gotDT
  rw [e]
  exact ⟨if_pos ⟨h, rfl⟩, decide_eq_true ⟨h, rfl⟩⟩
/-- A delta that is stored at a block. -/
def setDl (w : World) (R : Nat) (s : DltV) (A : Option Addr) (c : Nat) (B : Option Addr) (d : Nat) : World := ((((w.setCell ⟨R, 0, none⟩ (.int .i64 s.from_)).setCell ⟨R, 1, none⟩ (.int .i64 s.to_)).setCell ⟨R, 2, none⟩ (.int .i64 s.term)).setCell ⟨R, 3, none⟩ (.slice A s.pairs.length c)).setCell ⟨R, 4, none⟩ (.slice B s.sess.length d)
theorem setDl_block {w : World} {R : Nat} {s : DltV} {A B : Option Addr} {c d : Nat} {x0 x1 x2 x3 x4 : Value} {t : TypeId} (h : w.heap[R]? = some (.cells #[x0, x1, x2, x3, x4] t (0, 0))) :
    (setDl w R s A c B d).heap[R]? = some (.cells #[.int .i64 s.from_, .int .i64 s.to_, .int .i64 s.term, .slice A s.pairs.length c, .slice B s.sess.length d] t (0, 0)) := by
  unfold setDl
  have h0 := heap_setCell_same w R 0 _ t (.int .i64 s.from_) h
  have h1 := heap_setCell_same _ R 1 _ t (.int .i64 s.to_) h0
  have h2 := heap_setCell_same _ R 2 _ t (.int .i64 s.term) h1
  have h3 := heap_setCell_same _ R 3 _ t (.slice A s.pairs.length c) h2
  have h4 := heap_setCell_same _ R 4 _ t (.slice B s.sess.length d) h3
  rw [h4]
  simp
theorem setDl_kept (w : World) (R : Nat) (s : DltV) (A : Option Addr) (c : Nat) (B : Option Addr) (d : Nat) : Kept (fun k => k = R) w (setDl w R s A c B d) := by
  unfold setDl
  exact ((((Kept.setCell w (by rfl) _).step (Kept.setCell _ (by rfl) _)).step (Kept.setCell _ (by rfl) _)).step (Kept.setCell _ (by rfl) _)).step (Kept.setCell _ (by rfl) _)
theorem Dv.lt {F : Nat → Prop} {w : World} {s : DltV} {A B : Option Addr} {c d : Nat} (h : Dv w F s A c B d) : Dv w (fun i => i < w.heap.size) s A c B d := ⟨h.lp.lt, h.ls.lt, h.cp, h.cs⟩
theorem Dv.none (w : World) (F : Nat → Prop) : Dv w F noDelta none 0 none 0 := ⟨Lies.nil _ _ _, Lies.nil _ _ _, Nat.le_refl _, Nat.le_refl _⟩

set_option maxRecDepth 100000 in
set_option maxHeartbeats 1000000 in
theorem dread_any (F : Nat → Prop) (a : Option Addr) (n c : Nat) (l : List UInt8) (w : World) (h : Lies w F a (l.map bv)) (hl : l.length = n) (hx : n ≤ 1000000000000) :
    Calls Tryz.prog 27 #[.slice a n c] w fun e w' => ∃ A c B d, e = .returned (.tuple #[dtv (gotD l) A c B d, .bool (gotDT l)]) ∧ Dv w' (fresh w w') (gotD l) A c B d ∧ Kept noBlock w w' := by
  obtain ⟨w1, hw1⟩ : ∃ w1, w1 = w.alloc (.cells #[.int .i64 0, .int .i64 0, .int .i64 0, .slice none 0 0, .slice none 0 0] 31) := ⟨_, rfl⟩
  have k1 : Kept noBlock w w1 := by rw [hw1]; exact Kept.alloc _ _ _
  have z1 : w1.heap.size = w.heap.size + 1 := by rw [hw1]; simp
  have hR : w1.heap[w.heap.size]? = some (.cells #[.int .i64 0, .int .i64 0, .int .i64 0, .slice none 0 0, .slice none 0 0] 31 (0, 0)) := by rw [hw1]; exact heap_alloc_new w _
  have OF := Lib.hid (of_any F a n c l w1 (h.keep k1 (fun _ _ h => h)) hl (by omega))
  generalize hq1 : rNum l false = q1
  obtain ⟨n1, l1, b1⟩ := q1
  generalize hq2 : rNum l1 b1 = q2
  obtain ⟨n2, l2, b2⟩ := q2
  generalize hq3 : rNum l2 b2 = q3
  obtain ⟨n3, l3, b3⟩ := q3
  have hl3 : l3.length ≤ n := by
    have h1 := rNum_le l false
    have h2 := rNum_le l1 b1
    have h3 := rNum_le l2 b2
    rw [hq1] at h1
    rw [hq2] at h2
    rw [hq3] at h3
    simp only at h1 h2 h3
    omega
  obtain ⟨s, hs⟩ : ∃ s, s = rdDelta l := ⟨_, rfl⟩
  have hse : s = ⟨n1, n2, n3, rdPs l3 b3, rdXs l3 b3⟩ := by rw [hs]; unfold rdDelta; simp only [hq1, hq2, hq3]
  have hps := rdPs_len l3 b3
  have hxs := rdXs_len l3 b3
  have ep : rdPs l3 b3 = s.pairs := by rw [hse]
  have ex : rdXs l3 b3 = s.sess := by rw [hse]
  rw [ep] at hps
  rw [ex] at hxs
  have e1 : n1 = s.from_ := by rw [hse]
  have e2 : n2 = s.to_ := by rw [hse]
  have e3 : n3 = s.term := by rw [hse]
  have RR := Lib.hid (fun G b u (hu : Rd u G b l3 b3) => readrows_any G b l3 b3 u hu (by omega))
  rw [ep, ex] at RR
  have H1 := Lib.hid hq1
  have H2 := Lib.hid hq2
  have H3 := Lib.hid hq3
  rw [e1] at H1
  rw [e2] at H2
  rw [e3] at H3
  have HS := Lib.hid hs
  have HL := Lib.hid hl
  have HLI := Lib.hid h
  have K1 := Lib.hid k1
  have HR := Lib.hid hR
  have Z1 := Lib.hid z1
  have hp1 : s.pairs.length ≤ 1099511627776 := by omega
  have hp2 : s.sess.length ≤ 1099511627776 := by omega
  clear hq1 hq2 hq3 hse ep ex e1 e2 e3 hs hl h k1 hR z1 hps hxs hl3
  go_enter Tryz.func27, Tryz.ntmps27
  go_upto_region 1 with (fail)
  rw [← hw1]
  clear hw1
  go_wp2_with fail
  refine OF.out.mono ?_
  rintro e w2 ⟨b, rfl, r2, k2⟩
  have ka := Kept.alloc noBlock w2 (.cells #[.int .i64 0, .int .i64 0, .int .i64 0, .slice none 0 0, .slice none 0 0] 31)
  have hb2 := r2.foot.1
  have hb3 := r2.foot.2
  have g0 : Rdg w (w2.alloc (.cells #[.int .i64 0, .int .i64 0, .int .i64 0, .slice none 0 0, .slice none 0 0] 31)) (fresh w1 w2) w.heap.size b w2.heap.size 31 l false #[.int .i64 0, .int .i64 0, .int .i64 0, .slice none 0 0, .slice none 0 0] #[.int .i64 0, .int .i64 0, .int .i64 0, .slice none 0 0, .slice none 0 0] :=
    ⟨(K1.out.step (k2.step ka)).mono (fun _ _ h => h.elim), r2.keep ka (fun _ _ h => h), (k2.step ka).blk HR.out (fun h => h), heap_alloc_new _ _, fun h => by have := h.1; have := Z1.out; omega, fun h => by have := h.2; omega, by have := Z1.out; omega, by have := Z1.out; omega, Nat.le_refl _⟩
  have hwb : w.heap.size < b := by have := Z1.out; omega
  go_upto_region 3 with (fail)
  generalize w2.alloc (.cells #[.int .i64 0, .int .i64 0, .int .i64 0, .slice none 0 0, .slice none 0 0] 31) = u0 at g0 ⊢
  obtain ⟨S, hS⟩ : ∃ S, S = w2.heap.size := ⟨_, rfl⟩
  rw [← hS] at g0 ⊢
  clear ka hb2 hb3 r2 k2 OF hS
  go_wp2_with fail
  refine (rnum_r g0.rd H1.out).mono ?_
  rintro e v1 ⟨rfl, r1, k1⟩
  have f1 := g0.next r1 k1
  have hf := f1.froz 0
  have hc := f1.cell 0 _ rfl
  have g1 := f1.set 0 (.int .i64 s.from_)
  clear g0 f1 r1 k1
  go_wp2_with fail
  refine (rnum_r g1.rd H2.out).mono ?_
  rintro e v2 ⟨rfl, r2, k2⟩
  have f2 := g1.next r2 k2
  clear hf hc
  have hf := f2.froz 1
  have hc := f2.cell 1 _ rfl
  have g2 := f2.set 1 (.int .i64 s.to_)
  clear g1 f2 r2 k2
  go_wp2_with fail
  refine (rnum_r g2.rd H3.out).mono ?_
  rintro e v4 ⟨rfl, r4, k4⟩
  have f4 := g2.next r4 k4
  clear hf hc
  have hf := f4.froz 2
  have hc := f4.cell 2 _ rfl
  have g4 := f4.set 2 (.int .i64 s.term)
  clear g2 f4 r4 k4
  go_upto_region 6 with (fail)
  generalize v4.setCell ⟨S, 2, none⟩ (.int .i64 s.term) = u2 at g4 ⊢
  clear hf hc
  go_wp2_with fail
  refine (RR.out _ b u2 g4.rd).mono ?_
  rintro e v3 ⟨A, c5, B, d5, rfl, op, os, r3, k3⟩
  have hSu : S < u2.heap.size := lt_of_blk g4.at_
  have f3 := g4.next r3 k3
  have hf2 := f3.froz 3
  have hc2 := f3.cell 3 _ rfl
  have hf3 := f3.froz 4
  have hc3 := f3.cell 4 _ rfl
  have g3 := (f3.set 3 (.slice A s.pairs.length c5)).set 4 (.slice B s.sess.length d5)
  have ks : Kept (fun i => i = S) v3 ((v3.setCell ⟨S, 3, none⟩ (.slice A s.pairs.length c5)).setCell ⟨S, 4, none⟩ (.slice B s.sess.length d5)) := (Kept.setCell v3 (by rfl) _).step (Kept.setCell _ (by rfl) _)
  have op4 := own_keep op ks (fun i hi e => by have := (op.lt i hi).1; omega)
  have os4 := own_keep os ks (fun i hi e => by have := (os.lt i hi).1; omega)
  have hbp : ∀ i, (Value.slice A s.pairs.length c5).ownBlock = some i → w.heap.size < i := fun i hi => by have := (op.lt i hi).1; have := g4.lB; omega
  have hbs : ∀ i, (Value.slice B s.sess.length d5).ownBlock = some i → w.heap.size < i := fun i hi => by have := (os.lt i hi).1; have := g4.lB; omega
  clear g4 f3 r3 k3 op os RR
  go_upto_region 7 with (fail)
  generalize (v3.setCell ⟨S, 3, none⟩ (.slice A s.pairs.length c5)).setCell ⟨S, 4, none⟩ (.slice B s.sess.length d5) = u4 at g3 op4 os4 ⊢
  clear hf2 hc2 hf3 hc3 ks
  have SV4 : Hid (Dv u4 (fun i => w.heap.size < i) s A c5 B d5) := by
    refine ⟨Lies.of_rows op4 hbp, Lies.of_rows os4 hbs, ?_, ?_⟩
    · obtain ⟨_, _, e, hle⟩ := own_form op4
      injection e with _ _ e
      omega
    · obtain ⟨_, _, e, hle⟩ := own_form os4
      injection e with _ _ e
      omega
  have K4 : Hid (Kept noBlock w u4) := g3.kept.mono (fun i hi e => by omega)
  have HR4 := Lib.hid g3.out
  have HA4 : Hid (u4.heap[S]? = some (.cells #[.int .i64 s.from_, .int .i64 s.to_, .int .i64 s.term, .slice A s.pairs.length c5, .slice B s.sess.length d5] 31 (0, 0))) := g3.at_
  clear g3 op4 os4 hbp hbs
  obtain ⟨a0, a1, a2, a3, a4⟩ := dl_cells HA4.out
  have RI := Lib.hid (dright_any _ s A c5 B d5 u4 SV4.out hp1 hp2)
  unfold dtv at RI
  by_cases hR : s.Right
  · rw [decide_eq_true hR] at RI
    go_wp2_with fail
    refine RI.out.mono ?_
    rintro e u5 ⟨rfl, k5⟩
    have K5 := Lib.hid (K4.out.step k5)
    have SV5 := Lib.hid (SV4.out.kept k5)
    have HR5 := Lib.hid (k5.blk HR4.out (fun h => h))
    have HA5 := Lib.hid (k5.blk HA4.out (fun h => h))
    clear a0 a1 a2 a3 a4 k5 RI K4 SV4 HR4 HA4
    obtain ⟨a0, a1, a2, a3, a4⟩ := dl_cells HA5.out
    have BY := Lib.hid (dbytes_any _ s A c5 B d5 _ u5 SV5.out rfl (by have := dright_bytes hR; omega))
    obtain ⟨m, hm⟩ : ∃ m, s.bytes.length = m := ⟨_, rfl⟩
    rw [hm] at BY
    have HM := Lib.hid hm
    clear hm
    unfold dtv at BY
    go_wp2_with fail
    refine BY.out.mono ?_
    rintro e u6 ⟨P, cp, rfl, o6, k6⟩
    have EQ := Lib.hid (equal_any (fun _ => True) F P m cp a n c s.bytes l u6 (Lies.of_own o6 (fun _ _ => trivial)) HM.out (HLI.out.keep (K5.out.step k6) (fun _ _ h => h)) HL.out)
    have KU := Lib.hid (K5.out.step k6)
    have SVU := Lib.hid (SV5.out.kept k6)
    have HRU := Lib.hid (k6.blk HR5.out (fun h => h))
    have HAU := Lib.hid (k6.blk HA5.out (fun h => h))
    clear a0 a1 a2 a3 a4 k6 o6 BY K5 SV5 HR5 HA5
    obtain ⟨a0, a1, a2, a3, a4⟩ := dl_cells HAU.out
    by_cases hE : s.bytes = l
    · rw [decide_eq_true hE] at EQ
      have HYES : Hid (s.Right ∧ s.bytes = l) := ⟨hR, hE⟩
      clear hE hR
      go_wp2_with fail
      refine EQ.out.mono ?_
      rintro e u7 ⟨rfl, hu7⟩
      subst hu7
      clear EQ
      have hbz := setDl_block (s := s) (A := A) (c := c5) (B := B) (d := d5) HRU.out
      have kz := setDl_kept u6 w.heap.size s A c5 B d5
      have KZ : Hid (Kept noBlock w (setDl u6 w.heap.size s A c5 B d5)) := ((KU.out.mono (T := fun i => w.heap.size ≤ i) (fun _ _ h => h.elim)).trans kz (fun i _ h => by omega)).mono (fun i hi h => by omega)
      have SZ : Hid (Dv (setDl u6 w.heap.size s A c5 B d5) (fresh w (setDl u6 w.heap.size s A c5 B d5)) s A c5 B d5) := by
        have h1 : Dv (setDl u6 w.heap.size s A c5 B d5) (fun i => w.heap.size < i) s A c5 B d5 := SVU.out.keep kz (fun i hi e => by omega)
        have h2 := h1.lt
        refine ⟨fun hx => ?_, fun hx => ?_, h1.cp, h1.cs⟩
        · obtain ⟨ad, q1, q2, q3⟩ := h1.lp hx
          obtain ⟨ad', p1, p2, _⟩ := h2.lp hx
          rw [q1] at p1
          injection p1 with p1
          subst p1
          exact ⟨ad, q1, ⟨Nat.le_of_lt q2, p2⟩, q3⟩
        · obtain ⟨ad, q1, q2, q3⟩ := h1.ls hx
          obtain ⟨ad', p1, p2, _⟩ := h2.ls hx
          rw [q1] at p1
          injection p1 with p1
          subst p1
          exact ⟨ad, q1, ⟨Nat.le_of_lt q2, p2⟩, q3⟩
      have E0 : Hid (gotD l = s ∧ gotDT l = true) := by
        have hyes : (rdDelta l).Right ∧ (rdDelta l).bytes = l := by rw [← HS.out]; exact HYES.out
        unfold Hid gotD gotDT
        exact ⟨by rw [if_pos hyes, HS.out], decide_eq_true hyes⟩
      obtain ⟨r0, r1, r2, r3, r4⟩ := dl_cells HRU.out
      have hfz : ∀ j, u6.frozen? ⟨w.heap.size, j, none⟩ = false := fun j => frozen_of_row _ _ _ _ _ HRU.out
      have f0 := hfz 0
      have f1 := hfz 1
      have f2 := hfz 2
      have f3 := hfz 3
      have f4 := hfz 4
      clear hfz kz HYES
      go_wp2
      change bodyPost _ _ _ _ _ (setDl u6 w.heap.size s A c5 B d5)
      generalize setDl u6 w.heap.size s A c5 B d5 = vz at hbz KZ SZ ⊢
      obtain ⟨z0, z1, z2, z3, z4⟩ := dl_cells hbz
      refine bodyPost_ret (v := .tuple #[dtv s A c5 B d5, .bool true]) (by simp [results, Tryz.results27, go_sem, dtv, Tryz.isAgg31, Tryz.sizeOf31, z0, z1, z2, z3, z4]) rfl ?_
      rw [E0.out.1, E0.out.2]
      exact ⟨A, c5, B, d5, rfl, SZ.out, KZ.out⟩
    · rw [decide_eq_false hE] at EQ
      have HNO : Hid (¬ (s.Right ∧ s.bytes = l)) := fun h => hE h.2
      clear hE hR
      go_wp2_with fail
      refine EQ.out.mono ?_
      rintro e u7 ⟨rfl, hu7⟩
      subst hu7
      clear EQ
      have hbz := setDl_block (s := noDelta) (A := none) (c := 0) (B := none) (d := 0) HRU.out
      have kz := setDl_kept u6 w.heap.size noDelta none 0 none 0
      have KZ : Hid (Kept noBlock w (setDl u6 w.heap.size noDelta none 0 none 0)) := ((KU.out.mono (T := fun i => w.heap.size ≤ i) (fun _ _ h => h.elim)).trans kz (fun i _ h => by omega)).mono (fun i hi h => by omega)
      have E0 : Hid (gotD l = noDelta ∧ gotDT l = false) := by
        have hno : ¬ ((rdDelta l).Right ∧ (rdDelta l).bytes = l) := by rw [← HS.out]; exact HNO.out
        unfold Hid gotD gotDT
        exact ⟨if_neg hno, decide_eq_false hno⟩
      obtain ⟨r0, r1, r2, r3, r4⟩ := dl_cells HRU.out
      have hfz : ∀ j, u6.frozen? ⟨w.heap.size, j, none⟩ = false := fun j => frozen_of_row _ _ _ _ _ HRU.out
      have f0 := hfz 0
      have f1 := hfz 1
      have f2 := hfz 2
      have f3 := hfz 3
      have f4 := hfz 4
      clear hfz kz HNO
      go_wp2
      change bodyPost _ _ _ _ _ (setDl u6 w.heap.size noDelta none 0 none 0)
      generalize setDl u6 w.heap.size noDelta none 0 none 0 = vz at hbz KZ ⊢
      obtain ⟨z0, z1, z2, z3, z4⟩ := dl_cells hbz
      refine bodyPost_ret (v := .tuple #[dtv noDelta none 0 none 0, .bool false]) (by simp [results, Tryz.results27, go_sem, dtv, Tryz.isAgg31, Tryz.sizeOf31, z0, z1, z2, z3, z4]) rfl ?_
      rw [E0.out.1, E0.out.2]
      exact ⟨none, 0, none, 0, rfl, Dv.none _ _, KZ.out⟩
  · rw [decide_eq_false hR] at RI
    have HNO : Hid (¬ (s.Right ∧ s.bytes = l)) := fun h => hR h.1
    clear hR
    go_wp2_with fail
    refine RI.out.mono ?_
    rintro e u5 ⟨rfl, k5⟩
    have KU := Lib.hid (K4.out.step k5)
    have HRU := Lib.hid (k5.blk HR4.out (fun h => h))
    clear a0 a1 a2 a3 a4 k5 RI K4 SV4 HR4 HA4
    have hbz := setDl_block (s := noDelta) (A := none) (c := 0) (B := none) (d := 0) HRU.out
    have kz := setDl_kept u5 w.heap.size noDelta none 0 none 0
    have KZ : Hid (Kept noBlock w (setDl u5 w.heap.size noDelta none 0 none 0)) := ((KU.out.mono (T := fun i => w.heap.size ≤ i) (fun _ _ h => h.elim)).trans kz (fun i _ h => by omega)).mono (fun i hi h => by omega)
    have E0 : Hid (gotD l = noDelta ∧ gotDT l = false) := by
      have hno : ¬ ((rdDelta l).Right ∧ (rdDelta l).bytes = l) := by rw [← HS.out]; exact HNO.out
      unfold Hid gotD gotDT
      exact ⟨if_neg hno, decide_eq_false hno⟩
    obtain ⟨r0, r1, r2, r3, r4⟩ := dl_cells HRU.out
    have hfz : ∀ j, u5.frozen? ⟨w.heap.size, j, none⟩ = false := fun j => frozen_of_row _ _ _ _ _ HRU.out
    have f0 := hfz 0
    have f1 := hfz 1
    have f2 := hfz 2
    have f3 := hfz 3
    have f4 := hfz 4
    clear hfz kz HNO
    go_wp2
    change bodyPost _ _ _ _ _ (setDl u5 w.heap.size noDelta none 0 none 0)
    generalize setDl u5 w.heap.size noDelta none 0 none 0 = vz at hbz KZ ⊢
    obtain ⟨z0, z1, z2, z3, z4⟩ := dl_cells hbz
    refine bodyPost_ret (v := .tuple #[dtv noDelta none 0 none 0, .bool false]) (by simp [results, Tryz.results27, go_sem, dtv, Tryz.isAgg31, Tryz.sizeOf31, z0, z1, z2, z3, z4]) rfl ?_
    rw [E0.out.1, E0.out.2]
    exact ⟨none, 0, none, 0, rfl, Dv.none _ _, KZ.out⟩
end Go.Proofs.YthmjjhjblokjeaaGreat
