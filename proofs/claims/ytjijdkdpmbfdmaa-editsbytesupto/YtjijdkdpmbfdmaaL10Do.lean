/-
  How the statements of layer 10 do an edit. No statement is proved here.
-/
import Derived.Test.YtjijdkdpmbfdmaaL10Edit
import Derived.Test.YtjijdkdpmbfdmaaTblRMF
import Derived.Test.YtjijdkdpmbfdmaaEdtRep
namespace Go.Proofs.Ytjijdkdpmbfdmaa
open Go.RowKit Tot

/-- Of the files N those that came in a range are P. -/
structure Copied (N : Fls) (left : Lit → Bool) (P : Fls) : Prop where
  up : Srt.Up P
  mem : ∀ p, p ∈ P ↔ p ∈ N ∧ left (MF.kl p.1) = false
theorem Copied.start {N : Fls} {left : Lit → Bool} (h : MF.still N left = N) : Copied N left [] := by
  refine ⟨List.Pairwise.nil, fun p => ⟨fun h => (by cases h), fun ⟨h1, h2⟩ => ?_⟩⟩
  unfold MF.still at h
  rw [List.filter_eq_self] at h
  rw [h p h1] at h2
  cases h2
theorem Copied.step {N : Fls} {left : Lit → Bool} {P : Fls} (hN : Srt.Up N) (h : Copied N left P) {k : ByteArray} {v : RefV} (hm : (k, v) ∈ N) : Copied N (fun z => left z && !z.sameKey (MF.kl k)) (Srt.put P k v) := by
  refine ⟨Srt.up_put h.up k v, fun p => ?_⟩
  rw [Srt.mem_put h.up]
  simp only [Bool.and_eq_false_iff, Bool.not_eq_false']
  rw [MF.kl_same]
  constructor
  · rintro (rfl | ⟨h1, _⟩)
    · exact ⟨hm, .inr rfl⟩
    · exact ⟨((h.mem p).1 h1).1, .inl ((h.mem p).1 h1).2⟩
  · rintro ⟨h1, h2⟩
    by_cases hk : p.1 = k
    · left
      have e1 := Srt.look_of_mem hN hm
      have e2 := Srt.look_of_mem hN (k := p.1) (v := p.2) h1
      rw [hk, e1] at e2
      injection e2 with e2
      exact Prod.ext hk e2.symm
    · rcases h2 with h2 | h2
      · exact .inr ⟨(h.mem p).2 ⟨h1, h2⟩, hk⟩
      · exact absurd h2 hk
theorem Copied.done {N : Fls} {left : Lit → Bool} {P : Fls} (hN : Srt.Up N) (h : Copied N left P) (hs : MF.still N left = []) : P = N := by
  refine Srt.up_ext h.up hN fun p => ?_
  rw [h.mem]
  refine ⟨fun h => h.1, fun hp => ⟨hp, ?_⟩⟩
  unfold MF.still at hs
  rw [List.filter_eq_nil_iff] at hs
  simpa using hs p hp

/-- While an edit is done: the files that there are lie at m, the edit at S. -/
structure LdoS (w wr : World) (m S : Nat) (N : Fls) (o : Obj) : Prop where
  kept : Kept noBlock w wr
  tb : MF.Tb wr m N
  blk : wr.heap[S]? = some o
theorem LdoS.keep {w wr u : World} {m S : Nat} {N : Fls} {o : Obj} (h : LdoS w wr m S N o) (k : Kept noBlock wr u) : LdoS w u m S N o := ⟨h.kept.step k, h.tb.keep k (fun h => h), k.blk h.blk (fun h => h)⟩
theorem LdoS.turn {w wr u : World} {m S : Nat} {N N' : Fls} {o : Obj} (h : LdoS w wr m S N o) (k : Kept (fun i => i = m) wr u) (ht : MF.Tb u m N') (hm : w.heap.size ≤ m) (hS : S ≠ m) : LdoS w u m S N' o := ⟨h.kept.trans k (fun i hi e => by omega), ht, k.blk h.blk hS⟩

theorem LdoS.other {w wr u : World} {m S r : Nat} {N : Fls} {o : Obj} (h : LdoS w wr m S N o) (k : Kept (fun i => i = r) wr u) (hr : w.heap.size ≤ r) (hm : m ≠ r) (hS : S ≠ r) : LdoS w u m S N o := ⟨h.kept.trans k (fun i hi e => by omega), h.tb.keep k hm, k.blk h.blk hS⟩

set_option maxRecDepth 100000 in
set_option maxHeartbeats 1000000 in
theorem ldoL_any (F : Nat → Prop) (b : Nat) (N : Fls) (f : Int) (e : EditV) (A : Option Addr) (ca : Nat) (D : Option Addr) (cd : Nat) (w : World) (h : MF.Tb w b N) (hv : Ev w F e A ca D cd) (hN : N.length ≤ 9000000000000000) (hB : e.add.length ≤ 9000000000000000) (hD : e.drop.length ≤ 9000000000000000) (hk : ∀ k ∈ e.drop, k.size ≤ maxLen) :
    Calls Try.prog 14 #[.map (some b), .int .i64 f, evl e A ca D cd] w fun en w' => (∃ mv, en = .returned (.tuple #[.map mv, .int .i64 (doE N f e).2]) ∧ ((doE N f e).2 = 0 → ∃ b', mv = some b' ∧ MF.Tb w' b' (doE N f e).1 ∧ w.heap.size ≤ b')) ∧ Kept noBlock w w' := by
  have hmm := @run_makeMap Try.prog
  obtain ⟨na, hna⟩ : ∃ n, n = e.add.length := ⟨_, rfl⟩
  obtain ⟨nd, hnd⟩ : ∃ n, n = e.drop.length := ⟨_, rfl⟩
  obtain ⟨fl, hfl⟩ : ∃ fl, fl = e.floor := ⟨_, rfl⟩
  have k0 := Kept.alloc noBlock w (.cells #[.slice A na ca, .slice D nd cd, .int .i64 fl] 36)
  have h0 := heap_alloc_new w (.cells #[.slice A na ca, .slice D nd cd, .int .i64 fl] 36)
  have z0 : (w.alloc (.cells #[.slice A na ca, .slice D nd cd, .int .i64 fl] 36)).heap.size = w.heap.size + 1 := by simp
  have ka := Kept.alloc noBlock (w.alloc (.cells #[.slice A na ca, .slice D nd cd, .int .i64 fl] 36)) (.map #[] 0)
  have ht := MF.Tb.made (w.alloc (.cells #[.slice A na ca, .slice D nd cd, .int .i64 fl] 36))
  rw [z0] at ht
  have z1 : ((w.alloc (.cells #[.slice A na ca, .slice D nd cd, .int .i64 fl] 36)).alloc (.map #[] 0)).heap.size = w.heap.size + 2 := by simp
  have k1 := k0.step ka
  have h1 := ka.blk h0 (fun h => h)
  have hca := hv.ca
  have hcb := hv.cb
  rw [← hna] at hca hB
  rw [← hnd] at hcb hD
  have HV := Lib.hid hv.lt
  have HT := Lib.hid h
  have HNA := Lib.hid hna
  have HND := Lib.hid hnd
  have HFL := Lib.hid hfl
  have HK := Lib.hid hk
  have HBL := Lib.hid h.lt
  unfold evl
  rw [← hna, ← hnd, ← hfl]
  clear hv h hna hnd hfl hk k0 h0 ka
  go_enter Try.func14, Try.ntmps14
  go_upto_region 2 with (fail)
  generalize (w.alloc (.cells #[.slice A na ca, .slice D nd cd, .int .i64 fl] 36)).alloc (.map #[] 0) = w1 at ht z1 k1 h1 ⊢
  obtain ⟨m2, hm2⟩ : ∃ m2, m2 = w.heap.size + 1 := ⟨_, rfl⟩
  rw [← hm2] at ht
  try rw [← hm2]
  have HM2 := Lib.hid hm2
  have HTT := Lib.hid ht
  have Z1 := Lib.hid z1
  have K1 := Lib.hid k1
  have HE1 := Lib.hid h1
  have HT1 := Lib.hid (HT.out.keep k1 (fun h => h))
  clear hmm ht z1 k1 h1 z0 hm2
  go_wp2_with (at_range; refine MF.wpList_range rfl _ rfl b N rfl HT1.out ?_)
  intro w0 left0 hrg0 hst0 k00 hs0
  obtain ⟨r, hr⟩ : ∃ r, r = w1.heap.size := ⟨_, rfl⟩
  rw [← hr] at hrg0 ⊢
  have hc0 := Copied.start hst0
  have HR0 := Lib.hid hrg0
  have HC0 := Lib.hid hc0
  have L0 : Hid (LdoS w w0 m2 w.heap.size [] (.cells #[.slice A na ca, .slice D nd cd, .int .i64 fl] 36 (0, 0))) := ⟨K1.out.step k00, HTT.out.keep k00 (fun h => h), k00.blk HE1.out (fun h => h)⟩
  have HRR : Hid (w.heap.size + 2 = r) := by unfold Hid; rw [hr, Z1.out]
  clear hrg0 hst0 k00 hs0 hr hc0 HT1 HTT K1 HE1
  go_wp2_with fail
  go_loopw [] (fun wr => ∃ (left : Lit → Bool) (cnt : Nat) (P : Fls), Hid (MF.Rng wr b r N left cnt) ∧ Hid (Copied N left P) ∧ P.length + cnt ≤ N.length ∧ Hid (LdoS w wr m2 w.heap.size P (.cells #[.slice A na ca, .slice D nd cd, .int .i64 fl] 36 (0, 0)))) (fun wr => wr.rangeLeft b r)
  case atStart => exact ⟨left0, _, [], HR0, HC0, by simp, L0⟩
  case round =>
    obtain ⟨left, cnt, P, HR, HC, hcnt, LS⟩ := hrel
    go_wp2_with (at_next; refine MF.wpList_next rfl _ rfl b r N left cnt rfl HR.out ?_ ?_)
    · intro hstill
      obtain rfl := HC.out.done HR.out.up hstill
      clear HC hcnt HR0 HC0 L0 hstill HT
      have LS1 := LS
      obtain ⟨e0, e1, e2⟩ := ed_cells LS.out.blk
      go_wp2_with fail
      go_loopw [33] (fun i wr => ∃ (j : Nat) (N1 : Fls), j ≤ nd ∧ i = .int .i64 (j : Int) ∧ Hid (dropV P e.drop = dropV N1 (e.drop.drop j)) ∧ Hid (LdoS w wr m2 w.heap.size N1 (.cells #[.slice A na ca, .slice D nd cd, .int .i64 fl] 36 (0, 0))) ∧ N1.length ≤ P.length) (fun i _ => nd - (intOf i).toNat)
      case atStart => exact ⟨0, P, by omega, rfl, rfl, LS1, Nat.le_refl _⟩
      case round =>
        obtain ⟨j, N1, hjn, rfl, HD, LS2, hN1⟩ := hrel
        by_cases hlt : j < nd
        · obtain ⟨x, hx⟩ : ∃ x, e.drop[j]? = some x := ⟨_, List.getElem?_eq_getElem (by have := HND.out; omega)⟩
          have hxs : (e.drop.map Value.string)[j]? = some (.string x) := by rw [List.getElem?_map, hx]; rfl
          obtain ⟨ad, rfl, _, hcell⟩ := (HV.out.kept LS2.out.kept).ld.at_ hxs
          have hsz := HK.out x (List.mem_of_getElem? hx)
          have hfit : MF.Fits x := hsz
          have HST := Lib.hid (dropV_step (N := N1) hx)
          have hr := MF.run_look2 LS2.out.tb x hfit
          obtain ⟨g, hg⟩ : ∃ g, g = (Srt.look N1 x).getD noRef := ⟨_, rfl⟩
          obtain ⟨hb, hhb⟩ : ∃ hb, hb = Srt.has N1 x := ⟨_, rfl⟩
          rw [← hg, ← hhb] at hr
          unfold MF.kv MF.ev at hr
          have ka := Kept.alloc noBlock wr (.cells #[.string g.name, .int .i64 g.kind, .int .i64 g.from_, .int .i64 g.to_] 31)
          have LS3 := Lib.hid (LS2.out.keep ka)
          have HHB := Lib.hid hhb
          clear hx hxs hsz hg hhb
          go_upto_region 10 with (fail)
          generalize wr.alloc (.cells #[.string g.name, .int .i64 g.kind, .int .i64 g.from_, .int .i64 g.to_] 31) = w4 at ka LS3 ⊢
          clear hcell hr ka
          cases hb with
          | false =>
            have hans : (doE P f e).2 = 6 := by
              unfold doE
              rw [HD.out, HST.out, if_neg (by rw [← HHB.out]; simp)]
            have HANS := Lib.hid hans
            clear hans
            go_wp2
            refine bodyPost_ret (v := .tuple #[.map none, .int .i64 6]) (by simp [results, Try.results14, go_sem]) rfl ?_
            rw [HANS.out]
            exact ⟨⟨none, rfl, fun h => by cases h⟩, LS3.out.kept⟩
          | true =>
            have HDD : Hid (dropV P e.drop = dropV (Srt.del N1 x) (e.drop.drop (j + 1))) := by unfold Hid; rw [HD.out, HST.out, if_pos HHB.out.symm]
            have hln : (Srt.del N1 x).length ≤ P.length := by rw [Srt.del_len LS2.out.tb.up]; omega
            clear HHB HST
            go_wp2_with (with_reducible refine MF.wpList_del rfl (.tmp 45) (.tmp 46) rfl m2 N1 rfl LS3.out.tb x rfl hfit ?_)
            intro w5 tb5 k5
            have LS5 := Lib.hid (LS3.out.turn k5 tb5 (by have := HM2.out; omega) (by have := HM2.out; omega))
            clear tb5 k5
            go_wp2
            go_roundw
            case rel => exact ⟨j + 1, _, by omega, by go_num, HDD, LS5, hln⟩
            case measure => simp [intOf]; omega
        · obtain rfl : j = nd := by omega
          have hd := HD.out
          rw [List.drop_eq_nil_of_le (by have := HND.out; omega)] at hd
          have hd2 : dropV P e.drop = some N1 := hd
          have HDR := Lib.hid hd2
          obtain ⟨e0, e1, e2⟩ := ed_cells LS2.out.blk
          clear hd hd2 hlt
          go_wp2_with fail
          go_loopw [51] (fun i wr => ∃ (q : Nat) (N2 : Fls), q ≤ na ∧ i = .int .i64 (q : Int) ∧ Hid (addV N1 e.add = addV N2 (e.add.drop q)) ∧ Hid (LdoS w wr m2 w.heap.size N2 (.cells #[.slice A na ca, .slice D j cd, .int .i64 fl] 36 (0, 0))) ∧ N2.length ≤ P.length + q) (fun i _ => na - (intOf i).toNat)
          case atStart => exact ⟨0, N1, by omega, rfl, rfl, LS2, by omega⟩
          case round =>
            obtain ⟨q, N2, hqn, rfl, HA, LS6, hN2⟩ := hrel
            by_cases hlt : q < na
            · obtain ⟨x, hx⟩ : ∃ x, e.add[q]? = some x := ⟨_, List.getElem?_eq_getElem (by have := HNA.out; omega)⟩
              obtain ⟨g, o, rfl, _, cc⟩ := (HV.out.kept LS6.out.kept).la.elem (enc := RefV.cells) ref_len (by omega) hx
              have d0 := cc 0 _ rfl
              have d1 := cc 1 _ rfl
              have d2 := cc 2 _ rfl
              have d3 := cc 3 _ rfl
              rw [Nat.add_zero] at d0
              have HST := Lib.hid (addV_step (N := N2) hx)
              have ka := Kept.alloc noBlock wr (.cells #[.string x.name, .int .i64 x.kind, .int .i64 x.from_, .int .i64 x.to_] 31)
              have hb := heap_alloc_new wr (.cells #[.string x.name, .int .i64 x.kind, .int .i64 x.from_, .int .i64 x.to_] 31)
              have LS7 := Lib.hid (LS6.out.keep ka)
              clear hx cc
              go_upto_region 17 with (fail)
              obtain ⟨C, hC⟩ : ∃ C, C = wr.heap.size := ⟨_, rfl⟩
              rw [← hC] at hb ⊢
              generalize wr.alloc (.cells #[.string x.name, .int .i64 x.kind, .int .i64 x.from_, .int .i64 x.to_] 31) = w7 at ka hb LS7 ⊢
              have HB7 := Lib.hid hb
              obtain ⟨c0, c1, c2, c3⟩ := ref_cells hb
              have MA := Lib.hid (lmay_any x w7)
              clear d0 d1 d2 d3 ka hb hC
              by_cases hmay : x.May
              · rw [decide_eq_true hmay] at MA
                unfold RefV.val at MA
                go_wp2_with fail
                refine MA.out.mono ?_
                rintro en w8 ⟨rfl, k8⟩
                have HB8 := Lib.hid (k8.blk HB7.out (fun h => h))
                have LS8 := Lib.hid (LS7.out.keep k8)
                have hfit : MF.Fits x.name := by have := hmay.2.1; unfold MF.Fits maxLen; omega
                have hr := MF.run_look2 LS8.out.tb x.name hfit
                obtain ⟨g2, hg2⟩ : ∃ g2, g2 = (Srt.look N2 x.name).getD noRef := ⟨_, rfl⟩
                obtain ⟨hb, hhb⟩ : ∃ hb, hb = Srt.has N2 x.name := ⟨_, rfl⟩
                rw [← hg2, ← hhb] at hr
                unfold MF.kv MF.ev at hr
                have ka := Kept.alloc noBlock w8 (.cells #[.string g2.name, .int .i64 g2.kind, .int .i64 g2.from_, .int .i64 g2.to_] 31)
                have LS9 := Lib.hid (LS8.out.keep ka)
                have HB9 := Lib.hid (ka.blk HB8.out (fun h => h))
                have HHB := Lib.hid hhb
                have HMAY := Lib.hid hmay
                clear c0 c1 c2 c3 k8 MA hg2 hhb hmay
                obtain ⟨c0, c1, c2, c3⟩ := ref_cells HB8.out
                go_upto_region 20 with (fail)
                generalize w8.alloc (.cells #[.string g2.name, .int .i64 g2.kind, .int .i64 g2.from_, .int .i64 g2.to_] 31) = w9 at ka LS9 HB9 ⊢
                clear c0 c1 c2 c3 hr ka
                cases hb with
                | true =>
                  have hans : (doE P f e).2 = 5 := by
                    unfold doE
                    rw [HDR.out]
                    simp only
                    rw [HA.out, HST.out, if_neg (Decidable.not_not.2 HMAY.out), if_pos HHB.out.symm]
                    rfl
                  have HANS := Lib.hid hans
                  clear hans
                  go_wp2
                  refine bodyPost_ret (v := .tuple #[.map none, .int .i64 5]) (by simp [results, Try.results14, go_sem]) rfl ?_
                  rw [HANS.out]
                  exact ⟨⟨none, rfl, fun h => by cases h⟩, LS9.out.kept⟩
                | false =>
                  have HAA : Hid (addV N1 e.add = addV (Srt.put N2 x.name x) (e.add.drop (q + 1))) := by unfold Hid; rw [HA.out, HST.out, if_neg (Decidable.not_not.2 HMAY.out), if_neg (by rw [← HHB.out]; simp)]
                  have hln : (Srt.put N2 x.name x).length ≤ P.length + (q + 1) := by rw [Srt.put_len, ← HHB.out]; simp only [Bool.false_eq_true, if_false]; omega
                  obtain ⟨c0, c1, c2, c3⟩ := ref_cells HB9.out
                  obtain ⟨u, hrun, hTu, ku⟩ := MF.run_put LS9.out.tb x.name hfit (by unfold maxLen; omega) x
                  unfold MF.kv MF.ev at hrun
                  have LSU := Lib.hid (LS9.out.turn ku hTu (by have := HM2.out; omega) (by have := HM2.out; omega))
                  clear hTu ku HHB HST
                  go_wp2
                  go_roundw
                  case rel => exact ⟨q + 1, _, by omega, by go_num, HAA, LSU, hln⟩
                  case measure => simp [intOf]; omega
              · rw [decide_eq_false hmay] at MA
                have hans : (doE P f e).2 = 14 := by
                  unfold doE
                  rw [HDR.out]
                  simp only
                  rw [HA.out, HST.out, if_pos hmay]
                  rfl
                have HANS := Lib.hid hans
                unfold RefV.val at MA
                clear hans hmay
                go_wp2_with fail
                refine MA.out.mono ?_
                rintro en w8 ⟨rfl, k8⟩
                have R := Lib.hid (LS7.out.kept.step k8)
                clear c0 c1 c2 c3 k8 MA
                go_wp2
                refine bodyPost_ret (v := .tuple #[.map none, .int .i64 14]) (by simp [results, Try.results14, go_sem]) rfl ?_
                rw [HANS.out]
                exact ⟨⟨none, rfl, fun h => by cases h⟩, R.out⟩
            · obtain rfl : q = na := by omega
              have ha := HA.out
              rw [List.drop_eq_nil_of_le (by have := HNA.out; omega)] at ha
              have ha2 : addV N1 e.add = (N2, 0) := ha
              have HAR := Lib.hid ha2
              obtain ⟨e0, e1, e2⟩ := ed_cells LS6.out.blk
              clear ha ha2 hlt
              by_cases hf1 : f ≤ fl
              · by_cases hf2 : fl ≤ 1048576
                · have hans : doE P f e = (N2, 0) := by
                    unfold doE
                    rw [HDR.out]
                    simp only
                    rw [HAR.out]
                    simp only [ne_eq, not_true_eq_false, if_false]
                    rw [← HFL.out, if_pos ⟨hf1, hf2⟩]
                  have HANS := Lib.hid hans
                  clear hans
                  go_wp2
                  refine bodyPost_ret (v := .tuple #[.map (some m2), .int .i64 0]) (by simp [results, Try.results14, go_sem]) rfl ?_
                  rw [HANS.out]
                  exact ⟨⟨some m2, rfl, fun _ => ⟨m2, rfl, LS6.out.tb, by have := HM2.out; omega⟩⟩, LS6.out.kept⟩
                · have hans : (doE P f e).2 = 8 := by
                    unfold doE
                    rw [HDR.out]
                    simp only
                    rw [HAR.out]
                    simp only [ne_eq, not_true_eq_false, if_false]
                    rw [← HFL.out, if_neg (fun h => hf2 h.2)]
                  have HANS := Lib.hid hans
                  clear hans
                  go_wp2
                  refine bodyPost_ret (v := .tuple #[.map none, .int .i64 8]) (by simp [results, Try.results14, go_sem]) rfl ?_
                  rw [HANS.out]
                  exact ⟨⟨none, rfl, fun h => by cases h⟩, LS6.out.kept⟩
              · have hans : (doE P f e).2 = 8 := by
                  unfold doE
                  rw [HDR.out]
                  simp only
                  rw [HAR.out]
                  simp only [ne_eq, not_true_eq_false, if_false]
                  rw [← HFL.out, if_neg (fun h => hf1 h.1)]
                have HANS := Lib.hid hans
                clear hans
                go_wp2
                refine bodyPost_ret (v := .tuple #[.map none, .int .i64 8]) (by simp [results, Try.results14, go_sem]) rfl ?_
                rw [HANS.out]
                exact ⟨⟨none, rfl, fun h => by cases h⟩, LS6.out.kept⟩
    · intro k v w2 cnt2 hmem hleft hksz hrg2 hlt2 k2 hs2 hen
      obtain ⟨v⟩ := v
      simp only at hmem hen
      have hfit : MF.Fits k := hksz
      have LS2 := Lib.hid (LS.out.other k2 (by have := HRR.out; omega) (by have := HM2.out; have := HRR.out; omega) (by have := HRR.out; omega))
      have ka := Kept.alloc noBlock w2 (.cells #[.string v.name, .int .i64 v.kind, .int .i64 v.from_, .int .i64 v.to_] 31)
      have hx := heap_alloc_new w2 (.cells #[.string v.name, .int .i64 v.kind, .int .i64 v.from_, .int .i64 v.to_] 31)
      have LS3 := Lib.hid (LS2.out.keep ka)
      have HRG := Lib.hid (hrg2.keep ka (fun h => h) (fun h => h))
      have hl1 := HR.out.left_eq
      have hstep := HC.out.step HR.out.up hmem
      unfold MF.ev at hen ⊢
      have HLE : Hid (wr.rangeLeft b r = cnt ∧ cnt2 < cnt) := ⟨hl1, hlt2⟩
      have HCS := Lib.hid hstep
      clear hmem hleft hrg2 hlt2 k2 hs2 hl1 hstep HR HC LS HR0 HC0 L0
      go_upto_region 5 with (fail)
      obtain ⟨C, hC⟩ : ∃ C, C = w2.heap.size := ⟨_, rfl⟩
      rw [← hC] at hx ⊢
      generalize w2.alloc (.cells #[.string v.name, .int .i64 v.kind, .int .i64 v.from_, .int .i64 v.to_] 31) = w3 at ka hx LS3 HRG ⊢
      obtain ⟨c0, c1, c2, c3⟩ := ref_cells hx
      obtain ⟨u, hrun, hTu, ku⟩ := MF.run_put LS3.out.tb k hfit (by have := HRG.out; unfold maxLen; omega) v
      unfold MF.kv MF.ev at hrun
      have LSU := Lib.hid (LS3.out.turn ku hTu (by have := HM2.out; omega) (by have := HM2.out; omega))
      have HRU : Hid (MF.Rng u b r N (fun z => left z && !z.sameKey (MF.kl k)) cnt2) := HRG.out.keep ku (by have := HBL.out; have := HM2.out; omega) (by have := HRR.out; have := HM2.out; omega)
      have HLU := Lib.hid HRU.out.left_eq
      have hln : (Srt.put P k v).length + cnt2 ≤ N.length := by
        have h1 := Srt.put_len P k v
        have h2 := HLE.out.2
        split at h1 <;> omega
      clear ka hx hC hTu ku hen HRG
      go_wp2
      go_roundw
      case rel => exact ⟨_, cnt2, _, HRU, HCS, hln, LSU⟩
      case measure => rw [HLU.out, HLE.out.1]; exact HLE.out.2
end Go.Proofs.Ytjijdkdpmbfdmaa
