/-
  The walk of StateOrder. No statement is proved here.
-/
import Derived.Test.YtgmjnjbmolalmaaL7Fold
namespace Go.Proofs.Ytgmjnjbmolalmaa
open Go.RowKit Tot

set_option maxRecDepth 100000 in
set_option maxHeartbeats 1000000 in
theorem order_walk (F : Nat → Prop) (a : Option Addr) (n cp : Nat) (ss : List SayV) (e : EntryV) (ix tm : Int) (w : World) (h : Lies w F a (sayCells ss)) (hl : ss.length = n) (hnc : n ≤ cp) (hi0 : -128 ≤ ix) (hi1 : ix ≤ 127) (ht0 : -128 ≤ tm) (ht1 : tm ≤ 127) :
    Calls Try.prog 4 #[.slice a n cp, e.val, .int .i8 ix, .int .i8 tm] w fun e w' => e = .returned (.bool true) ∧ Kept noBlock w w' := by
  have SOME := Lib.hid (fun u (k : Kept noBlock w u) => some_any F a n cp ss u (h.keep k (fun _ _ h => h)) hl hnc)
  obtain ⟨s, hs⟩ : ∃ s, s = someV ss := ⟨_, rfl⟩
  have hr : s.Right := by rw [hs]; exact someV_right ss
  have hle := entsS_length ss
  obtain ⟨f1, f2, f3, _⟩ := someV_facts ss
  rw [← hs] at SOME f1 f2 f3
  have si0 : 0 ≤ s.index := by omega
  have si1 : s.index ≤ 80 := by omega
  obtain ⟨xs, hxs⟩ : ∃ xs : List EntryV, xs = [e, ⟨s.index + ix, s.term + tm, noCmd⟩] := ⟨_, rfl⟩
  have hxl : xs.length = 2 := by rw [hxs]; rfl
  have AP := Lib.hid (fun x u F A c B d (hsv : Sv u F s A c B d) => apply_any F s A c B d x u hsv hr)
  have RI := Lib.hid (fun x u => right_any x u)
  have HR := Lib.hid hr
  have c1 : IntKind.i64.wrap ix = ix := IntWalk.i64_in _ (by omega)
  have c2 : IntKind.i64.wrap tm = tm := IntWalk.i64_in _ (by omega)
  clear hs hr hle f1 h hl hnc
  unfold stv EntryV.val at *
  go_enter Try.func4, Try.ntmps4
  go_wp2_with fail
  refine (awake_any _).mono ?_
  rintro e1 w1 ⟨rfl, k1⟩
  have K1 := Lib.hid ((Kept.alloc noBlock w _).step k1)
  have HE1 := Lib.hid (k1.blk (heap_alloc_new w _) (fun h => h))
  clear k1
  go_wp2_with fail
  refine (SOME.out w1 K1.out).mono ?_
  rintro e1 w2 ⟨A2, c2', B2, d2, rfl, sv2, k2⟩
  have ka := Kept.alloc noBlock w2 (.cells #[.int .i64 s.index, .int .i64 s.term, .slice A2 s.pairs.length c2', .slice B2 s.sess.length d2] 33)
  have ha := heap_alloc_new w2 (.cells #[.int .i64 s.index, .int .i64 s.term, .slice A2 s.pairs.length c2', .slice B2 s.sess.length d2] 33)
  go_upto_region 4 with (fail)
  generalize w2.alloc (.cells #[.int .i64 s.index, .int .i64 s.term, .slice A2 s.pairs.length c2', .slice B2 s.sess.length d2] 33) = w3 at ka ha ⊢
  have K3 := Lib.hid (K1.out.step (k2.step ka))
  have SV3 := Lib.hid (sv2.kept ka)
  have HA3 := Lib.hid ha
  have HE3 := Lib.hid ((k2.step ka).blk HE1.out (fun h => h))
  clear ka ha k2 sv2 SOME HE1 K1
  obtain ⟨e0, e1, e2, e3, e4, e5, e6, e7⟩ := ent_cells (e := e) HE3.out
  obtain ⟨a0, a1, a2, a3⟩ := st_cells HA3.out
  have la := Lies.new w3 (fun _ => True) (entCells xs) 41 (0, 0) trivial
  have kb := Kept.alloc noBlock w3 (.cells (entCells xs).toArray 41 (0, 0))
  have he : (entCells xs).toArray = #[.int .i64 e.index, .int .i64 e.term, .int .i64 e.cmd.op, .int .i64 e.cmd.client, .int .i64 e.cmd.seq, .string e.cmd.key, .string e.cmd.value, .string e.cmd.old, .int .i64 (s.index + ix), .int .i64 (s.term + tm), .int .i64 0, .int .i64 0, .int .i64 0, .string ⟨#[]⟩, .string ⟨#[]⟩, .string ⟨#[]⟩] := by rw [hxs]; rfl
  rw [he] at la kb
  have LA := Lib.hid la
  have KB := Lib.hid kb
  have HXL := Lib.hid hxl
  clear la kb he hxs hxl c1 c2
  go_wp2_with fail
  generalize w3.alloc (.cells #[.int .i64 e.index, .int .i64 e.term, .int .i64 e.cmd.op, .int .i64 e.cmd.client, .int .i64 e.cmd.seq, .string e.cmd.key, .string e.cmd.value, .string e.cmd.old, .int .i64 (s.index + ix), .int .i64 (s.term + tm), .int .i64 0, .int .i64 0, .int .i64 0, .string ⟨#[]⟩, .string ⟨#[]⟩, .string ⟨#[]⟩] 41) = w4 at LA KB ⊢
  have K4 := Lib.hid (K3.out.step KB.out)
  have SV4 := Lib.hid (SV3.out.kept KB.out)
  have HA4 := Lib.hid (KB.out.blk HA3.out (fun h => h))
  obtain ⟨PS, hPS⟩ : ∃ PS, PS = w2.heap.size := ⟨_, rfl⟩
  rw [← hPS] at HA4 ⊢
  clear hPS KB K3 SV3 HA3 HE3 e0 e1 e2 e3 e4 e5 e6 e7 a0 a1 a2 a3
  go_loopw [32] (fun i wr => ∃ k : Nat, k ≤ 2 ∧ i = .int .i64 (k : Int) ∧ Hid (Kept noBlock w4 wr)) (fun i _ => 2 - (intOf i).toNat)
  case atStart => exact ⟨0, by omega, rfl, Kept.refl _ _⟩
  case round =>
    obtain ⟨k, hk, rfl, KR⟩ := hrel
    by_cases hlt : k < 2
    · obtain ⟨x, hx⟩ : ∃ x, xs[k]? = some x := ⟨_, List.getElem?_eq_getElem (by have := HXL.out; omega)⟩
      obtain ⟨g, o, eg, _, ea⟩ := ents_cell (LA.out.keep KR.out (fun _ _ h => h)) hx
      injection eg with eg
      injection eg with eg eo
      subst eg eo
      obtain ⟨c0, c1, c2, c3, c4, c5, c6, c7⟩ := ea
      rw [Nat.zero_add] at c0 c1 c2 c3 c4 c5 c6 c7
      have hk2 : (k : Int) < 2 := by omega
      have AX := Lib.hid (AP.out x)
      obtain ⟨t, ht⟩ : ∃ t, t = (stepV s x).1 := ⟨_, rfl⟩
      obtain ⟨r, hr⟩ : ∃ r, r = (stepV s x).2 := ⟨_, rfl⟩
      rw [← ht, ← hr] at AX
      unfold RepV.val at AX
      have HT := Lib.hid ht
      have HRR := Lib.hid hr
      have HTR : Hid t.Right := by unfold Hid; rw [ht]; exact stepV_right HR.out x
      clear hx ht hr
      have kx0 := Kept.alloc noBlock wr (.cells #[.int .i64 x.index, .int .i64 x.term, .int .i64 x.cmd.op, .int .i64 x.cmd.client, .int .i64 x.cmd.seq, .string x.cmd.key, .string x.cmd.value, .string x.cmd.old] 41)
      have bx0 := heap_alloc_new wr (.cells #[.int .i64 x.index, .int .i64 x.term, .int .i64 x.cmd.op, .int .i64 x.cmd.client, .int .i64 x.cmd.seq, .string x.cmd.key, .string x.cmd.value, .string x.cmd.old] 41)
      go_upto_region 7 with (fail)
      generalize wr.alloc (.cells #[.int .i64 x.index, .int .i64 x.term, .int .i64 x.cmd.op, .int .i64 x.cmd.client, .int .i64 x.cmd.seq, .string x.cmd.key, .string x.cmd.value, .string x.cmd.old] 41) = u1 at kx0 bx0 ⊢
      obtain ⟨a0, a1, a2, a3⟩ := st_cells ((KR.out.step kx0).blk HA4.out (fun h => h))
      obtain ⟨x0, x1, x2, x3, x4, x5, x6, x7⟩ := ent_cells (e := x) bx0
      go_wp2_with fail
      refine (AX.out u1 _ _ _ _ _ (SV4.out.kept (KR.out.step kx0))).mono ?_
      rintro en u2 ⟨A5, c5', B5, d5, rfl, sv5, k5⟩
      have kx := kx0.step k5
      have bx := k5.blk bx0 (fun h => h)
      clear x0 x1 x2 x3 x4 x5 x6 x7 kx0 bx0
      obtain ⟨ka, ha, hf⟩ := two_new u2 (.int .i64 t.index) (.int .i64 t.term) (.slice A5 t.pairs.length c5') (.slice B5 t.sess.length d5) (.int .i64 r.err) (.string r.value)
      go_upto_region 8 with (fail)
      generalize (u2.alloc (.cells #[.int .i64 t.index, .int .i64 t.term, .slice A5 t.pairs.length c5', .slice B5 t.sess.length d5] 33)).alloc (.cells #[.int .i64 r.err, .string r.value] 44) = u3 at ka ha hf ⊢
      have K5 := Lib.hid (KR.out.step (kx.step ka))
      have SVT := Lib.hid (sv5.kept ka)
      have HT5 := Lib.hid ha
      have HO5 := Lib.hid hf
      have HX5 := Lib.hid (ka.blk bx (fun h => h))
      obtain ⟨Q, hQ⟩ : ∃ Q, Q = u2.heap.size := ⟨_, rfl⟩
      obtain ⟨P, hP⟩ : ∃ P, P = wr.heap.size := ⟨_, rfl⟩
      rw [← hQ] at HT5 HO5 ⊢
      rw [← hP] at HX5 ⊢
      clear kx bx ka ha hf sv5 k5 AX c0 c1 c2 c3 c4 c5 c6 c7 a0 a1 a2 a3 KR hQ hP
      obtain ⟨x0, x1, x2, x3, x4, x5, x6, x7⟩ := ent_cells (e := x) HX5.out
      have RX := Lib.hid (RI.out x)
      go_wp2_with fail
      refine (RX.out u3).mono ?_
      rintro en u6 ⟨rfl, k6⟩
      have K6 := Lib.hid (K5.out.step k6)
      have SVT6 := Lib.hid (SVT.out.kept k6)
      have HT6 := Lib.hid (k6.blk HT5.out (fun h => h))
      have HO6 := Lib.hid (k6.blk HO5.out (fun h => h))
      have HX6 := Lib.hid (k6.blk HX5.out (fun h => h))
      have SV6 := Lib.hid (SV4.out.kept K6.out)
      have HA6 := Lib.hid (K6.out.blk HA4.out (fun h => h))
      clear k6 K5 SVT HT5 HO5 HX5 x0 x1 x2 x3 x4 x5 x6 x7 RX
      obtain ⟨x0, x1, x2, x3, x4, x5, x6, x7⟩ := ent_cells (e := x) HX6.out
      obtain ⟨a0, a1, a2, a3⟩ := st_cells HA6.out
      obtain ⟨b0, b1, b2, b3⟩ := st_cells HT6.out
      obtain ⟨r0, r1⟩ := re_cells HO6.out
      have SAME := Lib.hid (same_any _ _ s t A2 c2' B2 d2 A5 c5' B5 d5 u6 SV6.out SVT6.out (by have := right_bytes HR.out; omega) (by have := right_bytes HTR.out; omega))
      unfold stv at SAME
      by_cases hR : x.Right
      · rw [decide_eq_true hR]
        by_cases hN : x.index = s.index + 1
        · by_cases hT : x.term < s.term
          · have e1 : stepV s x = (s, told 8) := by unfold stepV; rw [if_neg (by simpa using hR), if_pos (.inr hT)]
            obtain rfl : t = s := by rw [HT.out, e1]
            obtain rfl : r = told 8 := by rw [HRR.out, e1]
            rw [decide_eq_true rfl] at SAME
            have NEQ : ∀ u, (binOp .neq 44 (.agg #[.int .i64 8, .string ⟨#[]⟩]) (.agg #[.int .i64 8, .string ⟨#[]⟩])).run Try.prog u = .ok (.bool false) u := fun u => by
              have h := rep_neq u (told 8) (told 8)
              rw [RepV.same_self] at h
              exact h
            have q1 : (x.index != t.index + 1) = false := by simpa using hN
            have q7 : (x.index == t.index + 1) = true := by simpa using hN
            have q2 : decide (x.term < t.term) = true := decide_eq_true hT
            replace r0 : u6.cell? ⟨Q + 1, 0, none⟩ = some (.int .i64 8) := r0
            replace r1 : u6.cell? ⟨Q + 1, 1, none⟩ = some (.string ⟨#[]⟩) := r1
            clear e1 HT HRR hR hN hT
            go_wp2_with fail
            refine SAME.out.mono ?_
            rintro en u7 ⟨rfl, k7⟩
            have K7 := Lib.hid (K6.out.step k7)
            clear k7 SAME
            go_wp2_with fail
            go_roundw
            case rel => exact ⟨k + 1, by omega, by go_num, K7⟩
            case measure => simp [intOf]; omega
          · have hn : NextE s x := ⟨hR, hN, by omega⟩
            have h1 := stepV_head hn
            rw [← HT.out] at h1
            have q1 : (x.index != s.index + 1) = false := by simpa using hN
            have q2 : decide (x.term < s.term) = false := decide_eq_false hT
            have q3 : (t.index != x.index) = false := by simpa using h1.1
            have q4 : (t.term != x.term) = false := by simpa using h1.2
            have q5 : (t.index == x.index) = true := by simpa using h1.1
            have q6 : (t.term == x.term) = true := by simpa using h1.2
            have q7 : (x.index == s.index + 1) = true := by simpa using hN
            have hw1 : wrap64 (s.index + 1) = s.index + 1 := by unfold wrap64; omega
            clear hR hN hT hn h1 SAME
            go_wp2_with fail
            go_roundw
            case rel => exact ⟨k + 1, by omega, by go_num, K6⟩
            case measure => simp [intOf]; omega
        · have e1 : stepV s x = (s, told 8) := by unfold stepV; rw [if_neg (by simpa using hR), if_pos (.inl hN)]
          obtain rfl : t = s := by rw [HT.out, e1]
          obtain rfl : r = told 8 := by rw [HRR.out, e1]
          rw [decide_eq_true rfl] at SAME
          have NEQ : ∀ u, (binOp .neq 44 (.agg #[.int .i64 8, .string ⟨#[]⟩]) (.agg #[.int .i64 8, .string ⟨#[]⟩])).run Try.prog u = .ok (.bool false) u := fun u => by
            have h := rep_neq u (told 8) (told 8)
            rw [RepV.same_self] at h
            exact h
          have q1 : (x.index != t.index + 1) = true := by simpa using hN
          have q7 : (x.index == t.index + 1) = false := by simpa using hN
          replace r0 : u6.cell? ⟨Q + 1, 0, none⟩ = some (.int .i64 8) := r0
          replace r1 : u6.cell? ⟨Q + 1, 1, none⟩ = some (.string ⟨#[]⟩) := r1
          clear e1 HT HRR hR hN
          go_wp2_with fail
          refine SAME.out.mono ?_
          rintro en u7 ⟨rfl, k7⟩
          have K7 := Lib.hid (K6.out.step k7)
          clear k7 SAME
          go_wp2_with fail
          go_roundw
          case rel => exact ⟨k + 1, by omega, by go_num, K7⟩
          case measure => simp [intOf]; omega
      · rw [decide_eq_false hR]
        have e1 : stepV s x = (s, told 14) := by unfold stepV; rw [if_pos hR]
        obtain rfl : t = s := by rw [HT.out, e1]
        obtain rfl : r = told 14 := by rw [HRR.out, e1]
        rw [decide_eq_true rfl] at SAME
        have NEQ : ∀ u, (binOp .neq 44 (.agg #[.int .i64 14, .string ⟨#[]⟩]) (.agg #[.int .i64 14, .string ⟨#[]⟩])).run Try.prog u = .ok (.bool false) u := fun u => by
          have h := rep_neq u (told 14) (told 14)
          rw [RepV.same_self] at h
          exact h

        replace r0 : u6.cell? ⟨Q + 1, 0, none⟩ = some (.int .i64 14) := r0
        replace r1 : u6.cell? ⟨Q + 1, 1, none⟩ = some (.string ⟨#[]⟩) := r1
        clear e1 HT HRR hR
        go_wp2_with fail
        refine SAME.out.mono ?_
        rintro en u7 ⟨rfl, k7⟩
        have K7 := Lib.hid (K6.out.step k7)
        clear k7 SAME
        go_wp2_with fail
        go_roundw
        case rel => exact ⟨k + 1, by omega, by go_num, K7⟩
        case measure => simp [intOf]; omega
    · go_wp2
      go_ret
      exact ⟨rfl, K4.out.step KR.out⟩
end Go.Proofs.Ytgmjnjbmolalmaa
