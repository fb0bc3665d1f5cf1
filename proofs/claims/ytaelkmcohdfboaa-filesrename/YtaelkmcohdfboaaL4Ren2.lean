/-
  FilesRename: what it does with whatever bytes, second part. No statement is proved here.
-/
import Derived.Test.YtaelkmcohdfboaaL4Ren
import Derived.LoopN
namespace Go.Proofs.Ytaelkmcohdfboaa
open Go.RowKit Go.Maps

set_option maxRecDepth 100000 in
set_option maxHeartbeats 4000000 in
theorem rename_walk (F : Nat → Prop) (a b : Option Addr) (n c n' c' : Nat) (l l' : List UInt8) (y z : UInt8) (w : World) (h : Lies w F a (l.map bv)) (h' : Lies w F b (l'.map bv)) (hl : l.length = n) (hl' : l'.length = n') (hc : n ≤ c) (hc' : n' ≤ c') :
    Calls Try.prog 6 #[.slice a n c, .slice b n' c', .int .u8 (y.toNat : Int), .int .u8 (z.toNat : Int)] w fun e w' => e = .returned (.bool true) ∧ Kept noBlock w w' := by
  obtain ⟨m, hm⟩ : ∃ m, m = min n 60 := ⟨_, rfl⟩
  obtain ⟨m', hm'⟩ : ∃ m', m' = min n' 60 := ⟨_, rfl⟩
  have q1 : (if (60 : Int) < (n : Int) then (60 : Int) else (n : Int)) = (m : Int) := by split <;> omega
  have q2 : (if (60 : Int) < (n' : Int) then (60 : Int) else (n' : Int)) = (m' : Int) := by split <;> omega
  have i1 : (m : Int) ≤ c := by omega
  have i2 : (m' : Int) ≤ c' := by omega
  have hm60 : m ≤ 60 := by omega
  have hm60' : m' ≤ 60 := by omega
  obtain ⟨u, hu⟩ : ∃ u, u = l.take m := ⟨_, rfl⟩
  obtain ⟨u', hu'⟩ : ∃ u', u' = l'.take m' := ⟨_, rfl⟩
  have hul : u.length = m := by rw [hu, List.length_take]; omega
  have hul' : u'.length = m' := by rw [hu', List.length_take]; omega
  have hL : Lies w F a (u.map bv) := by rw [hu, List.map_take]; exact h.take m
  have hL' : Lies w F b (u'.map bv) := by rw [hu', List.map_take]; exact h'.take m'
  have HU := Lib.hid hul; clear hul
  have HU' := Lib.hid hul'; clear hul'
  have HL := Lib.hid hL; clear hL
  have HL' := Lib.hid hL'; clear hL'
  have hyl := y.toNat_lt
  have hzl := z.toNat_lt
  obtain ⟨r, hr⟩ : ∃ r, r = z.toNat % 8 := ⟨_, rfl⟩
  have hri : (z.toNat : Int) % 8 = (r : Int) := by omega
  have hr8 : r < 8 := by omega
  have hwr : IntKind.i64.wrap (r : Int) = (r : Int) := wrap_small (by omega) (by omega)
  obtain ⟨q, hq⟩ : ∃ q, q = y.toNat % 5 := ⟨_, rfl⟩
  have hqi : (y.toNat : Int) % 5 = (q : Int) := by omega
  have hq5 : q < 5 := by omega
  have hwq : IntKind.i64.wrap (q : Int) = (q : Int) := wrap_small (by omega) (by omega)
  clear hu hu' h h' hl hl' hm hm' hc hc' hr hq
  have kb := Kept.alloc noBlock w (.cells #[.slice b n' c'] 32)
  have hBb := heap_alloc_new w (.cells #[.slice b n' c'] 32)
  go_enter Try.func6, Try.ntmps6
  go_wp2_with fail
  generalize w.alloc (.cells #[.slice b n' c'] 32) = w0 at kb hBb ⊢
  refine (awake_any w0).mono ?_
  rintro e w1 ⟨rfl, k1⟩
  have hB1 := k1.blk hBb (fun h => h)
  have b1 : w1.cell? ⟨w.heap.size, 0, none⟩ = some (.slice b n' c') := cell_of_row _ _ _ _ _ _ hB1
  have bf1 : w1.frozen? ⟨w.heap.size, 0, none⟩ = false := frozen_of_row _ _ _ _ _ hB1
  have hlt1 := lt_of_blk hB1
  go_upto_region 3 with (fail)
  go_cut [0] (fun x wc => x = .slice a m c ∧ wc = w1.drew.setCell ⟨w.heap.size, 0, none⟩ (.slice b m' c'))
  case first =>
    go_region_law (fail)
    all_goals
      go_wp2
      go_meet
      case rel => exact ⟨rfl, rfl⟩
  case rest =>
    obtain ⟨rfl, rfl⟩ := hcut
    have hBd := (Kept.drew noBlock w1).blk hB1 (fun h => h)
    have hB2 := heap_setCell_same w1.drew w.heap.size 0 _ 32 (.slice b m' c') hBd
    have k2 : Kept noBlock w (w1.drew.setCell ⟨w.heap.size, 0, none⟩ (.slice b m' c')) := ((kb.step k1).step (Kept.drew noBlock w1)).trans (Kept.setCell (S := fun i => i = w.heap.size) w1.drew (by rfl) _) (fun i hi e => by omega)
    generalize w1.drew.setCell ⟨w.heap.size, 0, none⟩ (.slice b m' c') = w2 at hB2 k2 ⊢
    have b2 : w2.cell? ⟨w.heap.size, 0, none⟩ = some (.slice b m' c') := cell_of_row _ _ _ _ _ _ hB2
    have HB2 := Lib.hid hB2
    have K2 := Lib.hid k2
    clear hB1 hBd hB2 k2 k1 kb hBb b1 bf1 hlt1 b2
    go_wp2_with fail
    refine (has_of 200 w2 (by omega)).mono ?_
    rintro e w3 ⟨d, rfl, h3⟩
    have HC4 := Lib.hid (HasC.add (P := []) (let ⟨F3, hd3, hF3, k3⟩ := h3; ⟨F3, hd3, hF3, (fun p hp => by cases hp), k3⟩) (.cells #[.pointer (some ⟨d, 0, none⟩)] 24))
    clear h3
    go_wp2_with fail
    generalize w3.alloc (.cells #[.pointer (some ⟨d, 0, none⟩)] 24) = w4 at HC4 ⊢
    obtain ⟨B, hBe⟩ : ∃ B, B = w3.heap.size := ⟨_, rfl⟩
    rw [← hBe] at HC4 ⊢
    clear hBe
    refine (HC4.out.create [120] (small_name _ (by simp)) (by simp [plain])).mono ?_
    rintro e w5 ⟨f, rfl, h5, _⟩
    rw [solo_create] at h5 ⊢
    have x5 : w5.cell? ⟨B, 0, none⟩ = _ := h5.box (List.mem_cons_self)
    have hL5 := HL.out.keep (K2.out.step h5.kept) (fun _ _ h => h)
    have H5 := Lib.hid h5; clear h5
    go_wp2_with fail
    refine ((show HasC w2 w5 d _ _ from H5.out).next (fun F9 hd9 => append_any F9 F d _ [120] a m c u w5 hd9 (small_name _ (by simp)) (by simp [solo, plain]) hL5 HU.out (by simp [solo, plain]; omega))).mono ?_
    rw [solo_append 200 1 0 f _ _ ⟨[], 0⟩ u (by simp [HU.out]; omega)]
    rintro e w6 ⟨rfl, h6⟩
    simp only [List.nil_append] at h6
    have x6 : w6.cell? ⟨B, 0, none⟩ = _ := h6.box (List.mem_cons_self)
    have H6 := Lib.hid h6; clear h6 hL5 x5
    go_wp2_with fail
    refine ((show HasC w2 w6 d _ _ from H6.out).next (fun F9 hd9 => sync_any F9 d _ [120] w6 hd9 (small_name _ (by simp)) (by simp [solo, plain]))).mono ?_
    rw [solo_sync]
    rintro e w7 ⟨rfl, h7⟩
    have x7 : w7.cell? ⟨B, 0, none⟩ = _ := h7.box (List.mem_cons_self)
    have H7 := Lib.hid h7; clear h7 x6
    go_wp2_with fail
    refine ((show HasC w2 w7 d _ _ from H7.out).next (fun F9 hd9 => syncdir_any F9 d _ w7 hd9 (by simp [solo, plain]))).mono ?_
    rw [solo_syncDir]
    rintro e w8 ⟨rfl, h8⟩
    have x8 : w8.cell? ⟨B, 0, none⟩ = _ := h8.box (List.mem_cons_self)
    have H8 := Lib.hid h8; clear h8 x7
    go_wp2_with fail
    refine ((show HasC w2 w8 d _ _ from H8.out).arm (r : Int) (by omega) (by omega)).mono ?_
    rintro e w9 ⟨rfl, h9⟩
    obtain ⟨S9, hS9⟩ : ∃ S9, S9 = (solo 200 f [([120], f)] [] 4 ⟨u, u.length⟩ (0 + u.length)).arm (r : Int) := ⟨_, rfl⟩
    have H9 : Hid (HasC w2 w9 d S9 [(B, .cells #[.pointer (some ⟨d, 0, none⟩)] 24)]) := by rw [hS9]; exact Lib.hid h9
    have st9 : ∀ g, S9.fl g = none → Stage f g u 4 60 S9 [([120], f)] [([120], f)] [] none := fun g hg => by
      have hne : g ≠ f := fun e => by
        rw [hS9, e] at hg
        have : one f (⟨u, u.length⟩ : Fl) f = none := hg
        rw [one_self] at this
        cases this
      rw [hS9] at hg ⊢
      exact ⟨rfl, rfl, rfl, rfl, rfl, one_self f _, hg, hne, Nat.le_refl _, by show 0 + u.length ≤ 60; rw [HU.out]; omega⟩
    have hc9 : S9.calls ≤ 10 := by rw [hS9]; show 4 ≤ 10; omega
    have ST9 := Lib.hid st9
    have x9 : w9.cell? ⟨B, 0, none⟩ = _ := h9.box (List.mem_cons_self)
    have hb9 := H9.out.kept.blk HB2.out (fun h => h)
    have y9 : w9.cell? ⟨w.heap.size, 0, none⟩ = some (.slice b m' c') := cell_of_row _ _ _ _ _ _ hb9
    clear h9 hS9 st9 x8 hb9
    go_wp2
    have HX := Lib.hid (H9.out.add (.cells #[.func (.func 28) #[] #[.pointer (some ⟨B, 0, none⟩)], .func (.func 29) #[] #[.pointer (some ⟨B, 0, none⟩), .pointer (some ⟨w.heap.size, 0, none⟩)], .func (.func 30) #[] #[.pointer (some ⟨B, 0, none⟩)], .func (.func 31) #[] #[.pointer (some ⟨B, 0, none⟩)], .func (.func 27) #[.pointer (some ⟨d, 0, none⟩)] #[]] 54))
    generalize w9.alloc (.cells #[.func (.func 28) #[] #[.pointer (some ⟨B, 0, none⟩)], .func (.func 29) #[] #[.pointer (some ⟨B, 0, none⟩), .pointer (some ⟨w.heap.size, 0, none⟩)], .func (.func 30) #[] #[.pointer (some ⟨B, 0, none⟩)], .func (.func 31) #[] #[.pointer (some ⟨B, 0, none⟩)], .func (.func 27) #[.pointer (some ⟨d, 0, none⟩)] #[]] 54) = wr0 at HX ⊢
    obtain ⟨FB, hFB⟩ : ∃ FB, FB = w9.heap.size := ⟨_, rfl⟩
    rw [← hFB] at HX ⊢
    clear hFB x9 y9
    refine wp_loop_rounds 6 ?_
    rw [rounds_succ]
    have fc : wr0.cell? ⟨FB, 0, none⟩ = some (.func (.func 28) #[] #[.pointer (some ⟨B, 0, none⟩)]) := cell_of_row _ _ _ _ _ _ (HX.out.blk (B := FB) List.mem_cons_self)
    go_wp2_with fail
    refine (k0_any HX.out (B := B) (by simp) (by omega)).mono ?_
    rintro e wr1 ⟨g, rfl, hx, hg⟩
    clear fc
    have hs := ren_create (b := u') (ST9.out g hg)
    obtain ⟨R0, hR0⟩ : ∃ R, R = S9.create [116] g := ⟨_, rfl⟩
    rw [← hR0] at hx hs ⊢
    clear hR0
    rcases hs with ⟨h0, st⟩ | ⟨h7, hi⟩
    · rw [h0]
      have HX := Lib.hid hx
      have ST := Lib.hid st
      clear hx st h0
      go_wp2
      rw [rounds_succ]
      have fc : wr1.cell? ⟨FB, 1, none⟩ = some (.func (.func 29) #[] #[.pointer (some ⟨B, 0, none⟩), .pointer (some ⟨w.heap.size, 0, none⟩)]) := cell_of_row _ _ _ _ _ _ (HX.out.blk (B := FB) List.mem_cons_self)
      go_wp2_with fail
      refine (k1_any F HX.out (B := B) (by simp) (by have := ST.out.calls; omega) (HL'.out.keep (K2.out.step HX.out.kept) (fun _ _ h => h)) HU'.out (by have := ST.out.vol; omega) (cell_of_row _ _ _ _ _ _ (HX.out.kept.blk HB2.out (fun h => h)))).mono ?_
      rintro e wr2 ⟨rfl, hx⟩
      clear fc
      have hs := ren_append (b := u') ST.out (by rw [HU.out, HU'.out]; omega)
      obtain ⟨R1, hR1⟩ : ∃ R, R = R0.2.append [116] u' := ⟨_, rfl⟩
      rw [← hR1] at hx hs ⊢
      clear hR1
      rcases hs with ⟨h0, st⟩ | ⟨h7, hi⟩
      · rw [h0]
        have HX := Lib.hid hx
        have ST := Lib.hid st
        clear hx st h0
        go_wp2
        rw [rounds_succ]
        have fc : wr2.cell? ⟨FB, 2, none⟩ = some (.func (.func 30) #[] #[.pointer (some ⟨B, 0, none⟩)]) := cell_of_row _ _ _ _ _ _ (HX.out.blk (B := FB) List.mem_cons_self)
        go_wp2_with fail
        refine (k2_any HX.out (B := B) (by simp) (by have := ST.out.calls; omega)).mono ?_
        rintro e wr3 ⟨rfl, hx⟩
        clear fc
        have hs := ren_sync ST.out
        obtain ⟨R2, hR2⟩ : ∃ R, R = R1.2.sync [116] := ⟨_, rfl⟩
        rw [← hR2] at hx hs ⊢
        clear hR2
        rcases hs with ⟨h0, st⟩ | ⟨h7, hi⟩
        · rw [h0]
          have HX := Lib.hid hx
          have ST := Lib.hid st
          clear hx st h0
          go_wp2
          rw [rounds_succ]
          have fc : wr3.cell? ⟨FB, 3, none⟩ = some (.func (.func 31) #[] #[.pointer (some ⟨B, 0, none⟩)]) := cell_of_row _ _ _ _ _ _ (HX.out.blk (B := FB) List.mem_cons_self)
          go_wp2_with fail
          refine (k3_any HX.out (B := B) (by simp) (by have := ST.out.calls; omega)).mono ?_
          rintro e wr4 ⟨rfl, hx⟩
          clear fc
          have hs := ren_rename ST.out
          obtain ⟨R3, hR3⟩ : ∃ R, R = R2.2.rename [116] [120] := ⟨_, rfl⟩
          rw [← hR3] at hx hs ⊢
          clear hR3
          rcases hs with ⟨h0, st⟩ | ⟨h7, hi⟩
          · rw [h0]
            have HX := Lib.hid hx
            have ST := Lib.hid st
            clear hx st h0
            go_wp2
            rw [rounds_succ]
            have fc : wr4.cell? ⟨FB, 4, none⟩ = some (.func (.func 27) #[.pointer (some ⟨d, 0, none⟩)] #[]) := cell_of_row _ _ _ _ _ _ (HX.out.blk (B := FB) List.mem_cons_self)
            go_wp2_with fail
            refine (HX.out.next (fun F9 hd9 => syncdir_any F9 d _ wr4 hd9 (by have := ST.out.calls; omega))).mono ?_
            rintro e wr5 ⟨rfl, hx⟩
            clear fc
            have hs := ren_syncDir (b := u') ST.out
            obtain ⟨R4, hR4⟩ : ∃ R, R = R3.2.syncDir := ⟨_, rfl⟩
            rw [← hR4] at hx hs ⊢
            clear hR4
            have HI := Lib.hid hs.2
            have HC := Lib.hid hx
            rcases hs.1 with h0 | h7
            · rw [h0]
              clear hx h0 hs
              go_wp2
              rw [rounds_succ]
              obtain ⟨fr, hrd, hfd⟩ := HI.out.back (q : Int)
              have xt : wr5.cell? ⟨B, 0, none⟩ = some (.pointer (some ⟨d, 0, none⟩)) := HC.out.box (t := 24) (by simp)
              go_wp2_with fail
              refine (HC.out.restart (q : Int) 0).mono ?_
              rintro e wt ⟨rfl, ht⟩
              have xu : wt.cell? ⟨B, 0, none⟩ = some (.pointer (some ⟨d, 0, none⟩)) := ht.box (t := 24) (by simp)
              have HT := Lib.hid ht; clear ht xt
              go_wp2_with fail
              refine (HT.out.has.read [120] (small_name _ (by simp))).mono ?_
              rintro e wu ⟨A', ca, rfl, hLx, kx⟩
              rw [hfd]
              obtain ⟨t, ht⟩ : ∃ t, t = (R4.2.restart (q : Int) 0).read [120] := ⟨_, rfl⟩
              rw [← ht] at hrd hLx ⊢
              obtain ⟨tl, htl⟩ : ∃ tl, t.length = tl := ⟨_, rfl⟩
              have kw := K2.out.step (HT.out.kept.step kx)
              have v1 := run_str hLx htl
              have v2 := run_str (HL.out.keep kw (fun _ _ h => h)) HU.out
              have v3 := run_str (HL'.out.keep kw (fun _ _ h => h)) HU'.out
              rw [htl]
              have yb : wu.cell? ⟨w.heap.size, 0, none⟩ = some (.slice b m' c') := cell_of_row _ _ _ _ _ _ ((HT.out.kept.step kx).blk HB2.out (fun h => h))
              have bq : ∀ p q : List UInt8, ((str p).toList == (str q).toList) = decide (p = q) := str_beq
              have KW := Lib.hid kw
              have BQ := Lib.hid bq
              clear hfd ht hLx kx kw htl bq xu
              by_cases htu : t = u
              · have f1 : ((str t).toList == (str u).toList) = true := by rw [BQ.out]; simpa using htu
                generalize str t = X at *
                generalize str u = Y at *
                generalize str u' = Z at *
                clear hrd htu
                go_wp2
                go_ret
                exact ⟨by simp, KW.out⟩
              · have htu' : t = u' := hrd.resolve_left htu
                have f1 : ((str t).toList == (str u).toList) = false := by rw [BQ.out]; simpa using htu
                have f2 : ((str t).toList == (str u').toList) = true := by rw [BQ.out]; simpa using htu'
                generalize str t = X at *
                generalize str u = Y at *
                generalize str u' = Z at *
                clear hrd htu htu'
                go_wp2
                go_ret
                exact ⟨by simp, KW.out⟩
            · rw [h7]
              clear hx h7 hs
              obtain ⟨fr, hrd, hfd⟩ := HI.out.back (q : Int)
              have xt : wr5.cell? ⟨B, 0, none⟩ = some (.pointer (some ⟨d, 0, none⟩)) := HC.out.box (t := 24) (by simp)
              go_wp2_with fail
              refine (HC.out.restart (q : Int) 0).mono ?_
              rintro e wt ⟨rfl, ht⟩
              have xu : wt.cell? ⟨B, 0, none⟩ = some (.pointer (some ⟨d, 0, none⟩)) := ht.box (t := 24) (by simp)
              have HT := Lib.hid ht; clear ht xt
              go_wp2_with fail
              refine (HT.out.has.read [120] (small_name _ (by simp))).mono ?_
              rintro e wu ⟨A', ca, rfl, hLx, kx⟩
              rw [hfd]
              obtain ⟨t, ht⟩ : ∃ t, t = (R4.2.restart (q : Int) 0).read [120] := ⟨_, rfl⟩
              rw [← ht] at hrd hLx ⊢
              obtain ⟨tl, htl⟩ : ∃ tl, t.length = tl := ⟨_, rfl⟩
              have kw := K2.out.step (HT.out.kept.step kx)
              have v1 := run_str hLx htl
              have v2 := run_str (HL.out.keep kw (fun _ _ h => h)) HU.out
              have v3 := run_str (HL'.out.keep kw (fun _ _ h => h)) HU'.out
              rw [htl]
              have yb : wu.cell? ⟨w.heap.size, 0, none⟩ = some (.slice b m' c') := cell_of_row _ _ _ _ _ _ ((HT.out.kept.step kx).blk HB2.out (fun h => h))
              have bq : ∀ p q : List UInt8, ((str p).toList == (str q).toList) = decide (p = q) := str_beq
              have KW := Lib.hid kw
              have BQ := Lib.hid bq
              clear hfd ht hLx kx kw htl bq xu
              by_cases htu : t = u
              · have f1 : ((str t).toList == (str u).toList) = true := by rw [BQ.out]; simpa using htu
                generalize str t = X at *
                generalize str u = Y at *
                generalize str u' = Z at *
                clear hrd htu
                go_wp2
                go_ret
                exact ⟨by simp, KW.out⟩
              · have htu' : t = u' := hrd.resolve_left htu
                have f1 : ((str t).toList == (str u).toList) = false := by rw [BQ.out]; simpa using htu
                have f2 : ((str t).toList == (str u').toList) = true := by rw [BQ.out]; simpa using htu'
                generalize str t = X at *
                generalize str u = Y at *
                generalize str u' = Z at *
                clear hrd htu htu'
                go_wp2
                go_ret
                exact ⟨by simp, KW.out⟩
          · rw [h7]
            have HI := Lib.hid hi
            have HC := Lib.hid hx
            clear hx hi h7
            obtain ⟨fr, hrd, hfd⟩ := HI.out.back (q : Int)
            have xt : wr4.cell? ⟨B, 0, none⟩ = some (.pointer (some ⟨d, 0, none⟩)) := HC.out.box (t := 24) (by simp)
            go_wp2_with fail
            refine (HC.out.restart (q : Int) 0).mono ?_
            rintro e wt ⟨rfl, ht⟩
            have xu : wt.cell? ⟨B, 0, none⟩ = some (.pointer (some ⟨d, 0, none⟩)) := ht.box (t := 24) (by simp)
            have HT := Lib.hid ht; clear ht xt
            go_wp2_with fail
            refine (HT.out.has.read [120] (small_name _ (by simp))).mono ?_
            rintro e wu ⟨A', ca, rfl, hLx, kx⟩
            rw [hfd]
            obtain ⟨t, ht⟩ : ∃ t, t = (R3.2.restart (q : Int) 0).read [120] := ⟨_, rfl⟩
            rw [← ht] at hrd hLx ⊢
            obtain ⟨tl, htl⟩ : ∃ tl, t.length = tl := ⟨_, rfl⟩
            have kw := K2.out.step (HT.out.kept.step kx)
            have v1 := run_str hLx htl
            have v2 := run_str (HL.out.keep kw (fun _ _ h => h)) HU.out
            have v3 := run_str (HL'.out.keep kw (fun _ _ h => h)) HU'.out
            rw [htl]
            have yb : wu.cell? ⟨w.heap.size, 0, none⟩ = some (.slice b m' c') := cell_of_row _ _ _ _ _ _ ((HT.out.kept.step kx).blk HB2.out (fun h => h))
            have bq : ∀ p q : List UInt8, ((str p).toList == (str q).toList) = decide (p = q) := str_beq
            have KW := Lib.hid kw
            have BQ := Lib.hid bq
            clear hfd ht hLx kx kw htl bq xu
            by_cases htu : t = u
            · have f1 : ((str t).toList == (str u).toList) = true := by rw [BQ.out]; simpa using htu
              generalize str t = X at *
              generalize str u = Y at *
              generalize str u' = Z at *
              clear hrd htu
              go_wp2
              go_ret
              exact ⟨by simp, KW.out⟩
            · have htu' : t = u' := hrd.resolve_left htu
              have f1 : ((str t).toList == (str u).toList) = false := by rw [BQ.out]; simpa using htu
              have f2 : ((str t).toList == (str u').toList) = true := by rw [BQ.out]; simpa using htu'
              generalize str t = X at *
              generalize str u = Y at *
              generalize str u' = Z at *
              clear hrd htu htu'
              go_wp2
              go_ret
              exact ⟨by simp, KW.out⟩
        · rw [h7]
          have HI := Lib.hid hi
          have HC := Lib.hid hx
          clear hx hi h7
          obtain ⟨fr, hrd, hfd⟩ := HI.out.back (q : Int)
          have xt : wr3.cell? ⟨B, 0, none⟩ = some (.pointer (some ⟨d, 0, none⟩)) := HC.out.box (t := 24) (by simp)
          go_wp2_with fail
          refine (HC.out.restart (q : Int) 0).mono ?_
          rintro e wt ⟨rfl, ht⟩
          have xu : wt.cell? ⟨B, 0, none⟩ = some (.pointer (some ⟨d, 0, none⟩)) := ht.box (t := 24) (by simp)
          have HT := Lib.hid ht; clear ht xt
          go_wp2_with fail
          refine (HT.out.has.read [120] (small_name _ (by simp))).mono ?_
          rintro e wu ⟨A', ca, rfl, hLx, kx⟩
          rw [hfd]
          obtain ⟨t, ht⟩ : ∃ t, t = (R2.2.restart (q : Int) 0).read [120] := ⟨_, rfl⟩
          rw [← ht] at hrd hLx ⊢
          obtain ⟨tl, htl⟩ : ∃ tl, t.length = tl := ⟨_, rfl⟩
          have kw := K2.out.step (HT.out.kept.step kx)
          have v1 := run_str hLx htl
          have v2 := run_str (HL.out.keep kw (fun _ _ h => h)) HU.out
          have v3 := run_str (HL'.out.keep kw (fun _ _ h => h)) HU'.out
          rw [htl]
          have yb : wu.cell? ⟨w.heap.size, 0, none⟩ = some (.slice b m' c') := cell_of_row _ _ _ _ _ _ ((HT.out.kept.step kx).blk HB2.out (fun h => h))
          have bq : ∀ p q : List UInt8, ((str p).toList == (str q).toList) = decide (p = q) := str_beq
          have KW := Lib.hid kw
          have BQ := Lib.hid bq
          clear hfd ht hLx kx kw htl bq xu
          by_cases htu : t = u
          · have f1 : ((str t).toList == (str u).toList) = true := by rw [BQ.out]; simpa using htu
            generalize str t = X at *
            generalize str u = Y at *
            generalize str u' = Z at *
            clear hrd htu
            go_wp2
            go_ret
            exact ⟨by simp, KW.out⟩
          · have htu' : t = u' := hrd.resolve_left htu
            have f1 : ((str t).toList == (str u).toList) = false := by rw [BQ.out]; simpa using htu
            have f2 : ((str t).toList == (str u').toList) = true := by rw [BQ.out]; simpa using htu'
            generalize str t = X at *
            generalize str u = Y at *
            generalize str u' = Z at *
            clear hrd htu htu'
            go_wp2
            go_ret
            exact ⟨by simp, KW.out⟩
      · rw [h7]
        have HI := Lib.hid hi
        have HC := Lib.hid hx
        clear hx hi h7
        obtain ⟨fr, hrd, hfd⟩ := HI.out.back (q : Int)
        have xt : wr2.cell? ⟨B, 0, none⟩ = some (.pointer (some ⟨d, 0, none⟩)) := HC.out.box (t := 24) (by simp)
        go_wp2_with fail
        refine (HC.out.restart (q : Int) 0).mono ?_
        rintro e wt ⟨rfl, ht⟩
        have xu : wt.cell? ⟨B, 0, none⟩ = some (.pointer (some ⟨d, 0, none⟩)) := ht.box (t := 24) (by simp)
        have HT := Lib.hid ht; clear ht xt
        go_wp2_with fail
        refine (HT.out.has.read [120] (small_name _ (by simp))).mono ?_
        rintro e wu ⟨A', ca, rfl, hLx, kx⟩
        rw [hfd]
        obtain ⟨t, ht⟩ : ∃ t, t = (R1.2.restart (q : Int) 0).read [120] := ⟨_, rfl⟩
        rw [← ht] at hrd hLx ⊢
        obtain ⟨tl, htl⟩ : ∃ tl, t.length = tl := ⟨_, rfl⟩
        have kw := K2.out.step (HT.out.kept.step kx)
        have v1 := run_str hLx htl
        have v2 := run_str (HL.out.keep kw (fun _ _ h => h)) HU.out
        have v3 := run_str (HL'.out.keep kw (fun _ _ h => h)) HU'.out
        rw [htl]
        have yb : wu.cell? ⟨w.heap.size, 0, none⟩ = some (.slice b m' c') := cell_of_row _ _ _ _ _ _ ((HT.out.kept.step kx).blk HB2.out (fun h => h))
        have bq : ∀ p q : List UInt8, ((str p).toList == (str q).toList) = decide (p = q) := str_beq
        have KW := Lib.hid kw
        have BQ := Lib.hid bq
        clear hfd ht hLx kx kw htl bq xu
        by_cases htu : t = u
        · have f1 : ((str t).toList == (str u).toList) = true := by rw [BQ.out]; simpa using htu
          generalize str t = X at *
          generalize str u = Y at *
          generalize str u' = Z at *
          clear hrd htu
          go_wp2
          go_ret
          exact ⟨by simp, KW.out⟩
        · have htu' : t = u' := hrd.resolve_left htu
          have f1 : ((str t).toList == (str u).toList) = false := by rw [BQ.out]; simpa using htu
          have f2 : ((str t).toList == (str u').toList) = true := by rw [BQ.out]; simpa using htu'
          generalize str t = X at *
          generalize str u = Y at *
          generalize str u' = Z at *
          clear hrd htu htu'
          go_wp2
          go_ret
          exact ⟨by simp, KW.out⟩
    · rw [h7]
      have HI := Lib.hid hi
      have HC := Lib.hid hx
      clear hx hi h7
      obtain ⟨fr, hrd, hfd⟩ := HI.out.back (q : Int)
      have xt : wr1.cell? ⟨B, 0, none⟩ = some (.pointer (some ⟨d, 0, none⟩)) := HC.out.box (t := 24) (by simp)
      go_wp2_with fail
      refine (HC.out.restart (q : Int) 0).mono ?_
      rintro e wt ⟨rfl, ht⟩
      have xu : wt.cell? ⟨B, 0, none⟩ = some (.pointer (some ⟨d, 0, none⟩)) := ht.box (t := 24) (by simp)
      have HT := Lib.hid ht; clear ht xt
      go_wp2_with fail
      refine (HT.out.has.read [120] (small_name _ (by simp))).mono ?_
      rintro e wu ⟨A', ca, rfl, hLx, kx⟩
      rw [hfd]
      obtain ⟨t, ht⟩ : ∃ t, t = (R0.2.restart (q : Int) 0).read [120] := ⟨_, rfl⟩
      rw [← ht] at hrd hLx ⊢
      obtain ⟨tl, htl⟩ : ∃ tl, t.length = tl := ⟨_, rfl⟩
      have kw := K2.out.step (HT.out.kept.step kx)
      have v1 := run_str hLx htl
      have v2 := run_str (HL.out.keep kw (fun _ _ h => h)) HU.out
      have v3 := run_str (HL'.out.keep kw (fun _ _ h => h)) HU'.out
      rw [htl]
      have yb : wu.cell? ⟨w.heap.size, 0, none⟩ = some (.slice b m' c') := cell_of_row _ _ _ _ _ _ ((HT.out.kept.step kx).blk HB2.out (fun h => h))
      have bq : ∀ p q : List UInt8, ((str p).toList == (str q).toList) = decide (p = q) := str_beq
      have KW := Lib.hid kw
      have BQ := Lib.hid bq
      clear hfd ht hLx kx kw htl bq xu
      by_cases htu : t = u
      · have f1 : ((str t).toList == (str u).toList) = true := by rw [BQ.out]; simpa using htu
        generalize str t = X at *
        generalize str u = Y at *
        generalize str u' = Z at *
        clear hrd htu
        go_wp2
        go_ret
        exact ⟨by simp, KW.out⟩
      · have htu' : t = u' := hrd.resolve_left htu
        have f1 : ((str t).toList == (str u).toList) = false := by rw [BQ.out]; simpa using htu
        have f2 : ((str t).toList == (str u').toList) = true := by rw [BQ.out]; simpa using htu'
        generalize str t = X at *
        generalize str u = Y at *
        generalize str u' = Z at *
        clear hrd htu htu'
        go_wp2
        go_ret
        exact ⟨by simp, KW.out⟩
end Go.Proofs.Ytaelkmcohdfboaa
