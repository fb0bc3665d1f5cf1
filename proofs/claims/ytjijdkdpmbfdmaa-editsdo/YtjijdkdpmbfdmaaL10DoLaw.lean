/-
  The walk of EditsDo. No statement is proved here.
-/
import Derived.Test.YtjijdkdpmbfdmaaL10DoPl
import Derived.Test.YtjijdkdpmbfdmaaE10Bytes
import Derived.Test.YtjijdkdpmbfdmaaFrmK
namespace Go.Proofs.Ytjijdkdpmbfdmaa
open Go.RowKit Tot

theorem repl_more {bs : List (List UInt8)} {r : List UInt8} {N N' : Fls} {f z : Int} (h : replV [] 0 bs = some (N, f)) (hr : replS N f r = some (N', z)) : replV [] 0 (bs ++ [r]) = some (N', z) := by
  rw [replV_snoc, h, Option.bind_some]
  simp only
  exact hr
theorem lname_q (q : Nat) (hq : q < 8) (w : World) : Calls Try.prog 19 #[.int .u8 (q : Int)] w fun e w' => e = .returned (.string (nmE q)) ∧ w = w' := by
  have h := lname_any (UInt8.ofNat q) w
  have e : (UInt8.ofNat q).toNat = q := by rw [UInt8.toNat_ofNat']; omega
  rw [e, Nat.mod_eq_of_lt hq] at h
  exact h

set_option maxRecDepth 100000 in
set_option maxHeartbeats 4000000 in
theorem edo10_walk (F : Nat → Prop) (a : Option Addr) (n cp : Nat) (ss : List StepV) (w : World) (h : Lies w F a (stepCells ss)) (hx : ∀ x ∈ ss, x.lies F w) (hl : ss.length = n) (hnc : n ≤ cp) :
    Calls Try.prog 3 #[.slice a n cp] w fun e w' => e = .returned (.bool true) ∧ Kept noBlock w w' := by
  have hmm := @run_makeMap Try.prog
  obtain ⟨M, hM⟩ : ∃ M, M = min n 40 := ⟨_, rfl⟩
  have q1 : (if (40 : Int) < (n : Int) then (40 : Int) else (n : Int)) = (M : Int) := by split <;> omega
  have q2 : min (n : Int) 40 = (M : Int) := by omega
  have i1 : (M : Int) ≤ cp := by omega
  have hM40 : M ≤ 40 := by omega
  have hMn : M ≤ n := by omega
  have H := Lib.hid h
  have HX := Lib.hid hx
  have HL := Lib.hid hl
  clear h hx hl hM
  go_enter Try.func3, Try.ntmps3
  go_wp2_with fail
  refine (awake10_any w).mono ?_
  rintro en w1 ⟨rfl, k1⟩
  have ka := Kept.alloc noBlock w1 (.cells #[.slice none 0 0, .int .i64 0] 26)
  have ha := heap_alloc_new w1 (.cells #[.slice none 0 0, .int .i64 0] 26)
  have z0 : (w1.alloc (.cells #[.slice none 0 0, .int .i64 0] 26)).heap.size = w1.heap.size + 1 := by simp
  have kb := Kept.alloc noBlock (w1.alloc (.cells #[.slice none 0 0, .int .i64 0] 26)) (.map #[] 0)
  have ht := MF.Tb.made (w1.alloc (.cells #[.slice none 0 0, .int .i64 0] 26))
  rw [z0] at ht
  go_upto_region 6 with (fail)
  obtain ⟨S, hS⟩ : ∃ S, S = w1.heap.size := ⟨_, rfl⟩
  obtain ⟨m0, hm0⟩ : ∃ m0, m0 = w1.heap.size + 1 := ⟨_, rfl⟩
  rw [← hm0] at ht ⊢
  rw [← hS] at ha ⊢
  have hSw := k1.size
  rw [← hS] at hSw
  generalize (w1.alloc (.cells #[.slice none 0 0, .int .i64 0] 26)).alloc (.map #[] 0) = u0 at ka kb ha ht ⊢
  have K0 := Lib.hid (k1.step (ka.step kb))
  have hb := kb.blk ha (fun h => h)
  have L0 : Hid (DoR w u0 S [] 0 none 0 0 m0 none 0 0 []) := ⟨⟨hb, Sw.nil _ _, Good.nil, Nat.le_refl _, by decide, by decide, K0.out⟩, Sw.nil _ _, ht, ht.lt, by omega, World.ownsRow_nil _ _ _ _, fun i hi => by simp [Value.ownBlock] at hi, rfl, Nat.zero_le _, fun r hr => (by cases hr), rfl⟩
  clear ka kb ha ht hS k1 K0 hm0 z0 hb hmm
  go_wp2_with fail
  go_loopw [31, 4, 5] (fun i mp bb wr => ∃ (k : Nat) (N : Fls) (f : Int) (A : Option Addr) (c mb : Nat) (B : Option Addr) (bl bc : Nat) (bs : List (List UInt8)), k ≤ M ∧ i = .int .i64 (k : Int) ∧ mp = .map (some mb) ∧ bb = .slice B bl bc ∧ Hid (DoR w wr S N f A c k mb B bl bc bs)) (fun i _ _ _ => M - (intOf i).toNat)
  case atStart => exact ⟨0, [], 0, none, 0, m0, none, 0, 0, [], by omega, rfl, rfl, rfl, L0⟩
  case round =>
    obtain ⟨k, N, f, A, c, mb, B, bl, bc, bs, hkM, rfl, rfl, rfl, LS⟩ := hrel
    have hlen0 := LS.out.lst.len
    have hbl0 := LS.out.ble
    by_cases hlt : k < M
    · obtain ⟨x, hx⟩ : ∃ x, ss[k]? = some x := ⟨_, List.getElem?_eq_getElem (by have := HL.out; omega)⟩
      obtain ⟨ad, o, rfl, _, cc⟩ := (H.out.keep LS.out.lst.kept (fun _ _ h => h)).elem (enc := StepV.cells) step_len (by omega) hx
      have e0 := cc 0 _ rfl
      have e1 := cc 1 _ rfl
      have e2 := cc 2 _ rfl
      have e3 := cc 3 _ rfl
      have e4 := cc 4 _ rfl
      have e5 := cc 5 _ rfl
      have e6 := cc 6 _ rfl
      have e7 := cc 7 _ rfl
      rw [Nat.add_zero] at e0
      have XL := Lib.hid ((HX.out x (List.mem_of_getElem? hx)).keep LS.out.lst.kept (fun _ _ h => h))
      have ka := Kept.alloc noBlock wr (.cells #[.slice x.A x.add.length x.ca, .slice x.D x.drop.length x.cd, .int .u8 (x.floor.toNat : Int), .bool x.odd, .string x.any.name, .int .i64 x.any.kind, .int .i64 x.any.from_, .int .i64 x.any.to_] 33)
      have ha := heap_alloc_new wr (.cells #[.slice x.A x.add.length x.ca, .slice x.D x.drop.length x.cd, .int .u8 (x.floor.toNat : Int), .bool x.odd, .string x.any.name, .int .i64 x.any.kind, .int .i64 x.any.from_, .int .i64 x.any.to_] 33)
      clear cc hx
      go_upto_region 9 with (fail)
      generalize wr.alloc (.cells #[.slice x.A x.add.length x.ca, .slice x.D x.drop.length x.cd, .int .u8 (x.floor.toNat : Int), .bool x.odd, .string x.any.name, .int .i64 x.any.kind, .int .i64 x.any.from_, .int .i64 x.any.to_] 33) = w3 at ka ha ⊢
      have L3 := Lib.hid (LS.out.keep ka)
      have LE := Lib.hid (edit_step (XL.out.keep ka (fun _ _ h => h)) w3 (Kept.refl _ _))
      have hE5 := editOf_add x
      have hE4 := editOf_drop x
      have hE0 := editOf_floor x
      have hSZ := editOf_size x
      have hok := ok_bytes (x := x) (f := f) L3.out.lst.good
      obtain ⟨y0, y1, y2, y3, y4, y5, y6, y7⟩ := step_cells ha
      obtain ⟨e, he⟩ : ∃ e, e = editOf x := ⟨_, rfl⟩
      rw [← he] at LE hE5 hE4 hE0 hSZ hok
      have HOK := Lib.hid hok
      have HSZ := Lib.hid hSZ
      clear e0 e1 e2 e3 e4 e5 e6 e7 ka ha LS XL he hok hSZ
      go_wp2_with fail
      refine LE.out.mono ?_
      rintro en w4 ⟨A2, a2, D2, d2, rfl, ev2, k4⟩
      have ka := Kept.alloc noBlock w4 (.cells #[.slice A2 e.add.length a2, .slice D2 e.drop.length d2, .int .i64 e.floor] 36)
      have ha := heap_alloc_new w4 (.cells #[.slice A2 e.add.length a2, .slice D2 e.drop.length d2, .int .i64 e.floor] 36)
      go_upto_region 10 with (fail)
      obtain ⟨Z, hZ⟩ : ∃ Z, Z = w4.heap.size := ⟨_, rfl⟩
      rw [← hZ] at ha ⊢
      generalize w4.alloc (.cells #[.slice A2 e.add.length a2, .slice D2 e.drop.length d2, .int .i64 e.floor] 36) = u4 at ka ha ⊢
      have L4 := Lib.hid (L3.out.keep (k4.step ka))
      have EV4 := Lib.hid (ev2.kept ka)
      have HZ4 := Lib.hid ha
      have HBZ : Hid (∀ i, (Value.slice B bl bc).ownBlock = some i → i ≠ Z) := fun i hi e => by have := ((own_keep L3.out.own k4 (fun _ _ h => h)).lt i hi).2; omega
      clear ka ha k4 ev2 LE L3 hZ y0 y1 y2 y3 y4 y5 y6 y7
      obtain ⟨s0, s1⟩ := two_cells L4.out.lst.blk
      obtain ⟨z0, z1, z2⟩ := ed_cells HZ4.out
      have DO := Lib.hid (do_step (f := f) L4.out.lst.good (by omega) (by omega) (by omega) HSZ.out u4 A c A2 a2 D2 d2 _ _ L4.out.lst.sw EV4.out)
      go_wp2_with fail
      refine DO.out.mono ?_
      rintro en w5 ⟨A5, c5, rfl, sw5, k5⟩
      have ka := Kept.alloc noBlock w5 (.cells #[.slice A5 (doE N f e).1.length c5, .int .i64 (doF N f e)] 26)
      have ha := heap_alloc_new w5 (.cells #[.slice A5 (doE N f e).1.length c5, .int .i64 (doF N f e)] 26)
      go_upto_region 11 with (fail)
      obtain ⟨X, hX⟩ : ∃ X, X = w5.heap.size := ⟨_, rfl⟩
      rw [← hX] at ha ⊢
      generalize w5.alloc (.cells #[.slice A5 (doE N f e).1.length c5, .int .i64 (doF N f e)] 26) = u5 at ka ha ⊢
      have L5 := Lib.hid (L4.out.keep (k5.step ka))
      have EV5 := Lib.hid (EV4.out.kept (k5.step ka))
      have HZ5 := Lib.hid ((k5.step ka).blk HZ4.out (fun h => h))
      have HX5 := Lib.hid ha
      have SW5 : Hid (Sw u5 (fun i => u4.heap.size ≤ i ∧ i < u5.heap.size) (doE N f e).1 A5 c5) := (sw5.kept ka).mono (fun i hi => ⟨hi.1, Nat.lt_of_lt_of_le hi.2 ka.size⟩)
      have HSX : Hid (u4.heap.size ≤ X) := by unfold Hid; rw [hX]; exact k5.size
      have HB4 : Hid (∀ i, (Value.slice B bl bc).ownBlock = some i → i < u4.heap.size) := fun i hi => (L4.out.own.lt i hi).2
      have HS4 : Hid (S < u4.heap.size) := lt_of_blk L4.out.lst.blk
      clear ka ha k5 sw5 DO L4 EV4 HZ4 hX s0 s1 z0 z1 z2
      obtain ⟨s0, s1⟩ := two_cells L5.out.lst.blk
      obtain ⟨z0, z1, z2⟩ := ed_cells HZ5.out
      have LD := ldoL_any (fun _ => True) mb N f e A2 a2 D2 d2 u5 L5.out.tb EV5.out (by omega) (by omega) (by omega) HSZ.out
      unfold evl at LD
      have LD := Lib.hid LD
      go_wp2_with fail
      refine LD.out.mono ?_
      rintro en w6 ⟨⟨mv, rfl, hmv⟩, k6⟩
      have L6 := Lib.hid (L5.out.keep k6)
      have EV6 := Lib.hid (EV5.out.kept k6)
      have HZ6 := Lib.hid (k6.blk HZ5.out (fun h => h))
      have HX6 := Lib.hid (k6.blk HX5.out (fun h => h))
      have SW6 := Lib.hid (SW5.out.kept k6)
      have HMV := Lib.hid hmv
      have HU56 : Hid (u5.heap.size ≤ w6.heap.size ∧ X < u5.heap.size ∧ u4.heap.size ≤ u5.heap.size) := ⟨k6.size, lt_of_blk HX5.out, by have := lt_of_blk HX5.out; have := HSX.out; omega⟩
      clear k6 hmv LD L5 EV5 HZ5 HX5 SW5 s0 s1 z0 z1 z2
      have hlen := doE_len (f := f) (e := e) L6.out.lst.good.up
      have hgood := doE_good (f := f) (e := e) L6.out.lst.good
      have hfloor := doE_floor (N := N) (f := f) (e := e)
      have hdf : (doE N f e).2 = 0 → doF N f e = e.floor := fun h => if_pos h
      have hdf2 : (doE N f e).2 ≠ 0 → doF N f e = 0 := fun h => if_neg h
      have hfail := doE_fail (N := N) (f := f) (e := e)
      obtain ⟨N', hN'⟩ : ∃ N', N' = (doE N f e).1 := ⟨_, rfl⟩
      obtain ⟨r, hr⟩ : ∃ r, r = (doE N f e).2 := ⟨_, rfl⟩
      obtain ⟨z, hz⟩ : ∃ z, z = doF N f e := ⟨_, rfl⟩
      obtain ⟨y, hy⟩ : ∃ y, y = e.floor := ⟨_, rfl⟩
      rw [← hN', ← hr] at HOK HMV
      rw [← hN'] at HX6 SW6 hlen hgood hfail
      rw [← hr] at hfloor hdf hdf2 hfail ⊢
      rw [← hz] at HX6 hdf hdf2
      rw [← hy] at hfloor hdf hE0 HOK HZ6
      clear hN' hr hz HSZ
      obtain ⟨x0, x1⟩ := two_cells HX6.out
      obtain ⟨s0, s1⟩ := two_cells L6.out.lst.blk
      obtain ⟨z0, z1, z2⟩ := ed_cells HZ6.out
      have hrr : (r != r) = false := by simp
      by_cases hr0 : r = 0
      · subst hr0
        obtain ⟨g1, g2⟩ := hfloor rfl
        have hzy := hdf rfl
        subst hzy
        obtain ⟨m', rfl, T6, hm6⟩ := HMV.out rfl
        obtain ⟨hb4, hrs⟩ := HOK.out rfl
        obtain ⟨nb, hnb⟩ : ∃ nb, nb = e.bytes.length := ⟨_, rfl⟩
        have EB := ebytes_any (fun _ => True) e A2 a2 D2 d2 nb w6 EV6.out hnb.symm (by omega)
        unfold evl at EB
        rw [← hy] at EB
        have EB := Lib.hid EB
        have HNB := Lib.hid hnb
        have HRS := Lib.hid hrs
        have TB6 := Lib.hid T6
        have HM6 := Lib.hid hm6
        have HGD := Lib.hid hgood
        rw [← hnb] at hb4
        clear hfloor hdf hdf2 hfail HOK HMV hy hnb hrs T6 hm6 hgood EV6
        go_wp2_with fail
        refine EB.out.mono ?_
        rintro en w7 ⟨P, cp2, rfl, oP, k7⟩
        have LP := Lib.hid (Lies.of_rows (F := fun _ => True) oP (fun _ _ => trivial))
        clear oP EB x0 x1 s0 s1 z0 z1 z2
        go_wp2_with fail
        refine (make_any (fun _ => True) P nb cp2 e.bytes w7 LP.out HNB.out.symm (by omega)).mono ?_
        rintro en w8 ⟨A8, c8, rfl, o8, k8⟩
        have k68 := k7.step k8
        have hsrc : Src Try.prog 1 28 (.slice A8 (nb + 9) c8) (nb + 9) ((frm e.bytes).map bv) w8 := src_lies Try.underlying28 (Lies.of_rows (F := fun _ => True) o8 (fun _ _ => trivial)) (by rw [List.length_map, frm_length, ← HNB.out]) (bv_one _)
        have L8 := Lib.hid (L6.out.keep k68)
        have HZ8 := Lib.hid (k68.blk HZ6.out (fun h => h))
        have HX8 := Lib.hid (k68.blk HX6.out (fun h => h))
        have SW8 := Lib.hid (SW6.out.kept k68)
        have TB8 := Lib.hid (TB6.out.keep k68 (fun h => h))
        have HU8 : Hid (w6.heap.size ≤ w8.heap.size) := k68.size
        have HML : Hid (m' < w6.heap.size) := TB6.out.lt
        clear k7 k8 k68 o8 LP L6 HZ6 HX6 SW6 TB6
        go_wp2_with (at_builtin; refine wpList_append_src rfl _ _ 28 28 rfl 5 (.int .u8 0) 1 1 Try.underlying28 Try.infoU8f rfl (.slice B bl bc) bl ((joined bs).map bv) rfl L8.out.own _ (nb + 9) ((frm e.bytes).map bv) rfl hsrc ?c3 ?c4 ?_)
        case c3 => unfold maxLen; omega
        case c4 => omega
        intro B9 c9 w9 o9 k9 hat
        obtain ⟨bl', hbl'⟩ : ∃ bl', bl' = bl + (nb + 9) := ⟨_, rfl⟩
        rw [← hbl'] at o9 hat ⊢
        have hZ9 := k9.blk HZ8.out (fun h => HBZ.out _ h rfl)
        have hX9 := k9.blk HX8.out (fun h => by have := HB4.out _ h; have := HSX.out; omega)
        have hS9 := k9.blk L8.out.lst.blk (fun h => by have := (L8.out.olo _ h).1; omega)
        obtain ⟨x0, x1⟩ := two_cells hX9
        obtain ⟨p0, p1⟩ := two_cells hS9
        have f0 : w9.frozen? ⟨S, 0, none⟩ = false := frozen_of_row _ _ _ _ _ hS9
        have f1 : w9.frozen? ⟨S, 1, none⟩ = false := frozen_of_row _ _ _ _ _ hS9
        obtain ⟨hz, kz⟩ := setE_two (n := N'.length) (A := A5) (c := c5) (f := z) hS9
        have k9z : Kept (fun i => (Value.slice B bl bc).ownBlock = some i ∨ i = S) w8 (setE w9 S N'.length A5 c5 z) := (k9.mono (fun _ _ h => .inl h)).step (kz.mono (fun _ _ h => .inr h))
        have hTB := TB8.out.keep k9z (fun h => by
          have h1 := HM6.out
          have h2 := HU56.out
          have h3 := HS4.out
          rcases h with h | h
          · have := HB4.out _ h; omega
          · omega)
        have hSWz := SW8.out.keep k9z (fun i hi h => by
          have h3 := HS4.out
          rcases h with h | h
          · have := HB4.out _ h; omega
          · omega)
        have hZz := k9z.blk HZ8.out (fun h => by
          rcases h with h | h
          · exact HBZ.out _ h rfl
          · have h1 := HZ8.out; rw [h, L8.out.lst.blk] at h1; injection h1 with h1; injection h1 with h1; have := congrArg Array.size h1; simp at this)
        have hold : ∀ i, (Value.slice B9 bl' c9).ownBlock = some i → S < i ∧ i ≠ m' ∧ ¬ (u4.heap.size ≤ i ∧ i < u5.heap.size) := fun i hi => by
          have h1 := HM6.out
          have h2 := HU56.out
          have h3 := HS4.out
          have h4 := HU8.out
          have h5 := HML.out
          rcases hat i hi with h | h
          · have h6 := HB4.out _ h
            have h7 := (L8.out.olo _ h).1
            omega
          · have h6 := h.1
            omega
        have LN : Hid (DoR w (setE w9 S N'.length A5 c5 z) S N' z A5 c5 (k + 1) m' B9 bl' c9 (bs ++ [e.bytes])) := by
          have h1 := HM6.out
          have h2 := HU56.out
          have h3 := HS4.out
          refine ⟨⟨hz, hSWz.mono (fun i hi => by omega), HGD.out, by omega, by omega, g2, L8.out.lst.kept.trans k9z (fun i hi h => ?_)⟩, hSWz.mono (fun i hi => ⟨by omega, fun h => (hold i h).2.2 hi⟩), hTB, hTB.lt, by omega, ?_, fun i hi => ⟨(hold i hi).1, (hold i hi).2.1⟩, ?_, ?_, ?_, ?_⟩
          · rcases h with h | h
            · have := (L8.out.olo _ h).1; omega
            · omega
          · rw [joined_snoc, List.map_append]
            exact own_keep o9 kz (fun i hi e => by have := (hold i hi).1; omega)
          · rw [joined_snoc, List.length_append, L8.out.len, frm_length, ← HNB.out, hbl']
          · have := L8.out.ble; omega
          · intro r hr
            rcases List.mem_append.1 hr with hr | hr
            · exact L8.out.fit r hr
            · rw [List.mem_singleton] at hr
              rw [hr, ← HNB.out]
              omega
          · exact repl_more L8.out.rep HRS.out
        have HZ9 := Lib.hid hZz
        have hN200 : N'.length ≤ 205 := by omega
        obtain ⟨NL, hNL⟩ : ∃ NL, NL = N'.length := ⟨_, rfl⟩
        rw [← hNL] at LN x0 HZ9
        rw [← hNL] at hN200
        have HNL := Lib.hid hNL
        unfold setE at LN HZ9
        clear hlen hZ9 hX9 hS9 hz kz k9z hTB hSWz hZz hold k9 hat o9 hsrc L8 HZ8 HX8 SW8 TB8 hNL hbl' HRS HNB
        go_upto_region 20 with (fail)
        generalize (w9.setCell ⟨S, 0, none⟩ (.slice A5 NL c5)).setCell ⟨S, 1, none⟩ (.int .i64 z) = v0 at LN HZ9 ⊢
        obtain ⟨s0, s1⟩ := two_cells LN.out.lst.blk
        obtain ⟨z0, z1, z2⟩ := ed_cells HZ9.out
        rw [← HNL.out] at s0
        have SH := shows_any10 (fun i => i ≠ S) m' N' z A5 c5 v0 LN.out.tb LN.out.lst.sw LN.out.lst.good (by have := HNL.out; omega)
        unfold setv at SH
        rw [← HNL.out] at SH
        have SH := Lib.hid SH
        clear x0 x1 f0 f1 p0 p1 HZ9
        go_wp2_with fail
        refine SH.out.mono ?_
        rintro en v1 ⟨rfl, kv1⟩
        have L1 := Lib.hid (LN.out.keep kv1)
        clear s0 s1 z0 z1 z2 kv1 LN SH
        go_wp2_with fail
        go_loopw [15] (fun i wr => ∃ q : Nat, q ≤ 8 ∧ i = .int .u8 (q : Int) ∧ Hid (Kept noBlock v1 wr)) (fun i _ => 8 - (intOf i).toNat)
        case atStart => exact ⟨0, by omega, rfl, Kept.refl _ _⟩
        case round =>
          obtain ⟨q, hq8, rfl, HQ⟩ := hrel
          by_cases hql : q < 8
          · have hq1 : IntKind.u8.wrap ((q : Int) + 1) = ((q + 1 : Nat) : Int) := by rw [show (q : Int) + 1 = ((q + 1 : Nat) : Int) by omega, wrap_u8]; omega
            have LNM := Lib.hid (fun u => lname_q q hql u)
            obtain ⟨nm, hnm⟩ : ∃ nm, nm = nmE q := ⟨_, rfl⟩
            rw [← hnm] at LNM
            have hfitn : MF.Fits nm := by rw [hnm]; unfold MF.Fits maxLen; rw [nmE_size]; omega
            have LV := Lib.hid (L1.out.keep HQ.out)
            have CE : Hid (∀ u, Kept noBlock wr u → u.cell? ⟨S, 0, none⟩ = some (.slice A5 NL c5) ∧ u.cell? ⟨S, 1, none⟩ = some (.int .i64 z)) := fun u k => by
              have := two_cells (k.blk LV.out.lst.blk (fun h => h))
              rw [← HNL.out] at this
              exact this
            have FN := Lib.hid (fun u (k : Kept noBlock wr u) => find_any (fun i => i ≠ S) A5 NL c5 z (N'.map (·.2)) nm u (LV.out.keep k).lst.sw.la (by rw [List.length_map]; exact HNL.out.symm) (by omega))
            have KC : Hid (Kept noBlock wr wr.drew) := Kept.drew _ _
            obtain ⟨r0, hr0⟩ : ∃ r0, r0 = (Srt.look N' nm).getD noRef := ⟨_, rfl⟩
            rcases fnd_has LV.out.lst.good nm with ⟨hh, j, rr, hj, hjr, hrn, hfv⟩ | ⟨hh, hfv⟩
            · rw [hfv] at FN
              have RLK : Hid (∀ u, Kept noBlock wr u → (Instr.lookup 27 (.map (some m')) (.string nm) true).run Try.prog u = .ok (.tuple #[.agg #[.string r0.name, .int .i64 r0.kind, .int .i64 r0.from_, .int .i64 r0.to_], .bool true]) u) := fun u k => by
                have h := MF.run_look2 (LV.out.keep k).tb nm hfitn
                rw [hh, ← hr0] at h
                exact h
              obtain ⟨g, o', rfl, _, dd⟩ := LV.out.lst.sw.la.elem (enc := RefV.cells) ref_len (by omega) hjr
              have d0 := dd 0 _ rfl
              rw [Nat.add_zero, hrn] at d0
              have CF : Hid (∀ u, Kept noBlock wr u → u.cell? ⟨S, 0, none⟩ = some (.slice (some ⟨g, o', none⟩) NL c5) ∧ u.cell? ⟨g, o' + j * 4, none⟩ = some (.string nm)) := fun u k => ⟨(CE.out u k).1, k.cell d0 (fun h => h)⟩
              have hjN : j < NL := by rw [HNL.out]; exact hj
              have hcN : NL ≤ c5 := by rw [HNL.out]; exact LV.out.lst.sw.ca
              have hj0 : decide ((j : Int) ≥ 0) = true := decide_eq_true (by omega)
              have hj1 : decide ((0 : Int) ≤ (j : Int)) = true := decide_eq_true (by omega)
              clear dd d0 hjr hj hfv hrn hh hr0 hfitn hnm
              go_upto_region 25 with (fail)
              refine wp_region_noPanic ?_
              refine wp_region_held_drew (S := fun u => u.cell? ⟨S, 0, none⟩ = some (.slice (some ⟨g, o', none⟩) NL c5) ∧ u.cell? ⟨S, 1, none⟩ = some (.int .i64 z)) (by kernel_rfl) (CE.out _ KC.out) (fun hHeld => ?_)
              refine wpAnyH_take (i := 0) (oi := ⟨some 86, Op.load 26 (Operand.tmp 3), 26, _, _, none⟩) (v := ?v0n1k1) rfl (by kernel_rfl) (by kernel_rfl) (by kernel_rfl) (fun _ _ _ h => h) (Or.inl ⟨by rfl, ?y0n1k1⟩) hHeld ?z0n1k1
              case y0n1k1 => intro w hSw; (try dsimp only at hSw); go_simp <;> rfl
              try simp only [Act.put, List.setIfInBounds_toArray, List.set_cons_zero, List.set_cons_succ]
              refine wpAnyH_take (i := 1) (oi := ⟨some 87, Op.move (Operand.tmp 15), 5, _, _, none⟩) (v := ?v1n1k2) rfl (by kernel_rfl) (by kernel_rfl) (by kernel_rfl) (fun _ _ _ h => h) (Or.inl ⟨by rfl, ?y1n1k2⟩) hHeld ?z1n1k2
              case y1n1k2 => intro w hSw; (try dsimp only at hSw); go_simp <;> rfl
              try simp only [Act.put, List.setIfInBounds_toArray, List.set_cons_zero, List.set_cons_succ]
              refine wpAnyH_ready (rs := [2]) (by kernel_rfl) (by simp) ?_
              refine AllReadyH.cons (o := ⟨some 88, Op.call { callee := Callee.value (Operand.func 19), args := #[Operand.tmp 87], argTypes := #[5] }, 9, _, _, none⟩) rfl (fun K hK => ?_) AllReadyH.nil
              go_simp
              refine (LNM.out _).mono ?_
              rintro en u2 ⟨rfl, rfl⟩
              dsimp only
              refine hK.out _ _ (CE.out _ KC.out) (fun hHeld => ?_)
              clear hK K
              try simp only [Act.put, List.setIfInBounds_toArray, List.set_cons_zero, List.set_cons_succ]
              refine wpAnyH_ready (rs := [3]) (by kernel_rfl) (by simp) ?_
              refine AllReadyH.cons (o := ⟨some 89, Op.call { callee := Callee.value (Operand.func 18), args := #[Operand.tmp 86, Operand.tmp 88], argTypes := #[26, 9] }, 3, _, _, none⟩) rfl (fun K hK => ?_) AllReadyH.nil
              go_simp
              refine (FN.out _ KC.out).mono ?_
              rintro en u3 ⟨rfl, k3⟩
              replace KC := Lib.hid (KC.out.step k3)
              clear k3
              dsimp only
              refine hK.out _ _ (CE.out _ KC.out) (fun hHeld => ?_)
              clear hK K
              try simp only [Act.put, List.setIfInBounds_toArray, List.set_cons_zero, List.set_cons_succ]
              refine wpAnyH_take (i := 4) (oi := ⟨some 16, Op.assign (Operand.tmp 89), 3, _, _, none⟩) (v := ?v4n1k3) rfl (by kernel_rfl) (by kernel_rfl) (by kernel_rfl) (fun _ _ _ h => h) (Or.inl ⟨by rfl, ?y4n1k3⟩) hHeld ?z4n1k3
              case y4n1k3 => intro w hSw; (try dsimp only at hSw); go_simp <;> rfl
              try simp only [Act.put, List.setIfInBounds_toArray, List.set_cons_zero, List.set_cons_succ]
              refine wpAnyH_done (by kernel_rfl) ?_ _
              refine NoPanic.normal ?_
              clear hHeld
              go_wp2_with fail
              refine (LNM.out _).mono ?_
              rintro en v3 ⟨rfl, rfl⟩
              have hlk := RLK.out _ KC.out
              have ka := Kept.alloc noBlock u3 (.cells #[.string r0.name, .int .i64 r0.kind, .int .i64 r0.from_, .int .i64 r0.to_] 31)
              go_upto_region 27 with (fail)
              generalize u3.alloc (.cells #[.string r0.name, .int .i64 r0.kind, .int .i64 r0.from_, .int .i64 r0.to_] 31) = v4 at ka ⊢
              have KV : Hid (Kept noBlock wr v4) := KC.out.step ka
              have KC : Hid (Kept noBlock wr v4.drew) := KV.out.step (Kept.drew _ _)
              clear hlk ka FN RLK
              refine wp_region_noPanic ?_
              refine wp_region_held_drew (S := fun u => u.cell? ⟨S, 0, none⟩ = some (.slice (some ⟨g, o', none⟩) NL c5) ∧ u.cell? ⟨g, o' + j * 4, none⟩ = some (.string nm)) (by kernel_rfl) (CF.out _ KC.out) (fun hHeld => ?_)
              refine wpAnyH_take (i := 0) (oi := ⟨some 97, Op.move (Operand.tmp 18), 4, _, _, none⟩) (v := ?v0n2k1) rfl (by kernel_rfl) (by kernel_rfl) (by kernel_rfl) (fun _ _ _ h => h) (Or.inl ⟨by rfl, ?y0n2k1⟩) hHeld ?z0n2k1
              case y0n2k1 => intro w hSw; (try dsimp only at hSw); go_simp <;> rfl
              try simp only [Act.put, List.setIfInBounds_toArray, List.set_cons_zero, List.set_cons_succ]
              refine wpAnyH_take (i := 1) (oi := ⟨some 98, Op.move (Operand.tmp 16), 3, _, _, none⟩) (v := ?v1n2k2) rfl (by kernel_rfl) (by kernel_rfl) (by kernel_rfl) (fun _ _ _ h => h) (Or.inl ⟨by rfl, ?y1n2k2⟩) hHeld ?z1n2k2
              case y1n2k2 => intro w hSw; (try dsimp only at hSw); go_simp <;> rfl
              try simp only [Act.put, List.setIfInBounds_toArray, List.set_cons_zero, List.set_cons_succ]
              refine wpAnyH_take (i := 2) (oi := ⟨some 99, Op.binOp BinOp.geq 3 (Operand.tmp 98) (Operand.const (Value.int IntKind.i64 0)) 3, 4, _, _, none⟩) (v := ?v2n2k3) rfl (by kernel_rfl) (by kernel_rfl) (by kernel_rfl) (fun _ _ _ h => h) (Or.inl ⟨by rfl, ?y2n2k3⟩) hHeld ?z2n2k3
              case y2n2k3 => intro w hSw; (try dsimp only at hSw); go_simp <;> rfl
              try simp only [Act.put, List.setIfInBounds_toArray, List.set_cons_zero, List.set_cons_succ]
              refine wpAnyH_take (i := 3) (oi := ⟨some 100, Op.binOp BinOp.neq 4 (Operand.tmp 97) (Operand.tmp 99) 4, 4, _, _, none⟩) (v := ?v3n2k4) rfl (by kernel_rfl) (by kernel_rfl) (by kernel_rfl) (fun _ _ _ h => h) (Or.inl ⟨by rfl, ?y3n2k4⟩) hHeld ?z3n2k4
              case y3n2k4 => intro w hSw; (try dsimp only at hSw); go_simp <;> rfl
              try simp only [Act.put, List.setIfInBounds_toArray, List.set_cons_zero, List.set_cons_succ]
              refine wpAnyH_take (i := 4) (oi := ⟨some 101, Op.move (Operand.tmp 100), 4, _, _, none⟩) (v := ?v4n2k5) rfl (by kernel_rfl) (by kernel_rfl) (by kernel_rfl) (fun _ _ _ h => h) (Or.inl ⟨by rfl, ?y4n2k5⟩) hHeld ?z4n2k5
              case y4n2k5 => intro w hSw; (try dsimp only at hSw); go_simp <;> rfl
              try simp only [Act.put, List.setIfInBounds_toArray, List.set_cons_zero, List.set_cons_succ]
              refine wpAnyH_take (i := 5) (oi := ⟨some 102, Op.move (Operand.tmp 18), 4, _, _, some (4, false)⟩) (v := ?v5n2k6) rfl (by kernel_rfl) (by kernel_rfl) (by kernel_rfl) (fun _ _ _ h => h) (Or.inl ⟨by rfl, ?y5n2k6⟩) hHeld ?z5n2k6
              case y5n2k6 => intro w hSw; (try dsimp only at hSw); go_simp <;> rfl
              try simp only [Act.put, List.setIfInBounds_toArray, List.set_cons_zero, List.set_cons_succ]
              refine wpAnyH_take (i := 6) (oi := ⟨some 103, Op.move (Operand.tmp 102), 4, _, _, some (4, false)⟩) (v := ?v6n2k7) rfl (by kernel_rfl) (by kernel_rfl) (by kernel_rfl) (fun _ _ _ h => h) (Or.inl ⟨by rfl, ?y6n2k7⟩) hHeld ?z6n2k7
              case y6n2k7 => intro w hSw; (try dsimp only at hSw); go_simp <;> rfl
              try simp only [Act.put, List.setIfInBounds_toArray, List.set_cons_zero, List.set_cons_succ]
              refine wpAnyH_take (i := 7) (oi := ⟨some 104, Op.fieldAddr 26 (Operand.tmp 3) 0, 0, _, _, some (6, true)⟩) (v := ?v7n2k8) rfl (by kernel_rfl) (by kernel_rfl) (by kernel_rfl) (fun _ _ _ h => h) (Or.inl ⟨by rfl, ?y7n2k8⟩) hHeld ?z7n2k8
              case y7n2k8 => intro w hSw; (try dsimp only at hSw); go_simp <;> rfl
              try simp only [Act.put, List.setIfInBounds_toArray, List.set_cons_zero, List.set_cons_succ]
              refine wpAnyH_take (i := 8) (oi := ⟨some 105, Op.load 24 (Operand.tmp 104), 24, _, _, some (6, true)⟩) (v := ?v8n2k9) rfl (by kernel_rfl) (by kernel_rfl) (by kernel_rfl) (fun _ _ _ h => h) (Or.inl ⟨by rfl, ?y8n2k9⟩) hHeld ?z8n2k9
              case y8n2k9 => intro w hSw; (try dsimp only at hSw); go_simp <;> rfl
              try simp only [Act.put, List.setIfInBounds_toArray, List.set_cons_zero, List.set_cons_succ]
              refine wpAnyH_take (i := 9) (oi := ⟨some 106, Op.move (Operand.tmp 16), 3, _, _, some (6, true)⟩) (v := ?v9n2k10) rfl (by kernel_rfl) (by kernel_rfl) (by kernel_rfl) (fun _ _ _ h => h) (Or.inl ⟨by rfl, ?y9n2k10⟩) hHeld ?z9n2k10
              case y9n2k10 => intro w hSw; (try dsimp only at hSw); go_simp <;> rfl
              try simp only [Act.put, List.setIfInBounds_toArray, List.set_cons_zero, List.set_cons_succ]
              refine wpAnyH_take (i := 10) (oi := ⟨some 107, Op.indexAddr 24 (Operand.tmp 105) (Operand.tmp 106), 0, _, _, some (6, true)⟩) (v := ?v10n2k11) rfl (by kernel_rfl) (by kernel_rfl) (by kernel_rfl) (fun _ _ _ h => h) (Or.inl ⟨by rfl, ?y10n2k11⟩) hHeld ?z10n2k11
              case y10n2k11 => intro w hSw; (try dsimp only at hSw); go_simp <;> rfl
              try simp only [Act.put, List.setIfInBounds_toArray, List.set_cons_zero, List.set_cons_succ]
              refine wpAnyH_take (i := 11) (oi := ⟨some 108, Op.fieldAddr 31 (Operand.tmp 107) 0, 0, _, _, some (6, true)⟩) (v := ?v11n2k12) rfl (by kernel_rfl) (by kernel_rfl) (by kernel_rfl) (fun _ _ _ h => h) (Or.inl ⟨by rfl, ?y11n2k12⟩) hHeld ?z11n2k12
              case y11n2k12 => intro w hSw; (try dsimp only at hSw); go_simp <;> rfl
              try simp only [Act.put, List.setIfInBounds_toArray, List.set_cons_zero, List.set_cons_succ]
              refine wpAnyH_take (i := 12) (oi := ⟨some 109, Op.load 9 (Operand.tmp 108), 9, _, _, some (6, true)⟩) (v := ?v12n2k13) rfl (by kernel_rfl) (by kernel_rfl) (by kernel_rfl) (fun _ _ _ h => h) (Or.inl ⟨by rfl, ?y12n2k13⟩) hHeld ?z12n2k13
              case y12n2k13 => intro w hSw; (try dsimp only at hSw); go_simp <;> rfl
              try simp only [Act.put, List.setIfInBounds_toArray, List.set_cons_zero, List.set_cons_succ]
              refine wpAnyH_take (i := 13) (oi := ⟨some 110, Op.move (Operand.tmp 15), 5, _, _, some (6, true)⟩) (v := ?v13n2k14) rfl (by kernel_rfl) (by kernel_rfl) (by kernel_rfl) (fun _ _ _ h => h) (Or.inl ⟨by rfl, ?y13n2k14⟩) hHeld ?z13n2k14
              case y13n2k14 => intro w hSw; (try dsimp only at hSw); go_simp <;> rfl
              try simp only [Act.put, List.setIfInBounds_toArray, List.set_cons_zero, List.set_cons_succ]
              refine wpAnyH_ready (rs := [14]) (by kernel_rfl) (by simp) ?_
              refine AllReadyH.cons (o := ⟨some 111, Op.call { callee := Callee.value (Operand.func 19), args := #[Operand.tmp 110], argTypes := #[5] }, 9, _, _, some (6, true)⟩) rfl (fun K hK => ?_) AllReadyH.nil
              go_simp
              refine (LNM.out _).mono ?_
              rintro en u5 ⟨rfl, rfl⟩
              dsimp only
              refine hK.out _ _ (CF.out _ KC.out) (fun hHeld => ?_)
              clear hK K
              try simp only [Act.put, List.setIfInBounds_toArray, List.set_cons_zero, List.set_cons_succ]
              refine wpAnyH_take (i := 15) (oi := ⟨some 112, Op.binOp BinOp.neq 9 (Operand.tmp 109) (Operand.tmp 111) 9, 4, _, _, some (6, true)⟩) (v := ?v15n2k15) rfl (by kernel_rfl) (by kernel_rfl) (by kernel_rfl) (fun _ _ _ h => h) (Or.inl ⟨by rfl, ?y15n2k15⟩) hHeld ?z15n2k15
              case y15n2k15 => intro w hSw; (try dsimp only at hSw); go_simp <;> rfl
              try simp only [Act.put, List.setIfInBounds_toArray, List.set_cons_zero, List.set_cons_succ]
              refine wpAnyH_take (i := 16) (oi := ⟨some 113, Op.pick (Operand.tmp 103) (Operand.tmp 112) (Operand.const (Value.bool false)), 4, _, _, some (4, false)⟩) (v := ?v16n2k16) rfl (by kernel_rfl) (by kernel_rfl) (by kernel_rfl) (fun _ _ _ h => h) (Or.inl ⟨by rfl, ?y16n2k16⟩) hHeld ?z16n2k16
              case y16n2k16 => intro w hSw; (try dsimp only at hSw); go_simp <;> rfl
              try simp only [Act.put, List.setIfInBounds_toArray, List.set_cons_zero, List.set_cons_succ]
              refine wpAnyH_take (i := 17) (oi := ⟨some 114, Op.pick (Operand.tmp 101) (Operand.const (Value.bool true)) (Operand.tmp 113), 4, _, _, none⟩) (v := ?v17n2k17) rfl (by kernel_rfl) (by kernel_rfl) (by kernel_rfl) (fun _ _ _ h => h) (Or.inl ⟨by rfl, ?y17n2k17⟩) hHeld ?z17n2k17
              case y17n2k17 => intro w hSw; (try dsimp only at hSw); go_simp <;> rfl
              try simp only [Act.put, List.setIfInBounds_toArray, List.set_cons_zero, List.set_cons_succ]
              refine wpAnyH_take (i := 18) (oi := ⟨some 115, Op.move (Operand.tmp 114), 4, _, _, none⟩) (v := ?v18n2k18) rfl (by kernel_rfl) (by kernel_rfl) (by kernel_rfl) (fun _ _ _ h => h) (Or.inl ⟨by rfl, ?y18n2k18⟩) hHeld ?z18n2k18
              case y18n2k18 => intro w hSw; (try dsimp only at hSw); go_simp <;> rfl
              try simp only [Act.put, List.setIfInBounds_toArray, List.set_cons_zero, List.set_cons_succ]
              refine wpAnyH_take (i := 19) (oi := ⟨some 116, Op.move (Operand.tmp 18), 4, _, _, some (18, false)⟩) (v := ?v19n2k19) rfl (by kernel_rfl) (by kernel_rfl) (by kernel_rfl) (fun _ _ _ h => h) (Or.inl ⟨by rfl, ?y19n2k19⟩) hHeld ?z19n2k19
              case y19n2k19 => intro w hSw; (try dsimp only at hSw); go_simp <;> rfl
              try simp only [Act.put, List.setIfInBounds_toArray, List.set_cons_zero, List.set_cons_succ]
              refine wpAnyH_take (i := 20) (oi := ⟨some 117, Op.unOp UnOp.not 4 (Operand.tmp 116), 4, _, _, some (18, false)⟩) (v := ?v20n2k20) rfl (by kernel_rfl) (by kernel_rfl) (by kernel_rfl) (fun _ _ _ h => h) (Or.inl ⟨by rfl, ?y20n2k20⟩) hHeld ?z20n2k20
              case y20n2k20 => intro w hSw; (try dsimp only at hSw); go_simp <;> rfl
              try simp only [Act.put, List.setIfInBounds_toArray, List.set_cons_zero, List.set_cons_succ]
              refine wpAnyH_take (i := 21) (oi := ⟨some 118, Op.move (Operand.tmp 117), 4, _, _, some (18, false)⟩) (v := ?v21n2k21) rfl (by kernel_rfl) (by kernel_rfl) (by kernel_rfl) (fun _ _ _ h => h) (Or.inl ⟨by rfl, ?y21n2k21⟩) hHeld ?z21n2k21
              case y21n2k21 => intro w hSw; (try dsimp only at hSw); go_simp <;> rfl
              try simp only [Act.put, List.setIfInBounds_toArray, List.set_cons_zero, List.set_cons_succ]
              refine wpAnyH_take (i := 22) (oi := ⟨some 119, Op.move (Operand.tmp 16), 3, _, _, some (21, true)⟩) (v := undef) rfl (by kernel_rfl) (by kernel_rfl) (by kernel_rfl) (fun _ _ _ h => h) (Or.inr ⟨by rfl, rfl⟩) hHeld ?z22n2k22
              try simp only [Act.put, List.setIfInBounds_toArray, List.set_cons_zero, List.set_cons_succ]
              refine wpAnyH_take (i := 23) (oi := ⟨some 120, Op.binOp BinOp.neq 3 (Operand.tmp 119) (Operand.const (Value.int IntKind.i64 (-1))) 3, 4, _, _, some (21, true)⟩) (v := undef) rfl (by kernel_rfl) (by kernel_rfl) (by kernel_rfl) (fun _ _ _ h => h) (Or.inr ⟨by rfl, rfl⟩) hHeld ?z23n2k23
              try simp only [Act.put, List.setIfInBounds_toArray, List.set_cons_zero, List.set_cons_succ]
              refine wpAnyH_take (i := 24) (oi := ⟨some 121, Op.pick (Operand.tmp 118) (Operand.tmp 120) (Operand.const (Value.bool false)), 4, _, _, some (18, false)⟩) (v := ?v24n2k24) rfl (by kernel_rfl) (by kernel_rfl) (by kernel_rfl) (fun _ _ _ h => h) (Or.inl ⟨by rfl, ?y24n2k24⟩) hHeld ?z24n2k24
              case y24n2k24 => intro w hSw; (try dsimp only at hSw); go_simp <;> rfl
              try simp only [Act.put, List.setIfInBounds_toArray, List.set_cons_zero, List.set_cons_succ]
              refine wpAnyH_take (i := 25) (oi := ⟨some 122, Op.pick (Operand.tmp 115) (Operand.const (Value.bool true)) (Operand.tmp 121), 4, _, _, none⟩) (v := ?v25n2k25) rfl (by kernel_rfl) (by kernel_rfl) (by kernel_rfl) (fun _ _ _ h => h) (Or.inl ⟨by rfl, ?y25n2k25⟩) hHeld ?z25n2k25
              case y25n2k25 => intro w hSw; (try dsimp only at hSw); go_simp <;> rfl
              try simp only [Act.put, List.setIfInBounds_toArray, List.set_cons_zero, List.set_cons_succ]
              refine wpAnyH_done (by kernel_rfl) ?_ _
              refine NoPanic.normal ?_
              clear hHeld
              go_wp2
              go_roundw
              case rel => exact ⟨q + 1, by omega, by go_num, HQ.out.step KC.out⟩
              case measure => simp [intOf]; omega
            · rw [hfv] at FN
              have RLK : Hid (∀ u, Kept noBlock wr u → (Instr.lookup 27 (.map (some m')) (.string nm) true).run Try.prog u = .ok (.tuple #[.agg #[.string r0.name, .int .i64 r0.kind, .int .i64 r0.from_, .int .i64 r0.to_], .bool false]) u) := fun u k => by
                have h := MF.run_look2 (LV.out.keep k).tb nm hfitn
                rw [hh, ← hr0] at h
                exact h
              clear hfv hh hr0 hfitn hnm
              go_upto_region 25 with (fail)
              refine wp_region_noPanic ?_
              refine wp_region_held_drew (S := fun u => u.cell? ⟨S, 0, none⟩ = some (.slice A5 NL c5) ∧ u.cell? ⟨S, 1, none⟩ = some (.int .i64 z)) (by kernel_rfl) (CE.out _ KC.out) (fun hHeld => ?_)
              refine wpAnyH_take (i := 0) (oi := ⟨some 86, Op.load 26 (Operand.tmp 3), 26, _, _, none⟩) (v := ?v0n3k1) rfl (by kernel_rfl) (by kernel_rfl) (by kernel_rfl) (fun _ _ _ h => h) (Or.inl ⟨by rfl, ?y0n3k1⟩) hHeld ?z0n3k1
              case y0n3k1 => intro w hSw; (try dsimp only at hSw); go_simp <;> rfl
              try simp only [Act.put, List.setIfInBounds_toArray, List.set_cons_zero, List.set_cons_succ]
              refine wpAnyH_take (i := 1) (oi := ⟨some 87, Op.move (Operand.tmp 15), 5, _, _, none⟩) (v := ?v1n3k2) rfl (by kernel_rfl) (by kernel_rfl) (by kernel_rfl) (fun _ _ _ h => h) (Or.inl ⟨by rfl, ?y1n3k2⟩) hHeld ?z1n3k2
              case y1n3k2 => intro w hSw; (try dsimp only at hSw); go_simp <;> rfl
              try simp only [Act.put, List.setIfInBounds_toArray, List.set_cons_zero, List.set_cons_succ]
              refine wpAnyH_ready (rs := [2]) (by kernel_rfl) (by simp) ?_
              refine AllReadyH.cons (o := ⟨some 88, Op.call { callee := Callee.value (Operand.func 19), args := #[Operand.tmp 87], argTypes := #[5] }, 9, _, _, none⟩) rfl (fun K hK => ?_) AllReadyH.nil
              go_simp
              refine (LNM.out _).mono ?_
              rintro en u2 ⟨rfl, rfl⟩
              dsimp only
              refine hK.out _ _ (CE.out _ KC.out) (fun hHeld => ?_)
              clear hK K
              try simp only [Act.put, List.setIfInBounds_toArray, List.set_cons_zero, List.set_cons_succ]
              refine wpAnyH_ready (rs := [3]) (by kernel_rfl) (by simp) ?_
              refine AllReadyH.cons (o := ⟨some 89, Op.call { callee := Callee.value (Operand.func 18), args := #[Operand.tmp 86, Operand.tmp 88], argTypes := #[26, 9] }, 3, _, _, none⟩) rfl (fun K hK => ?_) AllReadyH.nil
              go_simp
              refine (FN.out _ KC.out).mono ?_
              rintro en u3 ⟨rfl, k3⟩
              replace KC := Lib.hid (KC.out.step k3)
              clear k3
              dsimp only
              refine hK.out _ _ (CE.out _ KC.out) (fun hHeld => ?_)
              clear hK K
              try simp only [Act.put, List.setIfInBounds_toArray, List.set_cons_zero, List.set_cons_succ]
              refine wpAnyH_take (i := 4) (oi := ⟨some 16, Op.assign (Operand.tmp 89), 3, _, _, none⟩) (v := ?v4n3k3) rfl (by kernel_rfl) (by kernel_rfl) (by kernel_rfl) (fun _ _ _ h => h) (Or.inl ⟨by rfl, ?y4n3k3⟩) hHeld ?z4n3k3
              case y4n3k3 => intro w hSw; (try dsimp only at hSw); go_simp <;> rfl
              try simp only [Act.put, List.setIfInBounds_toArray, List.set_cons_zero, List.set_cons_succ]
              refine wpAnyH_done (by kernel_rfl) ?_ _
              refine NoPanic.normal ?_
              clear hHeld
              go_wp2_with fail
              refine (LNM.out _).mono ?_
              rintro en v3 ⟨rfl, rfl⟩
              have hlk := RLK.out _ KC.out
              have ka := Kept.alloc noBlock u3 (.cells #[.string r0.name, .int .i64 r0.kind, .int .i64 r0.from_, .int .i64 r0.to_] 31)
              go_upto_region 27 with (fail)
              generalize u3.alloc (.cells #[.string r0.name, .int .i64 r0.kind, .int .i64 r0.from_, .int .i64 r0.to_] 31) = v4 at ka ⊢
              have KV : Hid (Kept noBlock wr v4) := KC.out.step ka
              have KC : Hid (Kept noBlock wr v4.drew) := KV.out.step (Kept.drew _ _)
              clear hlk ka FN RLK
              refine wp_region_noPanic ?_
              refine wp_region_held_drew (S := fun _ => True) (by kernel_rfl) trivial (fun hHeld => ?_)
              refine wpAnyH_take (i := 0) (oi := ⟨some 97, Op.move (Operand.tmp 18), 4, _, _, none⟩) (v := ?v0n4k1) rfl (by kernel_rfl) (by kernel_rfl) (by kernel_rfl) (fun _ _ _ h => h) (Or.inl ⟨by rfl, ?y0n4k1⟩) hHeld ?z0n4k1
              case y0n4k1 => intro w hSw; (try dsimp only at hSw); go_simp <;> rfl
              try simp only [Act.put, List.setIfInBounds_toArray, List.set_cons_zero, List.set_cons_succ]
              refine wpAnyH_take (i := 1) (oi := ⟨some 98, Op.move (Operand.tmp 16), 3, _, _, none⟩) (v := ?v1n4k2) rfl (by kernel_rfl) (by kernel_rfl) (by kernel_rfl) (fun _ _ _ h => h) (Or.inl ⟨by rfl, ?y1n4k2⟩) hHeld ?z1n4k2
              case y1n4k2 => intro w hSw; (try dsimp only at hSw); go_simp <;> rfl
              try simp only [Act.put, List.setIfInBounds_toArray, List.set_cons_zero, List.set_cons_succ]
              refine wpAnyH_take (i := 2) (oi := ⟨some 99, Op.binOp BinOp.geq 3 (Operand.tmp 98) (Operand.const (Value.int IntKind.i64 0)) 3, 4, _, _, none⟩) (v := ?v2n4k3) rfl (by kernel_rfl) (by kernel_rfl) (by kernel_rfl) (fun _ _ _ h => h) (Or.inl ⟨by rfl, ?y2n4k3⟩) hHeld ?z2n4k3
              case y2n4k3 => intro w hSw; (try dsimp only at hSw); go_simp <;> rfl
              try simp only [Act.put, List.setIfInBounds_toArray, List.set_cons_zero, List.set_cons_succ]
              refine wpAnyH_take (i := 3) (oi := ⟨some 100, Op.binOp BinOp.neq 4 (Operand.tmp 97) (Operand.tmp 99) 4, 4, _, _, none⟩) (v := ?v3n4k4) rfl (by kernel_rfl) (by kernel_rfl) (by kernel_rfl) (fun _ _ _ h => h) (Or.inl ⟨by rfl, ?y3n4k4⟩) hHeld ?z3n4k4
              case y3n4k4 => intro w hSw; (try dsimp only at hSw); go_simp <;> rfl
              try simp only [Act.put, List.setIfInBounds_toArray, List.set_cons_zero, List.set_cons_succ]
              refine wpAnyH_take (i := 4) (oi := ⟨some 101, Op.move (Operand.tmp 100), 4, _, _, none⟩) (v := ?v4n4k5) rfl (by kernel_rfl) (by kernel_rfl) (by kernel_rfl) (fun _ _ _ h => h) (Or.inl ⟨by rfl, ?y4n4k5⟩) hHeld ?z4n4k5
              case y4n4k5 => intro w hSw; (try dsimp only at hSw); go_simp <;> rfl
              try simp only [Act.put, List.setIfInBounds_toArray, List.set_cons_zero, List.set_cons_succ]
              refine wpAnyH_take (i := 5) (oi := ⟨some 102, Op.move (Operand.tmp 18), 4, _, _, some (4, false)⟩) (v := ?v5n4k6) rfl (by kernel_rfl) (by kernel_rfl) (by kernel_rfl) (fun _ _ _ h => h) (Or.inl ⟨by rfl, ?y5n4k6⟩) hHeld ?z5n4k6
              case y5n4k6 => intro w hSw; (try dsimp only at hSw); go_simp <;> rfl
              try simp only [Act.put, List.setIfInBounds_toArray, List.set_cons_zero, List.set_cons_succ]
              refine wpAnyH_take (i := 6) (oi := ⟨some 103, Op.move (Operand.tmp 102), 4, _, _, some (4, false)⟩) (v := ?v6n4k7) rfl (by kernel_rfl) (by kernel_rfl) (by kernel_rfl) (fun _ _ _ h => h) (Or.inl ⟨by rfl, ?y6n4k7⟩) hHeld ?z6n4k7
              case y6n4k7 => intro w hSw; (try dsimp only at hSw); go_simp <;> rfl
              try simp only [Act.put, List.setIfInBounds_toArray, List.set_cons_zero, List.set_cons_succ]
              refine wpAnyH_take (i := 7) (oi := ⟨some 104, Op.fieldAddr 26 (Operand.tmp 3) 0, 0, _, _, some (6, true)⟩) (v := undef) rfl (by kernel_rfl) (by kernel_rfl) (by kernel_rfl) (fun _ _ _ h => h) (Or.inr ⟨by rfl, rfl⟩) hHeld ?z7n4k8
              try simp only [Act.put, List.setIfInBounds_toArray, List.set_cons_zero, List.set_cons_succ]
              refine wpAnyH_take (i := 8) (oi := ⟨some 105, Op.load 24 (Operand.tmp 104), 24, _, _, some (6, true)⟩) (v := undef) rfl (by kernel_rfl) (by kernel_rfl) (by kernel_rfl) (fun _ _ _ h => h) (Or.inr ⟨by rfl, rfl⟩) hHeld ?z8n4k9
              try simp only [Act.put, List.setIfInBounds_toArray, List.set_cons_zero, List.set_cons_succ]
              refine wpAnyH_take (i := 9) (oi := ⟨some 106, Op.move (Operand.tmp 16), 3, _, _, some (6, true)⟩) (v := undef) rfl (by kernel_rfl) (by kernel_rfl) (by kernel_rfl) (fun _ _ _ h => h) (Or.inr ⟨by rfl, rfl⟩) hHeld ?z9n4k10
              try simp only [Act.put, List.setIfInBounds_toArray, List.set_cons_zero, List.set_cons_succ]
              refine wpAnyH_take (i := 10) (oi := ⟨some 107, Op.indexAddr 24 (Operand.tmp 105) (Operand.tmp 106), 0, _, _, some (6, true)⟩) (v := undef) rfl (by kernel_rfl) (by kernel_rfl) (by kernel_rfl) (fun _ _ _ h => h) (Or.inr ⟨by rfl, rfl⟩) hHeld ?z10n4k11
              try simp only [Act.put, List.setIfInBounds_toArray, List.set_cons_zero, List.set_cons_succ]
              refine wpAnyH_take (i := 11) (oi := ⟨some 108, Op.fieldAddr 31 (Operand.tmp 107) 0, 0, _, _, some (6, true)⟩) (v := undef) rfl (by kernel_rfl) (by kernel_rfl) (by kernel_rfl) (fun _ _ _ h => h) (Or.inr ⟨by rfl, rfl⟩) hHeld ?z11n4k12
              try simp only [Act.put, List.setIfInBounds_toArray, List.set_cons_zero, List.set_cons_succ]
              refine wpAnyH_take (i := 12) (oi := ⟨some 109, Op.load 9 (Operand.tmp 108), 9, _, _, some (6, true)⟩) (v := undef) rfl (by kernel_rfl) (by kernel_rfl) (by kernel_rfl) (fun _ _ _ h => h) (Or.inr ⟨by rfl, rfl⟩) hHeld ?z12n4k13
              try simp only [Act.put, List.setIfInBounds_toArray, List.set_cons_zero, List.set_cons_succ]
              refine wpAnyH_take (i := 13) (oi := ⟨some 110, Op.move (Operand.tmp 15), 5, _, _, some (6, true)⟩) (v := undef) rfl (by kernel_rfl) (by kernel_rfl) (by kernel_rfl) (fun _ _ _ h => h) (Or.inr ⟨by rfl, rfl⟩) hHeld ?z13n4k14
              try simp only [Act.put, List.setIfInBounds_toArray, List.set_cons_zero, List.set_cons_succ]
              refine wpAnyH_take (i := 14) (oi := ⟨some 111, Op.call { callee := Callee.value (Operand.func 19), args := #[Operand.tmp 110], argTypes := #[5] }, 9, _, _, some (6, true)⟩) (v := undef) rfl (by kernel_rfl) (by kernel_rfl) (by kernel_rfl) (fun _ _ _ h => h) (Or.inr ⟨by rfl, rfl⟩) hHeld ?z14n4k15
              try simp only [Act.put, List.setIfInBounds_toArray, List.set_cons_zero, List.set_cons_succ]
              refine wpAnyH_take (i := 15) (oi := ⟨some 112, Op.binOp BinOp.neq 9 (Operand.tmp 109) (Operand.tmp 111) 9, 4, _, _, some (6, true)⟩) (v := undef) rfl (by kernel_rfl) (by kernel_rfl) (by kernel_rfl) (fun _ _ _ h => h) (Or.inr ⟨by rfl, rfl⟩) hHeld ?z15n4k16
              try simp only [Act.put, List.setIfInBounds_toArray, List.set_cons_zero, List.set_cons_succ]
              refine wpAnyH_take (i := 16) (oi := ⟨some 113, Op.pick (Operand.tmp 103) (Operand.tmp 112) (Operand.const (Value.bool false)), 4, _, _, some (4, false)⟩) (v := ?v16n4k17) rfl (by kernel_rfl) (by kernel_rfl) (by kernel_rfl) (fun _ _ _ h => h) (Or.inl ⟨by rfl, ?y16n4k17⟩) hHeld ?z16n4k17
              case y16n4k17 => intro w hSw; (try dsimp only at hSw); go_simp <;> rfl
              try simp only [Act.put, List.setIfInBounds_toArray, List.set_cons_zero, List.set_cons_succ]
              refine wpAnyH_take (i := 17) (oi := ⟨some 114, Op.pick (Operand.tmp 101) (Operand.const (Value.bool true)) (Operand.tmp 113), 4, _, _, none⟩) (v := ?v17n4k18) rfl (by kernel_rfl) (by kernel_rfl) (by kernel_rfl) (fun _ _ _ h => h) (Or.inl ⟨by rfl, ?y17n4k18⟩) hHeld ?z17n4k18
              case y17n4k18 => intro w hSw; (try dsimp only at hSw); go_simp <;> rfl
              try simp only [Act.put, List.setIfInBounds_toArray, List.set_cons_zero, List.set_cons_succ]
              refine wpAnyH_take (i := 18) (oi := ⟨some 115, Op.move (Operand.tmp 114), 4, _, _, none⟩) (v := ?v18n4k19) rfl (by kernel_rfl) (by kernel_rfl) (by kernel_rfl) (fun _ _ _ h => h) (Or.inl ⟨by rfl, ?y18n4k19⟩) hHeld ?z18n4k19
              case y18n4k19 => intro w hSw; (try dsimp only at hSw); go_simp <;> rfl
              try simp only [Act.put, List.setIfInBounds_toArray, List.set_cons_zero, List.set_cons_succ]
              refine wpAnyH_take (i := 19) (oi := ⟨some 116, Op.move (Operand.tmp 18), 4, _, _, some (18, false)⟩) (v := ?v19n4k20) rfl (by kernel_rfl) (by kernel_rfl) (by kernel_rfl) (fun _ _ _ h => h) (Or.inl ⟨by rfl, ?y19n4k20⟩) hHeld ?z19n4k20
              case y19n4k20 => intro w hSw; (try dsimp only at hSw); go_simp <;> rfl
              try simp only [Act.put, List.setIfInBounds_toArray, List.set_cons_zero, List.set_cons_succ]
              refine wpAnyH_take (i := 20) (oi := ⟨some 117, Op.unOp UnOp.not 4 (Operand.tmp 116), 4, _, _, some (18, false)⟩) (v := ?v20n4k21) rfl (by kernel_rfl) (by kernel_rfl) (by kernel_rfl) (fun _ _ _ h => h) (Or.inl ⟨by rfl, ?y20n4k21⟩) hHeld ?z20n4k21
              case y20n4k21 => intro w hSw; (try dsimp only at hSw); go_simp <;> rfl
              try simp only [Act.put, List.setIfInBounds_toArray, List.set_cons_zero, List.set_cons_succ]
              refine wpAnyH_take (i := 21) (oi := ⟨some 118, Op.move (Operand.tmp 117), 4, _, _, some (18, false)⟩) (v := ?v21n4k22) rfl (by kernel_rfl) (by kernel_rfl) (by kernel_rfl) (fun _ _ _ h => h) (Or.inl ⟨by rfl, ?y21n4k22⟩) hHeld ?z21n4k22
              case y21n4k22 => intro w hSw; (try dsimp only at hSw); go_simp <;> rfl
              try simp only [Act.put, List.setIfInBounds_toArray, List.set_cons_zero, List.set_cons_succ]
              refine wpAnyH_take (i := 22) (oi := ⟨some 119, Op.move (Operand.tmp 16), 3, _, _, some (21, true)⟩) (v := ?v22n4k23) rfl (by kernel_rfl) (by kernel_rfl) (by kernel_rfl) (fun _ _ _ h => h) (Or.inl ⟨by rfl, ?y22n4k23⟩) hHeld ?z22n4k23
              case y22n4k23 => intro w hSw; (try dsimp only at hSw); go_simp <;> rfl
              try simp only [Act.put, List.setIfInBounds_toArray, List.set_cons_zero, List.set_cons_succ]
              refine wpAnyH_take (i := 23) (oi := ⟨some 120, Op.binOp BinOp.neq 3 (Operand.tmp 119) (Operand.const (Value.int IntKind.i64 (-1))) 3, 4, _, _, some (21, true)⟩) (v := ?v23n4k24) rfl (by kernel_rfl) (by kernel_rfl) (by kernel_rfl) (fun _ _ _ h => h) (Or.inl ⟨by rfl, ?y23n4k24⟩) hHeld ?z23n4k24
              case y23n4k24 => intro w hSw; (try dsimp only at hSw); go_simp <;> rfl
              try simp only [Act.put, List.setIfInBounds_toArray, List.set_cons_zero, List.set_cons_succ]
              refine wpAnyH_take (i := 24) (oi := ⟨some 121, Op.pick (Operand.tmp 118) (Operand.tmp 120) (Operand.const (Value.bool false)), 4, _, _, some (18, false)⟩) (v := ?v24n4k25) rfl (by kernel_rfl) (by kernel_rfl) (by kernel_rfl) (fun _ _ _ h => h) (Or.inl ⟨by rfl, ?y24n4k25⟩) hHeld ?z24n4k25
              case y24n4k25 => intro w hSw; (try dsimp only at hSw); go_simp <;> rfl
              try simp only [Act.put, List.setIfInBounds_toArray, List.set_cons_zero, List.set_cons_succ]
              refine wpAnyH_take (i := 25) (oi := ⟨some 122, Op.pick (Operand.tmp 115) (Operand.const (Value.bool true)) (Operand.tmp 121), 4, _, _, none⟩) (v := ?v25n4k26) rfl (by kernel_rfl) (by kernel_rfl) (by kernel_rfl) (fun _ _ _ h => h) (Or.inl ⟨by rfl, ?y25n4k26⟩) hHeld ?z25n4k26
              case y25n4k26 => intro w hSw; (try dsimp only at hSw); go_simp <;> rfl
              try simp only [Act.put, List.setIfInBounds_toArray, List.set_cons_zero, List.set_cons_succ]
              refine wpAnyH_done (by kernel_rfl) ?_ _
              refine NoPanic.normal ?_
              clear hHeld
              go_wp2
              go_roundw
              case rel => exact ⟨q + 1, by omega, by go_num, HQ.out.step KC.out⟩
              case measure => simp [intOf]; omega
          · obtain rfl : q = 8 := by omega
            go_wp2
            go_roundw
            case rel => exact ⟨k + 1, N', z, A5, c5, m', B9, bl', c9, bs ++ [e.bytes], by omega, by go_num, rfl, rfl, L1.out.keep HQ.out⟩
            case measure => simp [intOf]; omega
      · obtain rfl := hdf2 hr0
        obtain rfl := hfail hr0
        have hr1 : (r == 0) = false := by simpa using hr0
        have hr2 : (r != 0) = true := by simp [bne, hr1]
        have LN := Lib.hid (L6.out.more (k' := k + 1) (by omega))
        clear hlen hgood hfloor hdf HOK HMV hdf2 hfail
        go_wp2
        go_roundw
        case rel => exact ⟨k + 1, N, f, A, c, mb, B, bl, bc, bs, by omega, by go_num, rfl, rfl, LN⟩
        case measure => simp [intOf]; omega
    · obtain rfl : k = M := by omega
      obtain ⟨hp1, hp2⟩ := parted_joined LS.out.fit
      have RP := replay_any (fun _ => True) B bl bc (joined bs) wr (Lies.of_rows LS.out.own (fun _ _ => trivial)) LS.out.len (by omega) bs [] hp1 hp2
      unfold replR setv at RP
      rw [LS.out.rep] at RP
      simp only [LS.out.len] at RP
      have RP := Lib.hid RP
      have hff : (f == f) = true := by simp
      have hbb : ((bl : Int) == (bl : Int)) = true := by simp
      clear hp1 hp2 hlt
      go_wp2_with fail
      refine RP.out.mono ?_
      rintro en w5 ⟨A5, c5, rfl, o5, k5⟩
      have ka := Kept.alloc noBlock w5 (.cells #[.slice A5 N.length c5, .int .i64 f] 26)
      have ha := heap_alloc_new w5 (.cells #[.slice A5 N.length c5, .int .i64 f] 26)
      go_upto_region 31 with (fail)
      obtain ⟨X, hX⟩ : ∃ X, X = w5.heap.size := ⟨_, rfl⟩
      rw [← hX] at ha ⊢
      generalize w5.alloc (.cells #[.slice A5 N.length c5, .int .i64 f] 26) = u6 at ka ha ⊢
      have L6 := Lib.hid (LS.out.keep (k5.step ka))
      have SX : Sw u6 (fun _ => True) N A5 c5 := Sw.of_own (own_keep o5 ka (fun _ _ h => h)) rfl (fun _ _ => trivial)
      have SH := shows_any10 (fun _ => True) mb N f A5 c5 u6 L6.out.tb SX L6.out.lst.good (by omega)
      unfold setv at SH
      have SH := Lib.hid SH
      obtain ⟨x0, x1⟩ := two_cells ha
      obtain ⟨s0, s1⟩ := two_cells L6.out.lst.blk
      clear ka ha k5 o5 SX hX RP LS
      go_wp2_with fail
      refine SH.out.mono ?_
      rintro en w7 ⟨rfl, k7⟩
      have KZ := Lib.hid (L6.out.lst.kept.step k7)
      clear k7 SH x0 x1 s0 s1 L6
      go_wp2
      go_ret
      exact ⟨rfl, KZ.out⟩
end Go.Proofs.Ytjijdkdpmbfdmaa
