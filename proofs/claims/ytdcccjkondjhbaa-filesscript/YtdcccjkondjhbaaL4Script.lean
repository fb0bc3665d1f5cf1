/-
  FilesScript: what it does with whatever deeds. No statement is proved here.
-/
import Derived.Test.YtdcccjkondjhbaaL4Both
import Derived.Deep.CutBlock
namespace Go.Proofs.Ytdcccjkondjhbaa
open Go.RowKit Go.Maps

/-- 'len(m)' of a map of names. -/
theorem Nm.mapLen {w : World} {b : Nat} {N : Dir} (h : Nm w (some b) N) (ty : TypeId) : (Builtin.len_ #[27] ty #[.map (some b)]).run Try.prog w = .ok (.int .i64 (N.length : Int)) w := by
  have hr := World.ownsMap.len h Try.underlying27 ty
  rw [Dir.enc_size] at hr
  exact hr
theorem six_len {s : List UInt8} (h : s ∈ six) : s.length ≤ maxLen := by
  have : s.length ≤ 2 := by
    revert h
    unfold six
    simp only [List.mem_cons, List.not_mem_nil, or_false]
    rintro (rfl | rfl | rfl | rfl | rfl | rfl) <;> simp
  unfold maxLen
  omega
theorem Md.cell5 {w : World} {G K : Nat → Prop} {m : Nat} {S : St} {g : Nat → Nat} (h : Md w G m S g K) : ∃ stop, w.cell? ⟨m, 5, none⟩ = some (.int .i64 stop) ∧ w.frozen? ⟨m, 5, none⟩ = false := by
  obtain ⟨stop, mn, mk, A, c, A', c', xs, ys, h⟩ := h
  have hb := h.blk
  unfold mcells at hb
  exact ⟨stop, cell_of_row _ _ _ _ _ _ hb, frozen_of_row _ _ _ _ _ hb⟩
theorem Md.arm {w : World} {G K : Nat → Prop} {m : Nat} {S : St} {g : Nat → Nat} (h : Md w G m S g K) (t ts : Int) (hts : ts = max (-1) t) (h2 : t ≤ 1000) (ok : Ok (S.arm t)) :
    Md (w.setCell ⟨m, 5, none⟩ (.int .i64 ts)) G m (S.arm t) g K ∧ Kept G w (w.setCell ⟨m, 5, none⟩ (.int .i64 ts)) := by
  obtain ⟨stop, mn, mk, A, c, A', c', xs, ys, h⟩ := h
  have k1 : Kept (fun i => i = m) w (w.setCell ⟨m, 5, none⟩ (.int .i64 ts)) := Kept.setCell w (by rfl) _
  have b1 := heap_setCell_same w m 5 _ 31 (.int .i64 ts) h.blk
  refine ⟨(h.turn (S' := S.arm t) k1 (by rw [b1]; rfl) rfl rfl rfl rfl (fun _ => ?_) (by omega) (by omega) (fun h9 => ?_) ok).md, k1.mono (fun i _ e => e ▸ h.gm)⟩
  · rw [hts]
    unfold St.arm
    simp only [decide_eq_true_eq]
    split <;> omega
  · unfold St.arm at h9 ⊢
    simpa using h9

set_option maxRecDepth 100000 in
set_option maxHeartbeats 8000000 in
theorem script_walk (F : Nat → Prop) (a : Option Addr) (n c : Nat) (xs : List ActV) (y : UInt8) (w : World) (h : Lies w F a (actCells xs)) (hFw : ∀ i, F i → i < w.heap.size) (hx : ∀ x ∈ xs, x.lies F w) (hl : xs.length = n) (hc : n ≤ c) :
    Calls Try.prog 3 #[.slice a n c, .int .u8 (y.toNat : Int)] w fun e w' => e = .returned (.bool true) ∧ Kept noBlock w w' := by
  obtain ⟨mm, hme⟩ : ∃ mm, mm = min n 150 := ⟨_, rfl⟩
  have q1 : (if (150 : Int) < (n : Int) then (150 : Int) else (n : Int)) = (mm : Int) := by split <;> omega
  have q1' : min (n : Int) 150 = (mm : Int) := by omega
  have i1 : (mm : Int) ≤ c := by omega
  have hmn : mm ≤ n := by omega
  have hm150 : mm ≤ 150 := by omega
  have hy := y.toNat_lt
  obtain ⟨rm, hrm⟩ : ∃ rm : Nat, (y.toNat : Int) * 4 = (rm : Int) := ⟨y.toNat * 4, by simp⟩
  have hrb : rm ≤ 1020 := by omega
  have hwr : IntKind.i64.wrap (rm : Int) = (rm : Int) := wrap_small (by omega) (by omega)
  have HX := Lib.hid hx; clear hx
  have HL := Lib.hid hl; clear hl
  have H := Lib.hid h; clear h
  have HFW := Lib.hid hFw; clear hFw
  clear hme
  have hmm := @run_makeMap Try.prog
  go_enter Try.func3, Try.ntmps3
  go_wp2_with fail
  refine (awake_any w).mono ?_
  rintro e w1 ⟨rfl, k1⟩
  have K1 := Lib.hid k1; clear k1
  go_wp2_with fail
  refine (of_any (rm : Int) w1 (by omega)).mono ?_
  rintro e w2 ⟨d, rfl, h2, k2⟩
  have H2 := Lib.hid h2
  have K2 := Lib.hid k2
  clear h2 k2
  have hbeg := Lib.hid (begin_md w2 rm (by omega))
  go_wp2
  obtain ⟨mb, hmb⟩ : ∃ mb, mb = w2.heap.size + 1 + 1 := ⟨_, rfl⟩
  rw [← hmb] at hbeg ⊢
  have hB0 : Hid (Both w1 _ d mb (St.of (rm : Int))) := Lib.hid ⟨fresh w1 w2, _, _, _, H2.out.keep hbeg.out.2 (fun _ _ h => h), hbeg.out.1, fun i hi hg => by have := hi.2; have := hg.1; omega, fun i hi => hi.1, fun i hi => Nat.le_trans K2.out.size hi.1, K2.out.step hbeg.out.2⟩
  clear hbeg hmb hmm
  go_loopw [35] (fun v wr => ∃ (k : Nat) (S : St), k ≤ mm ∧ v = .int .i64 (k : Int) ∧ Hid (S.calls ≤ k ∧ S.vol ≤ 40 * k) ∧ Hid (Six S) ∧ Hid (Both w1 wr d mb S)) (fun v _ => mm - (intOf v).toNat)
  case atStart => exact ⟨0, _, by omega, rfl, Lib.hid ⟨Nat.le_refl _, Nat.le_refl _⟩, Lib.hid ⟨fun p hp => (by cases hp), fun p hp => (by cases hp), fun p hp => (by cases hp)⟩, hB0⟩
  case round =>
    obtain ⟨k, S, hk, rfl, HB, HS6, HH⟩ := hrel
    by_cases hlt : k < mm
    · obtain ⟨x, hxk⟩ : ∃ x, xs[k]? = some x := ⟨xs[k]'(by rw [HL.out]; omega), List.getElem?_eq_getElem _⟩
      have hmem := List.mem_of_getElem? hxk
      have kw : Kept noBlock w wr := K1.out.step HH.out.kept
      obtain ⟨gb, o, hae, _, hcell⟩ := H.out.norm (by intro e; have := actCells_len xs; rw [e, HL.out] at this; simp at this; omega)
      subst hae
      have hc : ∀ j, j < 5 → ∀ u, x.cells[j]? = some u → wr.cell? ⟨gb, o + (5 * k + j), none⟩ = some u := fun j hj u hu => kw.cell (hcell (5 * k + j) u (by rw [actCells_at xs hxk j hj]; exact hu)) (fun h => h)
      obtain ⟨hxl, hxc, hx1, hx2, hxb⟩ := HX.out x hmem
      have hLr := hxl.keep kw (fun _ _ h => h)
      obtain ⟨X, hX⟩ : ∃ X, X = x := ⟨_, rfl⟩
      obtain ⟨op, na, to_, xA, xc, row, num⟩ := x
      simp only at hxl hxc hx1 hx2 hxb hLr
      obtain ⟨L, hL⟩ : ∃ L, L = row.length := ⟨_, rfl⟩
      have c0 : wr.cell? ⟨gb, o + k * 5, none⟩ = some (.int .u8 (op.toNat : Int)) := by have := hc 0 (by omega) _ rfl; rw [Nat.mul_comm] at this; exact this
      have c1 : wr.cell? ⟨gb, o + k * 5 + 1, none⟩ = some (.int .u8 (na.toNat : Int)) := by have := hc 1 (by omega) _ rfl; rw [Nat.mul_comm] at this; exact this
      have c2 : wr.cell? ⟨gb, o + k * 5 + 2, none⟩ = some (.int .u8 (to_.toNat : Int)) := by have := hc 2 (by omega) _ rfl; rw [Nat.mul_comm] at this; exact this
      have c3 : wr.cell? ⟨gb, o + k * 5 + 3, none⟩ = some (.slice xA L xc) := by have := hc 3 (by omega) (.slice xA row.length xc) rfl; rw [Nat.mul_comm] at this; rw [hL]; exact this
      have c4 : wr.cell? ⟨gb, o + k * 5 + 4, none⟩ = some (.int .i16 num) := by have := hc 4 (by omega) _ rfl; rw [Nat.mul_comm] at this; exact this
      obtain ⟨p, hp⟩ : ∃ p, p = min L 40 := ⟨_, rfl⟩
      have q2 : (if (40 : Int) < (L : Int) then (40 : Int) else (L : Int)) = (p : Int) := by split <;> omega
      have q2' : min (L : Int) 40 = (p : Int) := by omega
      have i2 : (p : Int) ≤ xc := by omega
      have hp40 : p ≤ 40 := by omega
      obtain ⟨b, hb⟩ : ∃ b, b = row.take p := ⟨_, rfl⟩
      have hbl : b.length = p := by rw [hb, List.length_take]; omega
      have hLb : Lies wr F xA (b.map bv) := by rw [hb, List.map_take]; exact hLr.take p
      have HLb := Lib.hid hLb
      have HBL := Lib.hid hbl
      have HXe := Lib.hid hX
      have HLe := Lib.hid hL
      have HFW1 : Hid (∀ i, F i → i < w1.heap.size) := Lib.hid fun i hi => Nat.lt_of_lt_of_le (HFW.out i hi) K1.out.size
      have hwn : IntKind.i64.wrap num = num := wrap_small (by omega) (by omega)
      clear hc hcell hxl hxc hxb hLr hb hbl hLb hp hX hL hmem hxk kw
      go_upto_block 2 with (fail)
      have ka := Kept.alloc noBlock wr (.cells #[.int .u8 (op.toNat : Int), .int .u8 (na.toNat : Int), .int .u8 (to_.toNat : Int), .slice xA L xc, .int .i16 num] 35)
      have hBk := heap_alloc_new wr (.cells #[.int .u8 (op.toNat : Int), .int .u8 (na.toNat : Int), .int .u8 (to_.toNat : Int), .slice xA L xc, .int .i16 num] 35)
      generalize wr.alloc (.cells #[.int .u8 (op.toNat : Int), .int .u8 (na.toNat : Int), .int .u8 (to_.toNat : Int), .slice xA L xc, .int .i16 num] 35) = wa at ka hBk ⊢
      have HA := Lib.hid (HH.out.then_ ka)
      have HLa := Lib.hid (HLb.out.keep ka (fun _ _ h => h))
      obtain ⟨ab, hab⟩ : ∃ ab, ab = wr.heap.size := ⟨_, rfl⟩
      have hw1a : w1.heap.size ≤ ab := by rw [hab]; exact HH.out.kept.size
      rw [← hab] at hBk ⊢
      have HBk := Lib.hid hBk
      have KA := Lib.hid ka
      have HAB := Lib.hid hab
      clear c0 c1 c2 c3 c4 ka hab hBk
      go_cut [] (fun wc => ∃ S', Hid (S'.calls ≤ k + 1 ∧ S'.vol ≤ 40 * (k + 1)) ∧ Hid (Six S') ∧ Hid (Both w1 wc d mb S'))
      case first =>
        have s0 : wa.cell? ⟨ab, 0, none⟩ = some (.int .u8 (op.toNat : Int)) := cell_of_row _ _ _ _ _ _ HBk.out
        have s1 : wa.cell? ⟨ab, 1, none⟩ = some (.int .u8 (na.toNat : Int)) := cell_of_row _ _ _ _ _ _ HBk.out
        have s2 : wa.cell? ⟨ab, 2, none⟩ = some (.int .u8 (to_.toNat : Int)) := cell_of_row _ _ _ _ _ _ HBk.out
        have s3 : wa.cell? ⟨ab, 3, none⟩ = some (.slice xA L xc) := cell_of_row _ _ _ _ _ _ HBk.out
        have s4 : wa.cell? ⟨ab, 4, none⟩ = some (.int .i16 num) := cell_of_row _ _ _ _ _ _ HBk.out
        obtain ⟨FD, GD, g, KK, hd, hm, hFG, hF1, hG1, kb⟩ := HH.out
        have hdl : ∀ i, FD i → i < ab := fun i hi => by rw [HAB.out]; exact hd.lt i hi
        have hml : ∀ i, GD i → i < ab := fun i hi => by rw [HAB.out]; exact hm.lt i hi
        have hda := hd.keep KA.out (fun _ _ h => h)
        have hma := hm.keep KA.out (fun _ _ h => h)
        have hablt : ab < wa.heap.size := lt_of_blk HBk.out
        have NX : Hid (∀ (w5 w6 : World) (S' : St) (g' : Nat → Nat) (K' : Nat → Prop), Did FD wa w5 d S' → Md w6 (fun i => GD i ∨ fresh w5 w6 i) mb S' g' K' → Kept GD w5 w6 → Both w1 w6 d mb S') := Lib.hid fun w5 w6 S' g' K' D hM k6 =>
          Both.next (fun i hi => Nat.lt_trans (hml i hi) hablt) hFG hF1 hG1 (kb.step KA.out) D hM k6
        have HDA := Lib.hid hda
        have HMA := Lib.hid hma
        have HFG := Lib.hid hFG
        have HDL := Lib.hid hdl
        have HML := Lib.hid hml
        have HG1 := Lib.hid hG1
        have HF1 := Lib.hid hF1
        have hopl := op.toNat_lt
        clear hd hm hFG hF1 hG1 kb hdl hml hda hma hablt
        by_cases hA : 240 ≤ op.toNat
        · have hAi : (240 : Int) ≤ (op.toNat : Int) := by omega
          obtain ⟨t, ht⟩ : ∃ t, Int.tmod num 20 = t := ⟨_, rfl⟩
          have ht1 : -20 < t := by rw [← ht]; exact Int.lt_tmod_of_pos num (by decide)
          have ht2 : t < 20 := by rw [← ht]; exact Int.tmod_lt_of_pos num (by decide)
          obtain ⟨ts, hts⟩ : ∃ ts, max (-1) t = ts := ⟨_, rfl⟩
          have hts2 : (if (-1 : Int) < t then t else -1) = ts := by split <;> omega
          have hwt : IntKind.i64.wrap t = t := wrap_small (by omega) (by omega)
          obtain ⟨mc, ms, A9, c9, R9, hdR⟩ := HDA.out
          have harm := arm_any FD d S t mc ms A9 c9 R9 wa hdR (by omega) (by omega)
          have HDR := Lib.hid hdR
          clear hdR
          go_wp2_with fail
          refine harm.mono ?_
          rintro e w5 ⟨rfl, h5, k5⟩
          have z4 : w5.cell? ⟨ab, 4, none⟩ = some (.int .i16 num) := k5.cell s4 (fun e => by have h9 := HDL.out d HDR.out.fd; have e9 : ab = d := e; omega)
          have hm5 := HMA.out.keep k5 (fun i hi e => HFG.out d HDR.out.fd (by have e9 : i = d := e; rw [← e9]; exact hi))
          obtain ⟨stp5, y5, yf5⟩ := hm5.cell5
          have M5 := Lib.hid (hm5.arm t ts hts.symm (by omega) h5.ok)
          have D5 := Lib.hid (h5.did k5 (fun i e => e ▸ HDR.out.fd))
          clear h5 k5 hm5 harm
          go_wp2
          go_meet
          case rel =>
            refine ⟨S.arm t, Lib.hid ?_, Lib.hid (HS6.out.arm t), Lib.hid (NX.out w5 _ _ g KK D5.out (M5.out.1.mono (fun _ h => .inl h) (fun i hi => hi.elim (fun h9 => M5.out.1.lt i h9) (fun h9 => h9.2))) M5.out.2)⟩
            have := HB.out
            show S.calls ≤ k + 1 ∧ S.vol ≤ 40 * (k + 1)
            omega
        · have hAi : ¬ (240 : Int) ≤ (op.toNat : Int) := by omega
          by_cases hB : 225 ≤ op.toNat
          · have hBi : (225 : Int) ≤ (op.toNat : Int) := by omega
            have htl := to_.toNat_lt
            obtain ⟨t, ht⟩ : ∃ t, Int.tmod num 60 = t := ⟨_, rfl⟩
            have ht1 : -60 < t := by rw [← ht]; exact Int.lt_tmod_of_pos num (by decide)
            have ht2 : t < 60 := by rw [← ht]; exact Int.tmod_lt_of_pos num (by decide)
            have hwt : IntKind.i64.wrap t = t := wrap_small (by omega) (by omega)
            obtain ⟨r9, hr9⟩ : ∃ r9 : Nat, (to_.toNat : Int) % 9 = (r9 : Int) := ⟨to_.toNat % 9, by omega⟩
            have hr9b : r9 < 9 := by omega
            have hr9t : Int.tmod (to_.toNat : Int) 9 = (r9 : Int) := by rw [Int.tmod_eq_emod_of_nonneg (by omega)]; exact hr9
            obtain ⟨nm9, hnm9⟩ : ∃ nm9 : Int, (r9 : Int) - 1 = nm9 := ⟨_, rfl⟩
            have hnb1 : -1 ≤ nm9 := by omega
            have hnb2 : nm9 ≤ 8 := by omega
            have hwnm : IntKind.i64.wrap ((r9 : Int) - 1) = nm9 := by rw [hnm9]; exact wrap_small (by omega) (by omega)
            go_wp2_with fail
            refine (restart_any FD d S nm9 t wa HDA.out).mono ?_
            rintro e w5 ⟨rfl, D⟩
            have hno : ¬ FD ab := fun h9 => by have := HDL.out ab h9; omega
            have z2 : w5.cell? ⟨ab, 2, none⟩ = some (.int .u8 (to_.toNat : Int)) := D.kept.cell s2 hno
            have z4 : w5.cell? ⟨ab, 4, none⟩ = some (.int .i16 num) := D.kept.cell s4 hno
            have hm5 := Lib.hid (HMA.out.keep D.kept (fun i hi hf => HFG.out i hf hi))
            have D5 := Lib.hid D
            clear D
            go_wp2_with fail
            refine (mrestart_any GD KK mb S g nm9 t w5 hm5.out (by omega) (by omega) (by omega) (by omega) D5.out.dk.ok).mono ?_
            rintro e w6 ⟨rfl, h6, k6⟩
            have H6 := Lib.hid h6
            have K6 := Lib.hid k6
            clear h6 k6
            go_wp2
            go_meet
            case rel =>
              refine ⟨S.restart nm9 t, Lib.hid ?_, Lib.hid (HS6.out.restart _ _), Lib.hid (NX.out w5 w6 _ g KK D5.out H6.out K6.out)⟩
              have := HB.out
              show S.calls ≤ k + 1 ∧ S.vol ≤ 40 * (k + 1)
              omega
          · have hBi : ¬ (225 : Int) ≤ (op.toNat : Int) := by omega
            have h64 : S.cur.length < 64 := by
              have := len_le S.cur six HH.out.nodup HS6.out.cur
              have e6 : six.length = 6 := rfl
              omega
            have kd := Kept.drew noBlock wa
            have hdo := do_any FD F d S ⟨op, na, to_, xA, xc, row, num⟩ xA p xc b wa.drew (HDA.out.keep kd (fun _ _ h => h)) (by have := HB.out; omega) (HLa.out.keep kd (fun _ _ h => h)) HBL.out (by have := HB.out; omega) hx1 hx2
            unfold ActV.val at hdo
            simp only at hdo
            rw [← HLe.out] at hdo
            have HDO := Lib.hid hdo
            clear hdo
            have hcb : S.calls < 1000000 := by have := HB.out; omega
            have hvb : S.vol + p ≤ 1000000000 := by have := HB.out; omega
            have HBkd := Lib.hid (kd.blk HBk.out (fun h => h))
            clear kd
            go_upto_region 9 with (fail)
            refine wp_region_noPanic ?_
            refine wp_region_held_drew (S := fun w' => w'.cell? ⟨ab, 0, none⟩ = some (.int .u8 (op.toNat : Int)) ∧ w'.cell? ⟨ab, 1, none⟩ = some (.int .u8 (na.toNat : Int)) ∧ w'.cell? ⟨ab, 2, none⟩ = some (.int .u8 (to_.toNat : Int)) ∧ w'.cell? ⟨ab, 3, none⟩ = some (.slice xA L xc) ∧ w'.cell? ⟨ab, 4, none⟩ = some (.int .i16 num)) (by kernel_rfl) ⟨s0, s1, s2, s3, s4⟩ (fun hHeld => ?_)
            refine wpAnyH_take (i := 0) (oi := ⟨some 46, Op.move (Operand.tmp 5), 24, _, _, none⟩) (v := ?v0n1k1) rfl (by kernel_rfl) (by kernel_rfl) (by kernel_rfl) (fun _ _ _ h => h) (Or.inl ⟨by rfl, ?y0n1k1⟩) hHeld ?z0n1k1
            case y0n1k1 => intro w hSw; (try dsimp only at hSw); go_simp <;> rfl
            try simp only [Act.put, List.setIfInBounds_toArray, List.set_cons_zero, List.set_cons_succ]
            refine wpAnyH_take (i := 1) (oi := ⟨some 47, Op.load 35 (Operand.tmp 8), 35, _, _, none⟩) (v := ?v1n1k2) rfl (by kernel_rfl) (by kernel_rfl) (by kernel_rfl) (fun _ _ _ h => h) (Or.inl ⟨by rfl, ?y1n1k2⟩) hHeld ?z1n1k2
            case y1n1k2 => intro w hSw; (try dsimp only at hSw); go_simp <;> rfl
            try simp only [Act.put, List.setIfInBounds_toArray, List.set_cons_zero, List.set_cons_succ]
            refine wpAnyH_take (i := 2) (oi := ⟨some 48, Op.move (Operand.tmp 9), 32, _, _, none⟩) (v := ?v2n1k3) rfl (by kernel_rfl) (by kernel_rfl) (by kernel_rfl) (fun _ _ _ h => h) (Or.inl ⟨by rfl, ?y2n1k3⟩) hHeld ?z2n1k3
            case y2n1k3 => intro w hSw; (try dsimp only at hSw); go_simp <;> rfl
            try simp only [Act.put, List.setIfInBounds_toArray, List.set_cons_zero, List.set_cons_succ]
            refine wpAnyH_take (i := 4) (oi := ⟨some 50, Op.move (Operand.tmp 6), 26, _, _, none⟩) (v := ?v4n1k4) rfl (by kernel_rfl) (by kernel_rfl) (by kernel_rfl) (fun _ _ _ h => h) (Or.inl ⟨by rfl, ?y4n1k4⟩) hHeld ?z4n1k4
            case y4n1k4 => intro w hSw; (try dsimp only at hSw); go_simp <;> rfl
            try simp only [Act.put, List.setIfInBounds_toArray, List.set_cons_zero, List.set_cons_succ]
            refine wpAnyH_take (i := 5) (oi := ⟨some 51, Op.load 35 (Operand.tmp 8), 35, _, _, none⟩) (v := ?v5n1k5) rfl (by kernel_rfl) (by kernel_rfl) (by kernel_rfl) (fun _ _ _ h => h) (Or.inl ⟨by rfl, ?y5n1k5⟩) hHeld ?z5n1k5
            case y5n1k5 => intro w hSw; (try dsimp only at hSw); go_simp <;> rfl
            try simp only [Act.put, List.setIfInBounds_toArray, List.set_cons_zero, List.set_cons_succ]
            refine wpAnyH_take (i := 6) (oi := ⟨some 52, Op.move (Operand.tmp 9), 32, _, _, none⟩) (v := ?v6n1k6) rfl (by kernel_rfl) (by kernel_rfl) (by kernel_rfl) (fun _ _ _ h => h) (Or.inl ⟨by rfl, ?y6n1k6⟩) hHeld ?z6n1k6
            case y6n1k6 => intro w hSw; (try dsimp only at hSw); go_simp <;> rfl
            try simp only [Act.put, List.setIfInBounds_toArray, List.set_cons_zero, List.set_cons_succ]
            refine wpAnyH_ready (rs := [3]) (by kernel_rfl) (by simp) ?_
            refine AllReadyH.cons (o := ⟨some 49, Op.call { callee := Callee.value (Operand.func 9), args := #[Operand.tmp 46, Operand.tmp 47, Operand.tmp 48], argTypes := #[24, 35, 32] }, 38, _, _, none⟩) rfl (fun K hK => ?_) AllReadyH.nil
            go_simp
            refine HDO.out.mono ?_
            rintro e w5 ⟨f, rfl, D, hf⟩
            have hno : ¬ FD ab := fun h9 => by have := HDL.out ab h9; omega
            have hB5 := D.kept.blk HBkd.out hno
            have HB5 := Lib.hid hB5
            have hm5 := (HMA.out.keep (Kept.drew noBlock wa) (fun _ _ h => h)).keep D.kept (fun i hi hf => HFG.out i hf hi)
            have hdl5 := D.dk.lt
            have D5 := Lib.hid (show Did FD wa w5 d (S.do_ ⟨op, na, to_, xA, xc, row, num⟩ f b).2 from ⟨(Kept.drew FD wa).step D.kept, D.dk⟩)
            have hFFD : ∀ i, F i → ¬ FD i := fun i hi h9 => by
              have h1 := HFW1.out i hi
              have h2 := HF1.out i h9
              omega
            have hLw5 := (HLa.out.keep (Kept.drew noBlock wa) (fun _ _ h => h)).keep D.kept hFFD
            have hmd := mdo_any F GD KK mb S g ⟨op, na, to_, xA, xc, row, num⟩ xA p xc b f w5 hm5 hcb hf h64 hLw5 (fun i hi h9 => by have h1 := HFW1.out i hi; have h2 := HG1.out i h9; omega) HBL.out hvb hx1 hx2
            unfold ActV.val at hmd
            simp only at hmd
            rw [← HLe.out] at hmd
            have HMD := Lib.hid hmd
            clear hmd
            obtain ⟨R, hR⟩ : ∃ R, R = S.do_ ⟨op, na, to_, xA, xc, row, num⟩ f b := ⟨_, rfl⟩
            rw [← hR] at HMD D5 ⊢
            have HR := Lib.hid hR
            clear hB5 D hm5 hdl5 hR hf hLw5 hFFD
            dsimp only
            refine hK.out _ _ ⟨cell_of_row _ _ _ _ _ _ HB5.out, cell_of_row _ _ _ _ _ _ HB5.out, cell_of_row _ _ _ _ _ _ HB5.out, cell_of_row _ _ _ _ _ _ HB5.out, cell_of_row _ _ _ _ _ _ HB5.out⟩ (fun hHeld => ?_)
            clear hK K
            try simp only [Act.put, List.setIfInBounds_toArray, List.set_cons_zero, List.set_cons_succ]
            refine wpAnyH_ready (rs := [7]) (by kernel_rfl) (by simp) ?_
            refine AllReadyH.cons (o := ⟨some 53, Op.call { callee := Callee.value (Operand.func 10), args := #[Operand.tmp 50, Operand.tmp 51, Operand.tmp 52], argTypes := #[26, 35, 32] }, 38, _, _, none⟩) rfl (fun K hK => ?_) AllReadyH.nil
            go_simp
            refine HMD.out.mono ?_
            rintro e w6 ⟨rfl, ⟨g6, K6, hM6⟩, k6⟩
            have hnG : ¬ GD ab := fun h9 => by have := HML.out ab h9; omega
            have hB6 := k6.blk HB5.out hnG
            have HB6 := Lib.hid (NX.out w5 w6 R.2 g6 K6 D5.out hM6 k6)
            have HBk6 := Lib.hid hB6
            clear hM6 k6 hB6
            dsimp only
            refine hK.out _ _ ⟨cell_of_row _ _ _ _ _ _ HBk6.out, cell_of_row _ _ _ _ _ _ HBk6.out, cell_of_row _ _ _ _ _ _ HBk6.out, cell_of_row _ _ _ _ _ _ HBk6.out, cell_of_row _ _ _ _ _ _ HBk6.out⟩ (fun hHeld => ?_)
            clear hK K
            try simp only [Act.put, List.setIfInBounds_toArray, List.set_cons_zero, List.set_cons_succ]
            refine wpAnyH_take (i := 8) (oi := ⟨some 54, Op.binOp BinOp.neq 38 (Operand.tmp 49) (Operand.tmp 53) 38, 4, _, _, none⟩) (v := ?v8n1k7) rfl (by kernel_rfl) (by kernel_rfl) (by kernel_rfl) (fun _ _ _ h => h) (Or.inl ⟨by rfl, ?y8n1k7⟩) hHeld ?z8n1k7
            case y8n1k7 => intro w hSw; (try dsimp only at hSw); go_simp <;> rfl
            try simp only [Act.put, List.setIfInBounds_toArray, List.set_cons_zero, List.set_cons_succ]
            refine wpAnyH_done (by kernel_rfl) ?_ _
            refine NoPanic.normal ?_
            have HSX : Hid (Six R.2) := by rw [HR.out]; exact Lib.hid (HS6.out.do_ _ _ _)
            have HBN : Hid (R.2.calls ≤ k + 1 ∧ R.2.vol ≤ 40 * (k + 1)) := by
              show _ ∧ _
              have hbn := HB.out
              cases hdn : S.down with
              | true =>
                have e9 : R.2 = S := by rw [HR.out, do_down S hdn _ f b]
                rw [e9]
                omega
              | false =>
                have t := tells_do S hdn ⟨op, na, to_, xA, xc, row, num⟩ f b
                rw [← HR.out, HBL.out] at t
                have t1 := t.1
                rcases t.2 with h9 | h9 | h9
                · omega
                · omega
                · rw [h9.2.2] at t1 ⊢
                  omega
            clear hHeld
            go_wp2
            go_meet
            case rel => exact ⟨R.2, HBN, HSX, HB6⟩
      case rest =>
        obtain ⟨S', HB', HS', HC⟩ := hcut
        clear HA HLa HBk KA HAB HB HS6 HH hw1a HLb
        obtain ⟨mn, g, m0, m6, m7, hNm, hfil⟩ := HC.out.model
        obtain ⟨dn, hdn⟩ : ∃ dn, S'.down = dn := ⟨_, rfl⟩
        obtain ⟨cl, hcl⟩ : ∃ cl, S'.calls = cl := ⟨_, rfl⟩
        obtain ⟨un, hun⟩ : ∃ un, S'.used = un := ⟨_, rfl⟩
        obtain ⟨nl, hnl⟩ : ∃ nl, S'.cur.length = nl := ⟨_, rfl⟩
        have hrl : (S'.cur.re g).length = nl := by rw [Dir.re_len, hnl]
        rw [hdn] at m6
        rw [hcl] at m7
        have kd := Kept.drew noBlock wc
        have HCd := Lib.hid (HC.out.then_ kd)
        have hDown := HCd.out.down
        have hCalls := HCd.out.calls
        have hUsed := HCd.out.used
        rw [hdn] at hDown
        rw [hcl] at hCalls
        rw [hun] at hUsed
        have HDown := Lib.hid hDown
        have HCalls := Lib.hid hCalls
        have HUsed := Lib.hid hUsed
        have HDN := Lib.hid hdn
        have HUN := Lib.hid hun
        have HNL := Lib.hid hnl
        have HRL := Lib.hid hrl
        have HNm := Lib.hid hNm
        have Hfil := Lib.hid hfil
        clear hDown hCalls hUsed hdn hcl hun hnl hNm hfil kd hrl
        go_upto_region 17 with (fail)
        refine wp_region_noPanic ?_
        refine wp_region_held_drew (S := fun w' => w'.cell? ⟨mb, 0, none⟩ = some (.map (some mn)) ∧ w'.cell? ⟨mb, 6, none⟩ = some (.bool dn) ∧ w'.cell? ⟨mb, 7, none⟩ = some (.int .i64 (cl : Int))) (by kernel_rfl) ⟨m0, m6, m7⟩ (fun hHeld => ?_)
        refine wpAnyH_take (i := 0) (oi := ⟨some 99, Op.move (Operand.tmp 5), 24, _, _, none⟩) (v := ?v0n2k1) rfl (by kernel_rfl) (by kernel_rfl) (by kernel_rfl) (fun _ _ _ h => h) (Or.inl ⟨by rfl, ?y0n2k1⟩) hHeld ?z0n2k1
        case y0n2k1 => intro w hSw; (try dsimp only at hSw); go_simp <;> rfl
        try simp only [Act.put, List.setIfInBounds_toArray, List.set_cons_zero, List.set_cons_succ]
        refine wpAnyH_take (i := 2) (oi := ⟨some 101, Op.move (Operand.tmp 6), 26, _, _, none⟩) (v := ?v2n2k2) rfl (by kernel_rfl) (by kernel_rfl) (by kernel_rfl) (fun _ _ _ h => h) (Or.inl ⟨by rfl, ?y2n2k2⟩) hHeld ?z2n2k2
        case y2n2k2 => intro w hSw; (try dsimp only at hSw); go_simp <;> rfl
        try simp only [Act.put, List.setIfInBounds_toArray, List.set_cons_zero, List.set_cons_succ]
        refine wpAnyH_take (i := 3) (oi := ⟨some 102, Op.nilCheck (Operand.tmp 101), 0, _, _, none⟩) (v := ?v3n2k3) rfl (by kernel_rfl) (by kernel_rfl) (by kernel_rfl) (fun _ _ _ h => h) (Or.inl ⟨by rfl, ?y3n2k3⟩) hHeld ?z3n2k3
        case y3n2k3 => intro w hSw; (try dsimp only at hSw); go_simp <;> rfl
        try simp only [Act.put, List.setIfInBounds_toArray, List.set_cons_zero, List.set_cons_succ]
        refine wpAnyH_take (i := 4) (oi := ⟨some 103, Op.fieldAddr 31 (Operand.tmp 102) 6, 0, _, _, none⟩) (v := ?v4n2k4) rfl (by kernel_rfl) (by kernel_rfl) (by kernel_rfl) (fun _ _ _ h => h) (Or.inl ⟨by rfl, ?y4n2k4⟩) hHeld ?z4n2k4
        case y4n2k4 => intro w hSw; (try dsimp only at hSw); go_simp <;> rfl
        try simp only [Act.put, List.setIfInBounds_toArray, List.set_cons_zero, List.set_cons_succ]
        refine wpAnyH_take (i := 5) (oi := ⟨some 104, Op.load 4 (Operand.tmp 103), 4, _, _, none⟩) (v := ?v5n2k5) rfl (by kernel_rfl) (by kernel_rfl) (by kernel_rfl) (fun _ _ _ h => h) (Or.inl ⟨by rfl, ?y5n2k5⟩) hHeld ?z5n2k5
        case y5n2k5 => intro w hSw; (try dsimp only at hSw); go_simp <;> rfl
        try simp only [Act.put, List.setIfInBounds_toArray, List.set_cons_zero, List.set_cons_succ]
        refine wpAnyH_ready (rs := [1]) (by kernel_rfl) (by simp) ?_
        refine AllReadyH.cons (o := ⟨some 100, Op.call { callee := Callee.value (Operand.func 11), args := #[Operand.tmp 99], argTypes := #[24] }, 4, _, _, none⟩) rfl (fun K hK => ?_) AllReadyH.nil
        go_simp
        refine HDown.out.mono ?_
        rintro e w5 ⟨rfl, rfl⟩
        dsimp only
        refine hK.out _ _ ⟨m0, m6, m7⟩ (fun hHeld => ?_)
        clear hK K
        try simp only [Act.put, List.setIfInBounds_toArray, List.set_cons_zero, List.set_cons_succ]
        refine wpAnyH_take (i := 6) (oi := ⟨some 105, Op.binOp BinOp.neq 4 (Operand.tmp 100) (Operand.tmp 104) 4, 4, _, _, none⟩) (v := ?v6n2k6) rfl (by kernel_rfl) (by kernel_rfl) (by kernel_rfl) (fun _ _ _ h => h) (Or.inl ⟨by rfl, ?y6n2k6⟩) hHeld ?z6n2k6
        case y6n2k6 => intro w hSw; (try dsimp only at hSw); go_simp <;> rfl
        try simp only [Act.put, List.setIfInBounds_toArray, List.set_cons_zero, List.set_cons_succ]
        refine wpAnyH_take (i := 7) (oi := ⟨some 106, Op.move (Operand.tmp 105), 4, _, _, none⟩) (v := ?v7n2k7) rfl (by kernel_rfl) (by kernel_rfl) (by kernel_rfl) (fun _ _ _ h => h) (Or.inl ⟨by rfl, ?y7n2k7⟩) hHeld ?z7n2k7
        case y7n2k7 => intro w hSw; (try dsimp only at hSw); go_simp <;> rfl
        try simp only [Act.put, List.setIfInBounds_toArray, List.set_cons_zero, List.set_cons_succ]
        refine wpAnyH_take (i := 8) (oi := ⟨some 107, Op.move (Operand.tmp 5), 24, _, _, some (7, false)⟩) (v := ?v8n2k8) rfl (by kernel_rfl) (by kernel_rfl) (by kernel_rfl) (fun _ _ _ h => h) (Or.inl ⟨by rfl, ?y8n2k8⟩) hHeld ?z8n2k8
        case y8n2k8 => intro w hSw; (try dsimp only at hSw); go_simp <;> rfl
        try simp only [Act.put, List.setIfInBounds_toArray, List.set_cons_zero, List.set_cons_succ]
        refine wpAnyH_take (i := 10) (oi := ⟨some 109, Op.move (Operand.tmp 6), 26, _, _, some (7, false)⟩) (v := ?v10n2k9) rfl (by kernel_rfl) (by kernel_rfl) (by kernel_rfl) (fun _ _ _ h => h) (Or.inl ⟨by rfl, ?y10n2k9⟩) hHeld ?z10n2k9
        case y10n2k9 => intro w hSw; (try dsimp only at hSw); go_simp <;> rfl
        try simp only [Act.put, List.setIfInBounds_toArray, List.set_cons_zero, List.set_cons_succ]
        refine wpAnyH_take (i := 11) (oi := ⟨some 110, Op.nilCheck (Operand.tmp 109), 0, _, _, some (7, false)⟩) (v := ?v11n2k10) rfl (by kernel_rfl) (by kernel_rfl) (by kernel_rfl) (fun _ _ _ h => h) (Or.inl ⟨by rfl, ?y11n2k10⟩) hHeld ?z11n2k10
        case y11n2k10 => intro w hSw; (try dsimp only at hSw); go_simp <;> rfl
        try simp only [Act.put, List.setIfInBounds_toArray, List.set_cons_zero, List.set_cons_succ]
        refine wpAnyH_take (i := 12) (oi := ⟨some 111, Op.fieldAddr 31 (Operand.tmp 110) 7, 0, _, _, some (7, false)⟩) (v := ?v12n2k11) rfl (by kernel_rfl) (by kernel_rfl) (by kernel_rfl) (fun _ _ _ h => h) (Or.inl ⟨by rfl, ?y12n2k11⟩) hHeld ?z12n2k11
        case y12n2k11 => intro w hSw; (try dsimp only at hSw); go_simp <;> rfl
        try simp only [Act.put, List.setIfInBounds_toArray, List.set_cons_zero, List.set_cons_succ]
        refine wpAnyH_take (i := 13) (oi := ⟨some 112, Op.load 3 (Operand.tmp 111), 3, _, _, some (7, false)⟩) (v := ?v13n2k12) rfl (by kernel_rfl) (by kernel_rfl) (by kernel_rfl) (fun _ _ _ h => h) (Or.inl ⟨by rfl, ?y13n2k12⟩) hHeld ?z13n2k12
        case y13n2k12 => intro w hSw; (try dsimp only at hSw); go_simp <;> rfl
        try simp only [Act.put, List.setIfInBounds_toArray, List.set_cons_zero, List.set_cons_succ]
        refine wpAnyH_ready (rs := [9]) (by kernel_rfl) (by simp) ?_
        refine AllReadyH.cons (o := ⟨some 108, Op.call { callee := Callee.value (Operand.func 12), args := #[Operand.tmp 107], argTypes := #[24] }, 3, _, _, some (7, false)⟩) rfl (fun K hK => ?_) AllReadyH.nil
        go_simp
        refine HCalls.out.mono ?_
        rintro e w5 ⟨rfl, rfl⟩
        dsimp only
        refine hK.out _ _ ⟨m0, m6, m7⟩ (fun hHeld => ?_)
        clear hK K
        try simp only [Act.put, List.setIfInBounds_toArray, List.set_cons_zero, List.set_cons_succ]
        refine wpAnyH_take (i := 14) (oi := ⟨some 113, Op.binOp BinOp.neq 3 (Operand.tmp 108) (Operand.tmp 112) 3, 4, _, _, some (7, false)⟩) (v := ?v14n2k13) rfl (by kernel_rfl) (by kernel_rfl) (by kernel_rfl) (fun _ _ _ h => h) (Or.inl ⟨by rfl, ?y14n2k13⟩) hHeld ?z14n2k13
        case y14n2k13 => intro w hSw; (try dsimp only at hSw); go_simp <;> rfl
        try simp only [Act.put, List.setIfInBounds_toArray, List.set_cons_zero, List.set_cons_succ]
        refine wpAnyH_take (i := 15) (oi := ⟨some 114, Op.pick (Operand.tmp 106) (Operand.const (Value.bool true)) (Operand.tmp 113), 4, _, _, none⟩) (v := ?v15n2k14) rfl (by kernel_rfl) (by kernel_rfl) (by kernel_rfl) (fun _ _ _ h => h) (Or.inl ⟨by rfl, ?y15n2k14⟩) hHeld ?z15n2k14
        case y15n2k14 => intro w hSw; (try dsimp only at hSw); go_simp <;> rfl
        try simp only [Act.put, List.setIfInBounds_toArray, List.set_cons_zero, List.set_cons_succ]
        refine wpAnyH_take (i := 16) (oi := ⟨some 115, Op.move (Operand.tmp 114), 4, _, _, none⟩) (v := ?v16n2k15) rfl (by kernel_rfl) (by kernel_rfl) (by kernel_rfl) (fun _ _ _ h => h) (Or.inl ⟨by rfl, ?y16n2k15⟩) hHeld ?z16n2k15
        case y16n2k15 => intro w hSw; (try dsimp only at hSw); go_simp <;> rfl
        try simp only [Act.put, List.setIfInBounds_toArray, List.set_cons_zero, List.set_cons_succ]
        refine wpAnyH_take (i := 17) (oi := ⟨some 116, Op.move (Operand.tmp 5), 24, _, _, some (16, false)⟩) (v := ?v17n2k16) rfl (by kernel_rfl) (by kernel_rfl) (by kernel_rfl) (fun _ _ _ h => h) (Or.inl ⟨by rfl, ?y17n2k16⟩) hHeld ?z17n2k16
        case y17n2k16 => intro w hSw; (try dsimp only at hSw); go_simp <;> rfl
        try simp only [Act.put, List.setIfInBounds_toArray, List.set_cons_zero, List.set_cons_succ]
        refine wpAnyH_take (i := 19) (oi := ⟨some 118, Op.move (Operand.tmp 6), 26, _, _, some (16, false)⟩) (v := ?v19n2k17) rfl (by kernel_rfl) (by kernel_rfl) (by kernel_rfl) (fun _ _ _ h => h) (Or.inl ⟨by rfl, ?y19n2k17⟩) hHeld ?z19n2k17
        case y19n2k17 => intro w hSw; (try dsimp only at hSw); go_simp <;> rfl
        try simp only [Act.put, List.setIfInBounds_toArray, List.set_cons_zero, List.set_cons_succ]
        refine wpAnyH_ready (rs := [18]) (by kernel_rfl) (by simp) ?_
        refine AllReadyH.cons (o := ⟨some 117, Op.call { callee := Callee.value (Operand.func 13), args := #[Operand.tmp 116], argTypes := #[24] }, 3, _, _, some (16, false)⟩) rfl (fun K hK => ?_) AllReadyH.nil
        go_simp
        refine HUsed.out.mono ?_
        rintro e w5 ⟨rfl, k5⟩
        have HC5 := Lib.hid (HCd.out.then_ k5)
        have hMu := HC5.out.mused
        rw [HUN.out] at hMu
        have HMu := Lib.hid hMu
        have K5 := Lib.hid ((Kept.drew noBlock wc).step k5)
        clear hMu k5
        dsimp only
        refine hK.out _ _ ⟨K5.out.cell m0 (fun h => h), K5.out.cell m6 (fun h => h), K5.out.cell m7 (fun h => h)⟩ (fun hHeld => ?_)
        clear hK K
        try simp only [Act.put, List.setIfInBounds_toArray, List.set_cons_zero, List.set_cons_succ]
        refine wpAnyH_ready (rs := [20]) (by kernel_rfl) (by simp) ?_
        refine AllReadyH.cons (o := ⟨some 119, Op.call { callee := Callee.value (Operand.func 14), args := #[Operand.tmp 118], argTypes := #[26] }, 3, _, _, some (16, false)⟩) rfl (fun K hK => ?_) AllReadyH.nil
        go_simp
        refine HMu.out.mono ?_
        rintro e w6 ⟨rfl, k6⟩
        have HC6 := Lib.hid (HC5.out.then_ k6)
        have K6 := Lib.hid (K5.out.step k6)
        clear k6
        dsimp only
        refine hK.out _ _ ⟨K6.out.cell m0 (fun h => h), K6.out.cell m6 (fun h => h), K6.out.cell m7 (fun h => h)⟩ (fun hHeld => ?_)
        clear hK K
        try simp only [Act.put, List.setIfInBounds_toArray, List.set_cons_zero, List.set_cons_succ]
        refine wpAnyH_take (i := 21) (oi := ⟨some 120, Op.binOp BinOp.neq 3 (Operand.tmp 117) (Operand.tmp 119) 3, 4, _, _, some (16, false)⟩) (v := ?v21n2k18) rfl (by kernel_rfl) (by kernel_rfl) (by kernel_rfl) (fun _ _ _ h => h) (Or.inl ⟨by rfl, ?y21n2k18⟩) hHeld ?z21n2k18
        case y21n2k18 => intro w hSw; (try dsimp only at hSw); go_simp <;> rfl
        try simp only [Act.put, List.setIfInBounds_toArray, List.set_cons_zero, List.set_cons_succ]
        refine wpAnyH_take (i := 22) (oi := ⟨some 121, Op.pick (Operand.tmp 115) (Operand.const (Value.bool true)) (Operand.tmp 120), 4, _, _, none⟩) (v := ?v22n2k19) rfl (by kernel_rfl) (by kernel_rfl) (by kernel_rfl) (fun _ _ _ h => h) (Or.inl ⟨by rfl, ?y22n2k19⟩) hHeld ?z22n2k19
        case y22n2k19 => intro w hSw; (try dsimp only at hSw); go_simp <;> rfl
        try simp only [Act.put, List.setIfInBounds_toArray, List.set_cons_zero, List.set_cons_succ]
        refine wpAnyH_take (i := 23) (oi := ⟨some 122, Op.move (Operand.tmp 121), 4, _, _, none⟩) (v := ?v23n2k20) rfl (by kernel_rfl) (by kernel_rfl) (by kernel_rfl) (fun _ _ _ h => h) (Or.inl ⟨by rfl, ?y23n2k20⟩) hHeld ?z23n2k20
        case y23n2k20 => intro w hSw; (try dsimp only at hSw); go_simp <;> rfl
        try simp only [Act.put, List.setIfInBounds_toArray, List.set_cons_zero, List.set_cons_succ]
        refine wpAnyH_take (i := 24) (oi := ⟨some 123, Op.move (Operand.tmp 5), 24, _, _, some (23, false)⟩) (v := ?v24n2k21) rfl (by kernel_rfl) (by kernel_rfl) (by kernel_rfl) (fun _ _ _ h => h) (Or.inl ⟨by rfl, ?y24n2k21⟩) hHeld ?z24n2k21
        case y24n2k21 => intro w hSw; (try dsimp only at hSw); go_simp <;> rfl
        try simp only [Act.put, List.setIfInBounds_toArray, List.set_cons_zero, List.set_cons_succ]
        refine wpAnyH_take (i := 27) (oi := ⟨some 126, Op.move (Operand.tmp 6), 26, _, _, some (23, false)⟩) (v := ?v27n2k22) rfl (by kernel_rfl) (by kernel_rfl) (by kernel_rfl) (fun _ _ _ h => h) (Or.inl ⟨by rfl, ?y27n2k22⟩) hHeld ?z27n2k22
        case y27n2k22 => intro w hSw; (try dsimp only at hSw); go_simp <;> rfl
        try simp only [Act.put, List.setIfInBounds_toArray, List.set_cons_zero, List.set_cons_succ]
        refine wpAnyH_take (i := 28) (oi := ⟨some 127, Op.nilCheck (Operand.tmp 126), 0, _, _, some (23, false)⟩) (v := ?v28n2k23) rfl (by kernel_rfl) (by kernel_rfl) (by kernel_rfl) (fun _ _ _ h => h) (Or.inl ⟨by rfl, ?y28n2k23⟩) hHeld ?z28n2k23
        case y28n2k23 => intro w hSw; (try dsimp only at hSw); go_simp <;> rfl
        try simp only [Act.put, List.setIfInBounds_toArray, List.set_cons_zero, List.set_cons_succ]
        refine wpAnyH_take (i := 29) (oi := ⟨some 128, Op.fieldAddr 31 (Operand.tmp 127) 0, 0, _, _, some (23, false)⟩) (v := ?v29n2k24) rfl (by kernel_rfl) (by kernel_rfl) (by kernel_rfl) (fun _ _ _ h => h) (Or.inl ⟨by rfl, ?y29n2k24⟩) hHeld ?z29n2k24
        case y29n2k24 => intro w hSw; (try dsimp only at hSw); go_simp <;> rfl
        try simp only [Act.put, List.setIfInBounds_toArray, List.set_cons_zero, List.set_cons_succ]
        refine wpAnyH_take (i := 30) (oi := ⟨some 129, Op.load 27 (Operand.tmp 128), 27, _, _, some (23, false)⟩) (v := ?v30n2k25) rfl (by kernel_rfl) (by kernel_rfl) (by kernel_rfl) (fun _ _ _ h => h) (Or.inl ⟨by rfl, ?y30n2k25⟩) hHeld ?z30n2k25
        case y30n2k25 => intro w hSw; (try dsimp only at hSw); go_simp <;> rfl
        try simp only [Act.put, List.setIfInBounds_toArray, List.set_cons_zero, List.set_cons_succ]
        refine wpAnyH_ready (rs := [25]) (by kernel_rfl) (by simp) ?_
        refine AllReadyH.cons (o := ⟨some 124, Op.call { callee := Callee.value (Operand.func 15), args := #[Operand.tmp 123], argTypes := #[24] }, 42, _, _, some (23, false)⟩) rfl (fun K hK => ?_) AllReadyH.nil
        go_simp
        refine HC6.out.names.mono ?_
        rintro e w7 ⟨A7, c7, ns7, rfl, hT7, _, _, k7⟩
        have e7 : ns7.length = nl := by rw [hT7.len]; exact HNL.out
        rw [e7]
        have HC7 := Lib.hid (HC6.out.then_ k7)
        have K7 := Lib.hid (K6.out.step k7)
        clear k7 hT7 e7
        dsimp only
        refine hK.out _ _ ⟨K7.out.cell m0 (fun h => h), K7.out.cell m6 (fun h => h), K7.out.cell m7 (fun h => h)⟩ (fun hHeld => ?_)
        clear hK K
        try simp only [Act.put, List.setIfInBounds_toArray, List.set_cons_zero, List.set_cons_succ]
        refine wpAnyH_take (i := 26) (oi := ⟨some 125, Op.call { callee := Callee.builtin Builtin.len, args := #[Operand.tmp 124], argTypes := #[42] }, 3, _, _, some (23, false)⟩) (v := ?v26n2k26) rfl (by kernel_rfl) (by kernel_rfl) (by kernel_rfl) (fun _ _ _ h => h) (Or.inl ⟨by rfl, ?y26n2k26⟩) hHeld ?z26n2k26
        case y26n2k26 => intro w hSw; (try dsimp only at hSw); go_simp <;> rfl
        try simp only [Act.put, List.setIfInBounds_toArray, List.set_cons_zero, List.set_cons_succ]
        refine wpAnyH_ready (rs := [31]) (by kernel_rfl) (by simp) ?_
        refine AllReadyH.cons (o := ⟨some 130, Op.call { callee := Callee.builtin Builtin.len, args := #[Operand.tmp 129], argTypes := #[27] }, 3, _, _, some (23, false)⟩) rfl (fun K hK => ?_) AllReadyH.nil
        have hlen7 := (HNm.out.keep K7.out (fun _ _ h => h)).mapLen
        rw [HRL.out] at hlen7
        go_simp
        refine hK.out _ _ ⟨K7.out.cell m0 (fun h => h), K7.out.cell m6 (fun h => h), K7.out.cell m7 (fun h => h)⟩ (fun hHeld => ?_)
        clear hK K
        try simp only [Act.put, List.setIfInBounds_toArray, List.set_cons_zero, List.set_cons_succ]
        refine wpAnyH_take (i := 32) (oi := ⟨some 131, Op.binOp BinOp.neq 3 (Operand.tmp 125) (Operand.tmp 130) 3, 4, _, _, some (23, false)⟩) (v := ?v32n2k27) rfl (by kernel_rfl) (by kernel_rfl) (by kernel_rfl) (fun _ _ _ h => h) (Or.inl ⟨by rfl, ?y32n2k27⟩) hHeld ?z32n2k27
        case y32n2k27 => intro w hSw; (try dsimp only at hSw); go_simp <;> rfl
        try simp only [Act.put, List.setIfInBounds_toArray, List.set_cons_zero, List.set_cons_succ]
        refine wpAnyH_take (i := 33) (oi := ⟨some 132, Op.pick (Operand.tmp 122) (Operand.const (Value.bool true)) (Operand.tmp 131), 4, _, _, none⟩) (v := ?v33n2k28) rfl (by kernel_rfl) (by kernel_rfl) (by kernel_rfl) (fun _ _ _ h => h) (Or.inl ⟨by rfl, ?y33n2k28⟩) hHeld ?z33n2k28
        case y33n2k28 => intro w hSw; (try dsimp only at hSw); go_simp <;> rfl
        try simp only [Act.put, List.setIfInBounds_toArray, List.set_cons_zero, List.set_cons_succ]
        refine wpAnyH_done (by kernel_rfl) ?_ _
        refine NoPanic.normal ?_
        have hnl6 : nl ≤ 6 := by
          have h9 := len_le S'.cur six HC.out.nodup HS'.out.cur
          have e6 : six.length = 6 := rfl
          have e7 := HNL.out
          omega
        have hT0 : Hid (∀ t, Dir.look S'.cur t ≠ none → t ∈ six) := Lib.hid fun t ht => by
          obtain ⟨f, hf⟩ := Option.ne_none_iff_exists'.1 ht
          exact HS'.out.cur _ (Dir.mem_of_look hf)
        have M0 := Lib.hid m0
        have M6 := Lib.hid m6
        clear hHeld m0 m6 m7 hlen7
        go_wp2_with fail
        refine HC7.out.names.mono ?_
        rintro e w8 ⟨A8, c8, ns, rfl, hT, hcap, hL8, k8⟩
        have e8 : ns.length = nl := by rw [hT.len]; exact HNL.out
        rw [e8] at hcap ⊢
        have HT := Lib.hid hT
        have HL8 := Lib.hid hL8
        have HE8 := Lib.hid e8
        have K8 := Lib.hid (K7.out.step k8)
        have HC8 := Lib.hid (HC7.out.then_ k8)
        clear hT hL8 e8 k8
        have hstart : Hid (∀ t, ns[0]? = some t → ¬ t < ([] : List UInt8) ∧ t ≠ []) := Lib.hid fun t ht => by
          obtain ⟨f, hf⟩ := HT.out.mem t (List.mem_of_getElem? ht)
          exact ⟨List.not_lt_nil t, six_ne (hT0.out t (by rw [hf]; simp))⟩
        go_wp2
        go_loopw [136, 10] (fun v lv wr => ∃ (i : Nat) (la : List UInt8), i ≤ nl ∧ v = .int .i64 (i : Int) ∧ lv = .string (str la) ∧ Hid (∀ t, ns[i]? = some t → ¬ t < la ∧ t ≠ la) ∧ Kept noBlock w8 wr) (fun v _ _ => nl - (intOf v).toNat)
        case atStart => exact ⟨0, [], by omega, rfl, rfl, hstart, Kept.refl _ _⟩
        case round =>
          obtain ⟨i, la, hi, rfl, rfl, HLA, ki⟩ := hrel
          by_cases hil : i < nl
          · have hdec3 : decide ((i : Int) < (nl : Int)) = true := by simp; omega
            obtain ⟨s, hs⟩ : ∃ s, ns[i]? = some s := ⟨ns[i]'(by rw [HE8.out]; exact hil), List.getElem?_eq_getElem _⟩
            obtain ⟨f0, hlk⟩ := HT.out.mem s (List.mem_of_getElem? hs)
            have hs6 := hT0.out s (by rw [hlk]; simp)
            have hsl := six_len hs6
            obtain ⟨b8, o8, hA8, _, hc8⟩ := HL8.out.norm (by intro e; have h9 := congrArg List.length e; rw [List.length_map, HE8.out] at h9; simp at h9; omega)
            subst hA8
            have p1 : wr.cell? ⟨b8, o8 + i, none⟩ = some (.string (str s)) := ki.cell (hc8 i (sv s) (by rw [List.getElem?_map, hs]; rfl)) (fun h => h)
            have hla := HLA.out s hs
            have hle1 : Op.bytesLess (str s).toList (str la).toList = false := by rw [str_toList, str_toList, bytesLess_eq]; simpa using hla.1
            have hle2 : ((str s).toList == (str la).toList) = false := by rw [str_beq]; simpa using hla.2
            have hnext : Hid (∀ t, ns[i + 1]? = some t → ¬ t < s ∧ t ≠ s) := Lib.hid fun t ht => HT.out.up i s t hs ht
            have Kr := Lib.hid (K8.out.step ki)
            have HCr := Lib.hid (HC8.out.then_ ki)
            have r0 : wr.cell? ⟨mb, 0, none⟩ = some (.map (some mn)) := Kr.out.cell M0.out (fun h => h)
            have HNr := Lib.hid (HNm.out.keep Kr.out (fun _ _ h => h))
            obtain ⟨gf, hgf⟩ : ∃ gf, g f0 = gf := ⟨_, rfl⟩
            have hl2 : Dir.look (S'.cur.re g) s = some gf := by rw [Dir.re_look, hlk, ← hgf]; rfl
            obtain ⟨l, hfl⟩ := Option.isSome_iff_exists.1 (HC.out.ok.cur_fl _ (Dir.mem_of_look hlk))
            have hfc := Hfil.out s f0 l hlk hfl
            rw [hgf] at hfc
            have HFC := Lib.hid hfc
            have HFL := Lib.hid (show S'.fl f0 = some l from hfl)
            have HLK := Lib.hid hlk
            have KI := Lib.hid ki
            clear hs hlk hs6 hc8 hla hgf hfl hfc ki hdec3
            go_wp2_with (first | (at_lookup; refine wpList_look1 rfl _ _ 27 44 rfl Try.underlying27 zeroMfile (some mn) (S'.cur.re g) rfl HNr.out s rfl hsl ?_; rw [hl2]; clear hl2; show wpList _ _ _ _ (Act.put _ _ (Value.pointer (some ⟨gf, 0, none⟩))) _) | fail)
            refine (HCr.out.read s hsl).mono ?_
            rintro e w9 ⟨A9, c9, rfl, hL9, k9⟩
            have K9 := Lib.hid (Kr.out.step k9)
            have KI9 := Lib.hid (KI.out.step k9)
            have r6 : w9.cell? ⟨mb, 6, none⟩ = some (.bool dn) := K9.out.cell M6.out (fun h => h)
            have KID := Lib.hid (KI9.out.step (Kept.drew noBlock w9))
            clear k9 r0 p1
            cases dn with
            | true =>
              have hfd : S'.find s = (none, 7) := by unfold St.find; rw [if_pos HDN.out]
              have hrd : S'.read s = [] := by unfold St.read; rw [hfd]
              rw [hfd, hrd]
              clear hL9
              go_upto_region 25 with (fail)
              refine wp_region_noPanic ?_
              refine wp_region_held_drew (S := fun w' => w'.cell? ⟨mb, 6, none⟩ = some (.bool true)) (by kernel_rfl) r6 (fun hHeld => ?_)
              refine wpAnyH_take (i := 0) (oi := ⟨some 152, Op.move (Operand.tmp 12), 9, _, _, none⟩) (v := ?v0n3k1) rfl (by kernel_rfl) (by kernel_rfl) (by kernel_rfl) (fun _ _ _ h => h) (Or.inl ⟨by rfl, ?y0n3k1⟩) hHeld ?z0n3k1
              case y0n3k1 => intro w hSw; (try dsimp only at hSw); go_simp <;> rfl
              try simp only [Act.put, List.setIfInBounds_toArray, List.set_cons_zero, List.set_cons_succ]
              refine wpAnyH_take (i := 1) (oi := ⟨some 153, Op.move (Operand.tmp 10), 9, _, _, none⟩) (v := ?v1n3k2) rfl (by kernel_rfl) (by kernel_rfl) (by kernel_rfl) (fun _ _ _ h => h) (Or.inl ⟨by rfl, ?y1n3k2⟩) hHeld ?z1n3k2
              case y1n3k2 => intro w hSw; (try dsimp only at hSw); go_simp <;> rfl
              try simp only [Act.put, List.setIfInBounds_toArray, List.set_cons_zero, List.set_cons_succ]
              refine wpAnyH_take (i := 2) (oi := ⟨some 154, Op.binOp BinOp.leq 9 (Operand.tmp 152) (Operand.tmp 153) 9, 4, _, _, none⟩) (v := ?v2n3k3) rfl (by kernel_rfl) (by kernel_rfl) (by kernel_rfl) (fun _ _ _ h => h) (Or.inl ⟨by rfl, ?y2n3k3⟩) hHeld ?z2n3k3
              case y2n3k3 => intro w hSw; (try dsimp only at hSw); go_simp <;> rfl
              try simp only [Act.put, List.setIfInBounds_toArray, List.set_cons_zero, List.set_cons_succ]
              refine wpAnyH_take (i := 3) (oi := ⟨some 155, Op.move (Operand.tmp 154), 4, _, _, none⟩) (v := ?v3n3k4) rfl (by kernel_rfl) (by kernel_rfl) (by kernel_rfl) (fun _ _ _ h => h) (Or.inl ⟨by rfl, ?y3n3k4⟩) hHeld ?z3n3k4
              case y3n3k4 => intro w hSw; (try dsimp only at hSw); go_simp <;> rfl
              try simp only [Act.put, List.setIfInBounds_toArray, List.set_cons_zero, List.set_cons_succ]
              refine wpAnyH_take (i := 4) (oi := ⟨some 156, Op.move (Operand.tmp 13), 44, _, _, some (3, false)⟩) (v := ?v4n3k5) rfl (by kernel_rfl) (by kernel_rfl) (by kernel_rfl) (fun _ _ _ h => h) (Or.inl ⟨by rfl, ?y4n3k5⟩) hHeld ?z4n3k5
              case y4n3k5 => intro w hSw; (try dsimp only at hSw); go_simp <;> rfl
              try simp only [Act.put, List.setIfInBounds_toArray, List.set_cons_zero, List.set_cons_succ]
              refine wpAnyH_take (i := 5) (oi := ⟨some 157, Op.binOp BinOp.eql 44 (Operand.tmp 156) (Operand.const (Value.pointer none)) 44, 4, _, _, some (3, false)⟩) (v := ?v5n3k6) rfl (by kernel_rfl) (by kernel_rfl) (by kernel_rfl) (fun _ _ _ h => h) (Or.inl ⟨by rfl, ?y5n3k6⟩) hHeld ?z5n3k6
              case y5n3k6 => intro w hSw; (try dsimp only at hSw); go_simp <;> rfl
              try simp only [Act.put, List.setIfInBounds_toArray, List.set_cons_zero, List.set_cons_succ]
              refine wpAnyH_take (i := 6) (oi := ⟨some 158, Op.pick (Operand.tmp 155) (Operand.const (Value.bool true)) (Operand.tmp 157), 4, _, _, none⟩) (v := ?v6n3k7) rfl (by kernel_rfl) (by kernel_rfl) (by kernel_rfl) (fun _ _ _ h => h) (Or.inl ⟨by rfl, ?y6n3k7⟩) hHeld ?z6n3k7
              case y6n3k7 => intro w hSw; (try dsimp only at hSw); go_simp <;> rfl
              try simp only [Act.put, List.setIfInBounds_toArray, List.set_cons_zero, List.set_cons_succ]
              refine wpAnyH_take (i := 7) (oi := ⟨some 159, Op.move (Operand.tmp 158), 4, _, _, none⟩) (v := ?v7n3k8) rfl (by kernel_rfl) (by kernel_rfl) (by kernel_rfl) (fun _ _ _ h => h) (Or.inl ⟨by rfl, ?y7n3k8⟩) hHeld ?z7n3k8
              case y7n3k8 => intro w hSw; (try dsimp only at hSw); go_simp <;> rfl
              try simp only [Act.put, List.setIfInBounds_toArray, List.set_cons_zero, List.set_cons_succ]
              refine wpAnyH_take (i := 8) (oi := ⟨some 160, Op.move (Operand.tmp 6), 26, _, _, some (7, false)⟩) (v := ?v8n3k9) rfl (by kernel_rfl) (by kernel_rfl) (by kernel_rfl) (fun _ _ _ h => h) (Or.inl ⟨by rfl, ?y8n3k9⟩) hHeld ?z8n3k9
              case y8n3k9 => intro w hSw; (try dsimp only at hSw); go_simp <;> rfl
              try simp only [Act.put, List.setIfInBounds_toArray, List.set_cons_zero, List.set_cons_succ]
              refine wpAnyH_take (i := 9) (oi := ⟨some 161, Op.nilCheck (Operand.tmp 160), 0, _, _, some (7, false)⟩) (v := ?v9n3k10) rfl (by kernel_rfl) (by kernel_rfl) (by kernel_rfl) (fun _ _ _ h => h) (Or.inl ⟨by rfl, ?y9n3k10⟩) hHeld ?z9n3k10
              case y9n3k10 => intro w hSw; (try dsimp only at hSw); go_simp <;> rfl
              try simp only [Act.put, List.setIfInBounds_toArray, List.set_cons_zero, List.set_cons_succ]
              refine wpAnyH_take (i := 10) (oi := ⟨some 162, Op.fieldAddr 31 (Operand.tmp 161) 6, 0, _, _, some (7, false)⟩) (v := ?v10n3k11) rfl (by kernel_rfl) (by kernel_rfl) (by kernel_rfl) (fun _ _ _ h => h) (Or.inl ⟨by rfl, ?y10n3k11⟩) hHeld ?z10n3k11
              case y10n3k11 => intro w hSw; (try dsimp only at hSw); go_simp <;> rfl
              try simp only [Act.put, List.setIfInBounds_toArray, List.set_cons_zero, List.set_cons_succ]
              refine wpAnyH_take (i := 11) (oi := ⟨some 163, Op.load 4 (Operand.tmp 162), 4, _, _, some (7, false)⟩) (v := ?v11n3k12) rfl (by kernel_rfl) (by kernel_rfl) (by kernel_rfl) (fun _ _ _ h => h) (Or.inl ⟨by rfl, ?y11n3k12⟩) hHeld ?z11n3k12
              case y11n3k12 => intro w hSw; (try dsimp only at hSw); go_simp <;> rfl
              try simp only [Act.put, List.setIfInBounds_toArray, List.set_cons_zero, List.set_cons_succ]
              refine wpAnyH_take (i := 12) (oi := ⟨some 164, Op.move (Operand.tmp 163), 4, _, _, some (7, false)⟩) (v := ?v12n3k13) rfl (by kernel_rfl) (by kernel_rfl) (by kernel_rfl) (fun _ _ _ h => h) (Or.inl ⟨by rfl, ?y12n3k13⟩) hHeld ?z12n3k13
              case y12n3k13 => intro w hSw; (try dsimp only at hSw); go_simp <;> rfl
              try simp only [Act.put, List.setIfInBounds_toArray, List.set_cons_zero, List.set_cons_succ]
              refine wpAnyH_take (i := 13) (oi := ⟨some 165, Op.move (Operand.tmp 15), 38, _, _, some (12, true)⟩) (v := ?v13n3k14) rfl (by kernel_rfl) (by kernel_rfl) (by kernel_rfl) (fun _ _ _ h => h) (Or.inl ⟨by rfl, ?y13n3k14⟩) hHeld ?z13n3k14
              case y13n3k14 => intro w hSw; (try dsimp only at hSw); go_simp <;> rfl
              try simp only [Act.put, List.setIfInBounds_toArray, List.set_cons_zero, List.set_cons_succ]
              refine wpAnyH_take (i := 14) (oi := ⟨some 166, Op.binOp BinOp.neq 38 (Operand.tmp 165) (Operand.const (Value.int IntKind.i64 7)) 38, 4, _, _, some (12, true)⟩) (v := ?v14n3k15) rfl (by kernel_rfl) (by kernel_rfl) (by kernel_rfl) (fun _ _ _ h => h) (Or.inl ⟨by rfl, ?y14n3k15⟩) hHeld ?z14n3k15
              case y14n3k15 => intro w hSw; (try dsimp only at hSw); go_simp <;> rfl
              try simp only [Act.put, List.setIfInBounds_toArray, List.set_cons_zero, List.set_cons_succ]
              refine wpAnyH_take (i := 15) (oi := ⟨some 167, Op.pick (Operand.tmp 164) (Operand.tmp 166) (Operand.const (Value.bool false)), 4, _, _, some (7, false)⟩) (v := ?v15n3k16) rfl (by kernel_rfl) (by kernel_rfl) (by kernel_rfl) (fun _ _ _ h => h) (Or.inl ⟨by rfl, ?y15n3k16⟩) hHeld ?z15n3k16
              case y15n3k16 => intro w hSw; (try dsimp only at hSw); go_simp <;> rfl
              try simp only [Act.put, List.setIfInBounds_toArray, List.set_cons_zero, List.set_cons_succ]
              refine wpAnyH_take (i := 16) (oi := ⟨some 168, Op.pick (Operand.tmp 159) (Operand.const (Value.bool true)) (Operand.tmp 167), 4, _, _, none⟩) (v := ?v16n3k17) rfl (by kernel_rfl) (by kernel_rfl) (by kernel_rfl) (fun _ _ _ h => h) (Or.inl ⟨by rfl, ?y16n3k17⟩) hHeld ?z16n3k17
              case y16n3k17 => intro w hSw; (try dsimp only at hSw); go_simp <;> rfl
              try simp only [Act.put, List.setIfInBounds_toArray, List.set_cons_zero, List.set_cons_succ]
              refine wpAnyH_take (i := 17) (oi := ⟨some 169, Op.move (Operand.tmp 168), 4, _, _, none⟩) (v := ?v17n3k18) rfl (by kernel_rfl) (by kernel_rfl) (by kernel_rfl) (fun _ _ _ h => h) (Or.inl ⟨by rfl, ?y17n3k18⟩) hHeld ?z17n3k18
              case y17n3k18 => intro w hSw; (try dsimp only at hSw); go_simp <;> rfl
              try simp only [Act.put, List.setIfInBounds_toArray, List.set_cons_zero, List.set_cons_succ]
              refine wpAnyH_take (i := 18) (oi := ⟨some 170, Op.move (Operand.tmp 6), 26, _, _, some (17, false)⟩) (v := ?v18n3k19) rfl (by kernel_rfl) (by kernel_rfl) (by kernel_rfl) (fun _ _ _ h => h) (Or.inl ⟨by rfl, ?y18n3k19⟩) hHeld ?z18n3k19
              case y18n3k19 => intro w hSw; (try dsimp only at hSw); go_simp <;> rfl
              try simp only [Act.put, List.setIfInBounds_toArray, List.set_cons_zero, List.set_cons_succ]
              refine wpAnyH_take (i := 19) (oi := ⟨some 171, Op.nilCheck (Operand.tmp 170), 0, _, _, some (17, false)⟩) (v := ?v19n3k20) rfl (by kernel_rfl) (by kernel_rfl) (by kernel_rfl) (fun _ _ _ h => h) (Or.inl ⟨by rfl, ?y19n3k20⟩) hHeld ?z19n3k20
              case y19n3k20 => intro w hSw; (try dsimp only at hSw); go_simp <;> rfl
              try simp only [Act.put, List.setIfInBounds_toArray, List.set_cons_zero, List.set_cons_succ]
              refine wpAnyH_take (i := 20) (oi := ⟨some 172, Op.fieldAddr 31 (Operand.tmp 171) 6, 0, _, _, some (17, false)⟩) (v := ?v20n3k21) rfl (by kernel_rfl) (by kernel_rfl) (by kernel_rfl) (fun _ _ _ h => h) (Or.inl ⟨by rfl, ?y20n3k21⟩) hHeld ?z20n3k21
              case y20n3k21 => intro w hSw; (try dsimp only at hSw); go_simp <;> rfl
              try simp only [Act.put, List.setIfInBounds_toArray, List.set_cons_zero, List.set_cons_succ]
              refine wpAnyH_take (i := 21) (oi := ⟨some 173, Op.load 4 (Operand.tmp 172), 4, _, _, some (17, false)⟩) (v := ?v21n3k22) rfl (by kernel_rfl) (by kernel_rfl) (by kernel_rfl) (fun _ _ _ h => h) (Or.inl ⟨by rfl, ?y21n3k22⟩) hHeld ?z21n3k22
              case y21n3k22 => intro w hSw; (try dsimp only at hSw); go_simp <;> rfl
              try simp only [Act.put, List.setIfInBounds_toArray, List.set_cons_zero, List.set_cons_succ]
              refine wpAnyH_take (i := 22) (oi := ⟨some 174, Op.unOp UnOp.not 4 (Operand.tmp 173), 4, _, _, some (17, false)⟩) (v := ?v22n3k23) rfl (by kernel_rfl) (by kernel_rfl) (by kernel_rfl) (fun _ _ _ h => h) (Or.inl ⟨by rfl, ?y22n3k23⟩) hHeld ?z22n3k23
              case y22n3k23 => intro w hSw; (try dsimp only at hSw); go_simp <;> rfl
              try simp only [Act.put, List.setIfInBounds_toArray, List.set_cons_zero, List.set_cons_succ]
              refine wpAnyH_take (i := 23) (oi := ⟨some 175, Op.move (Operand.tmp 174), 4, _, _, some (17, false)⟩) (v := ?v23n3k24) rfl (by kernel_rfl) (by kernel_rfl) (by kernel_rfl) (fun _ _ _ h => h) (Or.inl ⟨by rfl, ?y23n3k24⟩) hHeld ?z23n3k24
              case y23n3k24 => intro w hSw; (try dsimp only at hSw); go_simp <;> rfl
              try simp only [Act.put, List.setIfInBounds_toArray, List.set_cons_zero, List.set_cons_succ]
              refine wpAnyH_take (i := 24) (oi := ⟨some 176, Op.move (Operand.tmp 15), 38, _, _, some (23, true)⟩) (v := undef) rfl (by kernel_rfl) (by kernel_rfl) (by kernel_rfl) (fun _ _ _ h => h) (Or.inr ⟨by rfl, rfl⟩) hHeld ?z24n3k25
              try simp only [Act.put, List.setIfInBounds_toArray, List.set_cons_zero, List.set_cons_succ]
              refine wpAnyH_take (i := 25) (oi := ⟨some 177, Op.binOp BinOp.neq 38 (Operand.tmp 176) (Operand.const (Value.int IntKind.i64 0)) 38, 4, _, _, some (23, true)⟩) (v := undef) rfl (by kernel_rfl) (by kernel_rfl) (by kernel_rfl) (fun _ _ _ h => h) (Or.inr ⟨by rfl, rfl⟩) hHeld ?z25n3k26
              try simp only [Act.put, List.setIfInBounds_toArray, List.set_cons_zero, List.set_cons_succ]
              refine wpAnyH_take (i := 26) (oi := ⟨some 178, Op.move (Operand.tmp 177), 4, _, _, some (23, true)⟩) (v := undef) rfl (by kernel_rfl) (by kernel_rfl) (by kernel_rfl) (fun _ _ _ h => h) (Or.inr ⟨by rfl, rfl⟩) hHeld ?z26n3k27
              try simp only [Act.put, List.setIfInBounds_toArray, List.set_cons_zero, List.set_cons_succ]
              refine wpAnyH_take (i := 27) (oi := ⟨some 179, Op.move (Operand.tmp 14), 32, _, _, some (26, false)⟩) (v := undef) rfl (by kernel_rfl) (by kernel_rfl) (by kernel_rfl) (fun _ _ _ h => h) (Or.inr ⟨by rfl, rfl⟩) hHeld ?z27n3k28
              try simp only [Act.put, List.setIfInBounds_toArray, List.set_cons_zero, List.set_cons_succ]
              refine wpAnyH_take (i := 28) (oi := ⟨some 180, Op.convert 32 9 (Operand.tmp 179), 9, _, _, some (26, false)⟩) (v := undef) rfl (by kernel_rfl) (by kernel_rfl) (by kernel_rfl) (fun _ _ _ h => h) (Or.inr ⟨by rfl, rfl⟩) hHeld ?z28n3k29
              try simp only [Act.put, List.setIfInBounds_toArray, List.set_cons_zero, List.set_cons_succ]
              refine wpAnyH_take (i := 29) (oi := ⟨some 181, Op.move (Operand.tmp 13), 44, _, _, some (26, false)⟩) (v := undef) rfl (by kernel_rfl) (by kernel_rfl) (by kernel_rfl) (fun _ _ _ h => h) (Or.inr ⟨by rfl, rfl⟩) hHeld ?z29n3k30
              try simp only [Act.put, List.setIfInBounds_toArray, List.set_cons_zero, List.set_cons_succ]
              refine wpAnyH_take (i := 30) (oi := ⟨some 182, Op.nilCheck (Operand.tmp 181), 0, _, _, some (26, false)⟩) (v := undef) rfl (by kernel_rfl) (by kernel_rfl) (by kernel_rfl) (fun _ _ _ h => h) (Or.inr ⟨by rfl, rfl⟩) hHeld ?z30n3k31
              try simp only [Act.put, List.setIfInBounds_toArray, List.set_cons_zero, List.set_cons_succ]
              refine wpAnyH_take (i := 31) (oi := ⟨some 183, Op.fieldAddr 48 (Operand.tmp 182) 0, 0, _, _, some (26, false)⟩) (v := undef) rfl (by kernel_rfl) (by kernel_rfl) (by kernel_rfl) (fun _ _ _ h => h) (Or.inr ⟨by rfl, rfl⟩) hHeld ?z31n3k32
              try simp only [Act.put, List.setIfInBounds_toArray, List.set_cons_zero, List.set_cons_succ]
              refine wpAnyH_take (i := 32) (oi := ⟨some 184, Op.load 9 (Operand.tmp 183), 9, _, _, some (26, false)⟩) (v := undef) rfl (by kernel_rfl) (by kernel_rfl) (by kernel_rfl) (fun _ _ _ h => h) (Or.inr ⟨by rfl, rfl⟩) hHeld ?z32n3k33
              try simp only [Act.put, List.setIfInBounds_toArray, List.set_cons_zero, List.set_cons_succ]
              refine wpAnyH_take (i := 33) (oi := ⟨some 185, Op.binOp BinOp.neq 9 (Operand.tmp 180) (Operand.tmp 184) 9, 4, _, _, some (26, false)⟩) (v := undef) rfl (by kernel_rfl) (by kernel_rfl) (by kernel_rfl) (fun _ _ _ h => h) (Or.inr ⟨by rfl, rfl⟩) hHeld ?z33n3k34
              try simp only [Act.put, List.setIfInBounds_toArray, List.set_cons_zero, List.set_cons_succ]
              refine wpAnyH_take (i := 34) (oi := ⟨some 186, Op.pick (Operand.tmp 178) (Operand.const (Value.bool true)) (Operand.tmp 185), 4, _, _, some (23, true)⟩) (v := undef) rfl (by kernel_rfl) (by kernel_rfl) (by kernel_rfl) (fun _ _ _ h => h) (Or.inr ⟨by rfl, rfl⟩) hHeld ?z34n3k35
              try simp only [Act.put, List.setIfInBounds_toArray, List.set_cons_zero, List.set_cons_succ]
              refine wpAnyH_take (i := 35) (oi := ⟨some 187, Op.pick (Operand.tmp 175) (Operand.tmp 186) (Operand.const (Value.bool false)), 4, _, _, some (17, false)⟩) (v := ?v35n3k36) rfl (by kernel_rfl) (by kernel_rfl) (by kernel_rfl) (fun _ _ _ h => h) (Or.inl ⟨by rfl, ?y35n3k36⟩) hHeld ?z35n3k36
              case y35n3k36 => intro w hSw; (try dsimp only at hSw); go_simp <;> rfl
              try simp only [Act.put, List.setIfInBounds_toArray, List.set_cons_zero, List.set_cons_succ]
              refine wpAnyH_take (i := 36) (oi := ⟨some 188, Op.pick (Operand.tmp 169) (Operand.const (Value.bool true)) (Operand.tmp 187), 4, _, _, none⟩) (v := ?v36n3k37) rfl (by kernel_rfl) (by kernel_rfl) (by kernel_rfl) (fun _ _ _ h => h) (Or.inl ⟨by rfl, ?y36n3k37⟩) hHeld ?z36n3k37
              case y36n3k37 => intro w hSw; (try dsimp only at hSw); go_simp <;> rfl
              try simp only [Act.put, List.setIfInBounds_toArray, List.set_cons_zero, List.set_cons_succ]
              refine wpAnyH_done (by kernel_rfl) ?_ _
              refine NoPanic.normal ?_
              clear hHeld
              go_wp2
              go_roundw
              case rel => exact ⟨i + 1, s, by omega, by go_num, rfl, hnext, KID.out⟩
              case measure => simp [intOf]; omega
            | false =>
              have hfd : S'.find s = (some f0, 0) := find_of HDN.out HLK.out
              have hrd : S'.read s = l.data := read_of HDN.out HLK.out HFL.out
              rw [hrd] at hL9
              rw [hfd, hrd]
              have rf : w9.cell? ⟨gf, 0, none⟩ = some (.string (str l.data)) := K9.out.cell HFC.out (fun h => h)
              obtain ⟨ll, hll⟩ : ∃ ll, l.data.length = ll := ⟨_, rfl⟩
              rw [hll]
              have hcv : (convert 32 9 (.slice A9 ll c9)).run Try.prog w9.drew = .ok (.string (str l.data)) w9.drew := run_str (hL9.keep (Kept.drew noBlock w9) (fun _ _ h => h)) hll c9
              clear hL9
              go_upto_region 25 with (fail)
              refine wp_region_noPanic ?_
              refine wp_region_held_drew (S := fun w' => w'.cell? ⟨mb, 6, none⟩ = some (.bool false) ∧ w'.cell? ⟨gf, 0, none⟩ = some (.string (str l.data)) ∧ (convert 32 9 (.slice A9 ll c9)).run Try.prog w' = .ok (.string (str l.data)) w') (by kernel_rfl) ⟨r6, rf, hcv⟩ (fun hHeld => ?_)
              refine wpAnyH_take (i := 0) (oi := ⟨some 152, Op.move (Operand.tmp 12), 9, _, _, none⟩) (v := ?v0n4k1) rfl (by kernel_rfl) (by kernel_rfl) (by kernel_rfl) (fun _ _ _ h => h) (Or.inl ⟨by rfl, ?y0n4k1⟩) hHeld ?z0n4k1
              case y0n4k1 => intro w hSw; (try dsimp only at hSw); go_simp <;> rfl
              try simp only [Act.put, List.setIfInBounds_toArray, List.set_cons_zero, List.set_cons_succ]
              refine wpAnyH_take (i := 1) (oi := ⟨some 153, Op.move (Operand.tmp 10), 9, _, _, none⟩) (v := ?v1n4k2) rfl (by kernel_rfl) (by kernel_rfl) (by kernel_rfl) (fun _ _ _ h => h) (Or.inl ⟨by rfl, ?y1n4k2⟩) hHeld ?z1n4k2
              case y1n4k2 => intro w hSw; (try dsimp only at hSw); go_simp <;> rfl
              try simp only [Act.put, List.setIfInBounds_toArray, List.set_cons_zero, List.set_cons_succ]
              refine wpAnyH_take (i := 2) (oi := ⟨some 154, Op.binOp BinOp.leq 9 (Operand.tmp 152) (Operand.tmp 153) 9, 4, _, _, none⟩) (v := ?v2n4k3) rfl (by kernel_rfl) (by kernel_rfl) (by kernel_rfl) (fun _ _ _ h => h) (Or.inl ⟨by rfl, ?y2n4k3⟩) hHeld ?z2n4k3
              case y2n4k3 => intro w hSw; (try dsimp only at hSw); go_simp <;> rfl
              try simp only [Act.put, List.setIfInBounds_toArray, List.set_cons_zero, List.set_cons_succ]
              refine wpAnyH_take (i := 3) (oi := ⟨some 155, Op.move (Operand.tmp 154), 4, _, _, none⟩) (v := ?v3n4k4) rfl (by kernel_rfl) (by kernel_rfl) (by kernel_rfl) (fun _ _ _ h => h) (Or.inl ⟨by rfl, ?y3n4k4⟩) hHeld ?z3n4k4
              case y3n4k4 => intro w hSw; (try dsimp only at hSw); go_simp <;> rfl
              try simp only [Act.put, List.setIfInBounds_toArray, List.set_cons_zero, List.set_cons_succ]
              refine wpAnyH_take (i := 4) (oi := ⟨some 156, Op.move (Operand.tmp 13), 44, _, _, some (3, false)⟩) (v := ?v4n4k5) rfl (by kernel_rfl) (by kernel_rfl) (by kernel_rfl) (fun _ _ _ h => h) (Or.inl ⟨by rfl, ?y4n4k5⟩) hHeld ?z4n4k5
              case y4n4k5 => intro w hSw; (try dsimp only at hSw); go_simp <;> rfl
              try simp only [Act.put, List.setIfInBounds_toArray, List.set_cons_zero, List.set_cons_succ]
              refine wpAnyH_take (i := 5) (oi := ⟨some 157, Op.binOp BinOp.eql 44 (Operand.tmp 156) (Operand.const (Value.pointer none)) 44, 4, _, _, some (3, false)⟩) (v := ?v5n4k6) rfl (by kernel_rfl) (by kernel_rfl) (by kernel_rfl) (fun _ _ _ h => h) (Or.inl ⟨by rfl, ?y5n4k6⟩) hHeld ?z5n4k6
              case y5n4k6 => intro w hSw; (try dsimp only at hSw); go_simp <;> rfl
              try simp only [Act.put, List.setIfInBounds_toArray, List.set_cons_zero, List.set_cons_succ]
              refine wpAnyH_take (i := 6) (oi := ⟨some 158, Op.pick (Operand.tmp 155) (Operand.const (Value.bool true)) (Operand.tmp 157), 4, _, _, none⟩) (v := ?v6n4k7) rfl (by kernel_rfl) (by kernel_rfl) (by kernel_rfl) (fun _ _ _ h => h) (Or.inl ⟨by rfl, ?y6n4k7⟩) hHeld ?z6n4k7
              case y6n4k7 => intro w hSw; (try dsimp only at hSw); go_simp <;> rfl
              try simp only [Act.put, List.setIfInBounds_toArray, List.set_cons_zero, List.set_cons_succ]
              refine wpAnyH_take (i := 7) (oi := ⟨some 159, Op.move (Operand.tmp 158), 4, _, _, none⟩) (v := ?v7n4k8) rfl (by kernel_rfl) (by kernel_rfl) (by kernel_rfl) (fun _ _ _ h => h) (Or.inl ⟨by rfl, ?y7n4k8⟩) hHeld ?z7n4k8
              case y7n4k8 => intro w hSw; (try dsimp only at hSw); go_simp <;> rfl
              try simp only [Act.put, List.setIfInBounds_toArray, List.set_cons_zero, List.set_cons_succ]
              refine wpAnyH_take (i := 8) (oi := ⟨some 160, Op.move (Operand.tmp 6), 26, _, _, some (7, false)⟩) (v := ?v8n4k9) rfl (by kernel_rfl) (by kernel_rfl) (by kernel_rfl) (fun _ _ _ h => h) (Or.inl ⟨by rfl, ?y8n4k9⟩) hHeld ?z8n4k9
              case y8n4k9 => intro w hSw; (try dsimp only at hSw); go_simp <;> rfl
              try simp only [Act.put, List.setIfInBounds_toArray, List.set_cons_zero, List.set_cons_succ]
              refine wpAnyH_take (i := 9) (oi := ⟨some 161, Op.nilCheck (Operand.tmp 160), 0, _, _, some (7, false)⟩) (v := ?v9n4k10) rfl (by kernel_rfl) (by kernel_rfl) (by kernel_rfl) (fun _ _ _ h => h) (Or.inl ⟨by rfl, ?y9n4k10⟩) hHeld ?z9n4k10
              case y9n4k10 => intro w hSw; (try dsimp only at hSw); go_simp <;> rfl
              try simp only [Act.put, List.setIfInBounds_toArray, List.set_cons_zero, List.set_cons_succ]
              refine wpAnyH_take (i := 10) (oi := ⟨some 162, Op.fieldAddr 31 (Operand.tmp 161) 6, 0, _, _, some (7, false)⟩) (v := ?v10n4k11) rfl (by kernel_rfl) (by kernel_rfl) (by kernel_rfl) (fun _ _ _ h => h) (Or.inl ⟨by rfl, ?y10n4k11⟩) hHeld ?z10n4k11
              case y10n4k11 => intro w hSw; (try dsimp only at hSw); go_simp <;> rfl
              try simp only [Act.put, List.setIfInBounds_toArray, List.set_cons_zero, List.set_cons_succ]
              refine wpAnyH_take (i := 11) (oi := ⟨some 163, Op.load 4 (Operand.tmp 162), 4, _, _, some (7, false)⟩) (v := ?v11n4k12) rfl (by kernel_rfl) (by kernel_rfl) (by kernel_rfl) (fun _ _ _ h => h) (Or.inl ⟨by rfl, ?y11n4k12⟩) hHeld ?z11n4k12
              case y11n4k12 => intro w hSw; (try dsimp only at hSw); go_simp <;> rfl
              try simp only [Act.put, List.setIfInBounds_toArray, List.set_cons_zero, List.set_cons_succ]
              refine wpAnyH_take (i := 12) (oi := ⟨some 164, Op.move (Operand.tmp 163), 4, _, _, some (7, false)⟩) (v := ?v12n4k13) rfl (by kernel_rfl) (by kernel_rfl) (by kernel_rfl) (fun _ _ _ h => h) (Or.inl ⟨by rfl, ?y12n4k13⟩) hHeld ?z12n4k13
              case y12n4k13 => intro w hSw; (try dsimp only at hSw); go_simp <;> rfl
              try simp only [Act.put, List.setIfInBounds_toArray, List.set_cons_zero, List.set_cons_succ]
              refine wpAnyH_take (i := 13) (oi := ⟨some 165, Op.move (Operand.tmp 15), 38, _, _, some (12, true)⟩) (v := undef) rfl (by kernel_rfl) (by kernel_rfl) (by kernel_rfl) (fun _ _ _ h => h) (Or.inr ⟨by rfl, rfl⟩) hHeld ?z13n4k14
              try simp only [Act.put, List.setIfInBounds_toArray, List.set_cons_zero, List.set_cons_succ]
              refine wpAnyH_take (i := 14) (oi := ⟨some 166, Op.binOp BinOp.neq 38 (Operand.tmp 165) (Operand.const (Value.int IntKind.i64 7)) 38, 4, _, _, some (12, true)⟩) (v := undef) rfl (by kernel_rfl) (by kernel_rfl) (by kernel_rfl) (fun _ _ _ h => h) (Or.inr ⟨by rfl, rfl⟩) hHeld ?z14n4k15
              try simp only [Act.put, List.setIfInBounds_toArray, List.set_cons_zero, List.set_cons_succ]
              refine wpAnyH_take (i := 15) (oi := ⟨some 167, Op.pick (Operand.tmp 164) (Operand.tmp 166) (Operand.const (Value.bool false)), 4, _, _, some (7, false)⟩) (v := ?v15n4k16) rfl (by kernel_rfl) (by kernel_rfl) (by kernel_rfl) (fun _ _ _ h => h) (Or.inl ⟨by rfl, ?y15n4k16⟩) hHeld ?z15n4k16
              case y15n4k16 => intro w hSw; (try dsimp only at hSw); go_simp <;> rfl
              try simp only [Act.put, List.setIfInBounds_toArray, List.set_cons_zero, List.set_cons_succ]
              refine wpAnyH_take (i := 16) (oi := ⟨some 168, Op.pick (Operand.tmp 159) (Operand.const (Value.bool true)) (Operand.tmp 167), 4, _, _, none⟩) (v := ?v16n4k17) rfl (by kernel_rfl) (by kernel_rfl) (by kernel_rfl) (fun _ _ _ h => h) (Or.inl ⟨by rfl, ?y16n4k17⟩) hHeld ?z16n4k17
              case y16n4k17 => intro w hSw; (try dsimp only at hSw); go_simp <;> rfl
              try simp only [Act.put, List.setIfInBounds_toArray, List.set_cons_zero, List.set_cons_succ]
              refine wpAnyH_take (i := 17) (oi := ⟨some 169, Op.move (Operand.tmp 168), 4, _, _, none⟩) (v := ?v17n4k18) rfl (by kernel_rfl) (by kernel_rfl) (by kernel_rfl) (fun _ _ _ h => h) (Or.inl ⟨by rfl, ?y17n4k18⟩) hHeld ?z17n4k18
              case y17n4k18 => intro w hSw; (try dsimp only at hSw); go_simp <;> rfl
              try simp only [Act.put, List.setIfInBounds_toArray, List.set_cons_zero, List.set_cons_succ]
              refine wpAnyH_take (i := 18) (oi := ⟨some 170, Op.move (Operand.tmp 6), 26, _, _, some (17, false)⟩) (v := ?v18n4k19) rfl (by kernel_rfl) (by kernel_rfl) (by kernel_rfl) (fun _ _ _ h => h) (Or.inl ⟨by rfl, ?y18n4k19⟩) hHeld ?z18n4k19
              case y18n4k19 => intro w hSw; (try dsimp only at hSw); go_simp <;> rfl
              try simp only [Act.put, List.setIfInBounds_toArray, List.set_cons_zero, List.set_cons_succ]
              refine wpAnyH_take (i := 19) (oi := ⟨some 171, Op.nilCheck (Operand.tmp 170), 0, _, _, some (17, false)⟩) (v := ?v19n4k20) rfl (by kernel_rfl) (by kernel_rfl) (by kernel_rfl) (fun _ _ _ h => h) (Or.inl ⟨by rfl, ?y19n4k20⟩) hHeld ?z19n4k20
              case y19n4k20 => intro w hSw; (try dsimp only at hSw); go_simp <;> rfl
              try simp only [Act.put, List.setIfInBounds_toArray, List.set_cons_zero, List.set_cons_succ]
              refine wpAnyH_take (i := 20) (oi := ⟨some 172, Op.fieldAddr 31 (Operand.tmp 171) 6, 0, _, _, some (17, false)⟩) (v := ?v20n4k21) rfl (by kernel_rfl) (by kernel_rfl) (by kernel_rfl) (fun _ _ _ h => h) (Or.inl ⟨by rfl, ?y20n4k21⟩) hHeld ?z20n4k21
              case y20n4k21 => intro w hSw; (try dsimp only at hSw); go_simp <;> rfl
              try simp only [Act.put, List.setIfInBounds_toArray, List.set_cons_zero, List.set_cons_succ]
              refine wpAnyH_take (i := 21) (oi := ⟨some 173, Op.load 4 (Operand.tmp 172), 4, _, _, some (17, false)⟩) (v := ?v21n4k22) rfl (by kernel_rfl) (by kernel_rfl) (by kernel_rfl) (fun _ _ _ h => h) (Or.inl ⟨by rfl, ?y21n4k22⟩) hHeld ?z21n4k22
              case y21n4k22 => intro w hSw; (try dsimp only at hSw); go_simp <;> rfl
              try simp only [Act.put, List.setIfInBounds_toArray, List.set_cons_zero, List.set_cons_succ]
              refine wpAnyH_take (i := 22) (oi := ⟨some 174, Op.unOp UnOp.not 4 (Operand.tmp 173), 4, _, _, some (17, false)⟩) (v := ?v22n4k23) rfl (by kernel_rfl) (by kernel_rfl) (by kernel_rfl) (fun _ _ _ h => h) (Or.inl ⟨by rfl, ?y22n4k23⟩) hHeld ?z22n4k23
              case y22n4k23 => intro w hSw; (try dsimp only at hSw); go_simp <;> rfl
              try simp only [Act.put, List.setIfInBounds_toArray, List.set_cons_zero, List.set_cons_succ]
              refine wpAnyH_take (i := 23) (oi := ⟨some 175, Op.move (Operand.tmp 174), 4, _, _, some (17, false)⟩) (v := ?v23n4k24) rfl (by kernel_rfl) (by kernel_rfl) (by kernel_rfl) (fun _ _ _ h => h) (Or.inl ⟨by rfl, ?y23n4k24⟩) hHeld ?z23n4k24
              case y23n4k24 => intro w hSw; (try dsimp only at hSw); go_simp <;> rfl
              try simp only [Act.put, List.setIfInBounds_toArray, List.set_cons_zero, List.set_cons_succ]
              refine wpAnyH_take (i := 24) (oi := ⟨some 176, Op.move (Operand.tmp 15), 38, _, _, some (23, true)⟩) (v := ?v24n4k25) rfl (by kernel_rfl) (by kernel_rfl) (by kernel_rfl) (fun _ _ _ h => h) (Or.inl ⟨by rfl, ?y24n4k25⟩) hHeld ?z24n4k25
              case y24n4k25 => intro w hSw; (try dsimp only at hSw); go_simp <;> rfl
              try simp only [Act.put, List.setIfInBounds_toArray, List.set_cons_zero, List.set_cons_succ]
              refine wpAnyH_take (i := 25) (oi := ⟨some 177, Op.binOp BinOp.neq 38 (Operand.tmp 176) (Operand.const (Value.int IntKind.i64 0)) 38, 4, _, _, some (23, true)⟩) (v := ?v25n4k26) rfl (by kernel_rfl) (by kernel_rfl) (by kernel_rfl) (fun _ _ _ h => h) (Or.inl ⟨by rfl, ?y25n4k26⟩) hHeld ?z25n4k26
              case y25n4k26 => intro w hSw; (try dsimp only at hSw); go_simp <;> rfl
              try simp only [Act.put, List.setIfInBounds_toArray, List.set_cons_zero, List.set_cons_succ]
              refine wpAnyH_take (i := 26) (oi := ⟨some 178, Op.move (Operand.tmp 177), 4, _, _, some (23, true)⟩) (v := ?v26n4k27) rfl (by kernel_rfl) (by kernel_rfl) (by kernel_rfl) (fun _ _ _ h => h) (Or.inl ⟨by rfl, ?y26n4k27⟩) hHeld ?z26n4k27
              case y26n4k27 => intro w hSw; (try dsimp only at hSw); go_simp <;> rfl
              try simp only [Act.put, List.setIfInBounds_toArray, List.set_cons_zero, List.set_cons_succ]
              refine wpAnyH_take (i := 27) (oi := ⟨some 179, Op.move (Operand.tmp 14), 32, _, _, some (26, false)⟩) (v := ?v27n4k28) rfl (by kernel_rfl) (by kernel_rfl) (by kernel_rfl) (fun _ _ _ h => h) (Or.inl ⟨by rfl, ?y27n4k28⟩) hHeld ?z27n4k28
              case y27n4k28 => intro w hSw; (try dsimp only at hSw); go_simp <;> rfl
              try simp only [Act.put, List.setIfInBounds_toArray, List.set_cons_zero, List.set_cons_succ]
              refine wpAnyH_take (i := 28) (oi := ⟨some 180, Op.convert 32 9 (Operand.tmp 179), 9, _, _, some (26, false)⟩) (v := ?v28n4k29) rfl (by kernel_rfl) (by kernel_rfl) (by kernel_rfl) (fun _ _ _ h => h) (Or.inl ⟨by rfl, ?y28n4k29⟩) hHeld ?z28n4k29
              case y28n4k29 => intro w hSw; (try dsimp only at hSw); go_simp <;> rfl
              try simp only [Act.put, List.setIfInBounds_toArray, List.set_cons_zero, List.set_cons_succ]
              refine wpAnyH_take (i := 29) (oi := ⟨some 181, Op.move (Operand.tmp 13), 44, _, _, some (26, false)⟩) (v := ?v29n4k30) rfl (by kernel_rfl) (by kernel_rfl) (by kernel_rfl) (fun _ _ _ h => h) (Or.inl ⟨by rfl, ?y29n4k30⟩) hHeld ?z29n4k30
              case y29n4k30 => intro w hSw; (try dsimp only at hSw); go_simp <;> rfl
              try simp only [Act.put, List.setIfInBounds_toArray, List.set_cons_zero, List.set_cons_succ]
              refine wpAnyH_take (i := 30) (oi := ⟨some 182, Op.nilCheck (Operand.tmp 181), 0, _, _, some (26, false)⟩) (v := ?v30n4k31) rfl (by kernel_rfl) (by kernel_rfl) (by kernel_rfl) (fun _ _ _ h => h) (Or.inl ⟨by rfl, ?y30n4k31⟩) hHeld ?z30n4k31
              case y30n4k31 => intro w hSw; (try dsimp only at hSw); go_simp <;> rfl
              try simp only [Act.put, List.setIfInBounds_toArray, List.set_cons_zero, List.set_cons_succ]
              refine wpAnyH_take (i := 31) (oi := ⟨some 183, Op.fieldAddr 48 (Operand.tmp 182) 0, 0, _, _, some (26, false)⟩) (v := ?v31n4k32) rfl (by kernel_rfl) (by kernel_rfl) (by kernel_rfl) (fun _ _ _ h => h) (Or.inl ⟨by rfl, ?y31n4k32⟩) hHeld ?z31n4k32
              case y31n4k32 => intro w hSw; (try dsimp only at hSw); go_simp <;> rfl
              try simp only [Act.put, List.setIfInBounds_toArray, List.set_cons_zero, List.set_cons_succ]
              refine wpAnyH_take (i := 32) (oi := ⟨some 184, Op.load 9 (Operand.tmp 183), 9, _, _, some (26, false)⟩) (v := ?v32n4k33) rfl (by kernel_rfl) (by kernel_rfl) (by kernel_rfl) (fun _ _ _ h => h) (Or.inl ⟨by rfl, ?y32n4k33⟩) hHeld ?z32n4k33
              case y32n4k33 => intro w hSw; (try dsimp only at hSw); go_simp <;> rfl
              try simp only [Act.put, List.setIfInBounds_toArray, List.set_cons_zero, List.set_cons_succ]
              refine wpAnyH_take (i := 33) (oi := ⟨some 185, Op.binOp BinOp.neq 9 (Operand.tmp 180) (Operand.tmp 184) 9, 4, _, _, some (26, false)⟩) (v := ?v33n4k34) rfl (by kernel_rfl) (by kernel_rfl) (by kernel_rfl) (fun _ _ _ h => h) (Or.inl ⟨by rfl, ?y33n4k34⟩) hHeld ?z33n4k34
              case y33n4k34 => intro w hSw; (try dsimp only at hSw); go_simp <;> rfl
              try simp only [Act.put, List.setIfInBounds_toArray, List.set_cons_zero, List.set_cons_succ]
              refine wpAnyH_take (i := 34) (oi := ⟨some 186, Op.pick (Operand.tmp 178) (Operand.const (Value.bool true)) (Operand.tmp 185), 4, _, _, some (23, true)⟩) (v := ?v34n4k35) rfl (by kernel_rfl) (by kernel_rfl) (by kernel_rfl) (fun _ _ _ h => h) (Or.inl ⟨by rfl, ?y34n4k35⟩) hHeld ?z34n4k35
              case y34n4k35 => intro w hSw; (try dsimp only at hSw); go_simp <;> rfl
              try simp only [Act.put, List.setIfInBounds_toArray, List.set_cons_zero, List.set_cons_succ]
              refine wpAnyH_take (i := 35) (oi := ⟨some 187, Op.pick (Operand.tmp 175) (Operand.tmp 186) (Operand.const (Value.bool false)), 4, _, _, some (17, false)⟩) (v := ?v35n4k36) rfl (by kernel_rfl) (by kernel_rfl) (by kernel_rfl) (fun _ _ _ h => h) (Or.inl ⟨by rfl, ?y35n4k36⟩) hHeld ?z35n4k36
              case y35n4k36 => intro w hSw; (try dsimp only at hSw); go_simp <;> rfl
              try simp only [Act.put, List.setIfInBounds_toArray, List.set_cons_zero, List.set_cons_succ]
              refine wpAnyH_take (i := 36) (oi := ⟨some 188, Op.pick (Operand.tmp 169) (Operand.const (Value.bool true)) (Operand.tmp 187), 4, _, _, none⟩) (v := ?v36n4k37) rfl (by kernel_rfl) (by kernel_rfl) (by kernel_rfl) (fun _ _ _ h => h) (Or.inl ⟨by rfl, ?y36n4k37⟩) hHeld ?z36n4k37
              case y36n4k37 => intro w hSw; (try dsimp only at hSw); go_simp <;> rfl
              try simp only [Act.put, List.setIfInBounds_toArray, List.set_cons_zero, List.set_cons_succ]
              refine wpAnyH_done (by kernel_rfl) ?_ _
              refine NoPanic.normal ?_
              clear hHeld hcv
              go_wp2
              go_roundw
              case rel => exact ⟨i + 1, s, by omega, by go_num, rfl, hnext, KID.out⟩
              case measure => simp [intOf]; omega
          · obtain rfl : i = nl := by omega
            have HCf := Lib.hid (HC8.out.then_ ki)
            clear ki
            go_wp2
            go_roundw
            case rel => exact ⟨k + 1, S', by omega, by go_num, HB', HS', HCf⟩
            case measure => simp [intOf]; omega
    · obtain rfl : k = mm := by omega
      go_wp2
      go_ret
      exact ⟨by simp, K1.out.step HH.out.kept⟩
end Go.Proofs.Ytdcccjkondjhbaa
