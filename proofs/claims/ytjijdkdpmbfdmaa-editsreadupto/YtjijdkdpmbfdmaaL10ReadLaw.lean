/-
  The walk of EditsRead. No statement is proved here.
-/
import Derived.Test.YtjijdkdpmbfdmaaL10ReadPl
namespace Go.Proofs.Ytjijdkdpmbfdmaa
open Go.RowKit Tot

set_option maxRecDepth 100000 in
set_option maxHeartbeats 4000000 in
theorem eread10_walk (F : Nat → Prop) (a0 : Option Addr) (n0 c0 : Nat) (raw : List UInt8) (a : Option Addr) (n cp : Nat) (ss : List StepV) (at_ : Nat) (y : UInt8) (w : World) (hraw : Lies w (fun i => i < w.heap.size) a0 (raw.map bv)) (hrl : raw.length = n0) (hr0 : n0 ≤ 1100000) (h : Lies w F a (stepCells ss)) (hx : ∀ x ∈ ss, x.lies F w ∧ x.any.name.size ≤ 1048576) (hl : ss.length = n) (hnc : n ≤ cp) (hat : at_ < 65536) :
    Calls Try.prog 6 #[.slice a0 n0 c0, .slice a n cp, .int .u16 (at_ : Int), .int .u8 (y.toNat : Int)] w fun e w' => e = .returned (.bool true) ∧ Kept noBlock w w' := by
  obtain ⟨M, hM⟩ : ∃ M, M = min n 20 := ⟨_, rfl⟩
  have q1 : (if (20 : Int) < (n : Int) then (20 : Int) else (n : Int)) = (M : Int) := by split <;> omega
  have q2 : min (n : Int) 20 = (M : Int) := by omega
  have i1 : (M : Int) ≤ cp := by omega
  have hM20 : M ≤ 20 := by omega
  have hMn : M ≤ n := by omega
  have hy := y.toNat_lt
  have H := Lib.hid h
  have HX := Lib.hid hx
  have HL := Lib.hid hl
  have HRW := Lib.hid hraw
  have HRL := Lib.hid hrl
  clear h hx hl hM hraw hrl
  go_enter Try.func6, Try.ntmps6
  go_wp2_with fail
  refine (awake10_any w).mono ?_
  rintro en w1 ⟨rfl, k1⟩
  have ka := Kept.alloc noBlock w1 (.cells #[.slice a0 n0 c0] 28)
  have ho := World.ownsRow_lit (base := 0) (e := 28) (size := 1) w1 #[.slice a0 n0 c0] 1 (Nat.zero_le _) (by unfold maxLen; omega) (by simp)
  go_upto_region 4 with (fail)
  obtain ⟨P0, hP0⟩ : ∃ P, P = w1.heap.size := ⟨_, rfl⟩
  have hwP : w.heap.size ≤ P0 := by rw [hP0]; exact k1.size
  rw [← hP0] at ho ⊢
  generalize w1.alloc (.cells #[.slice a0 n0 c0] 28) = u0 at ka ho ⊢
  have L0 : Hid (AllR w u0 (some ⟨P0, 0, none⟩) 1 1 [⟨a0, c0, raw⟩]) := by
    refine ⟨?_, fun z hz => ?_, fun z hz => ?_, fun i hi => ?_, rfl, k1.step ka⟩
    · have := ho
      simpa [RwV.val, HRL.out] using this
    · rw [List.mem_singleton] at hz
      subst hz
      refine (HRW.out.keep (k1.step ka) (fun _ _ h => h)).mono (fun i hi e => ?_)
      simp [Value.ownBlock] at e
      omega
    · rw [List.mem_singleton] at hz
      subst hz
      rw [HRL.out]
      exact hr0
    · simp [Value.ownBlock] at hi
      omega
  clear ka ho hP0 k1
  go_wp2_with fail
  go_loopw [28, 9] (fun i al wr => ∃ (k : Nat) (P : Option Addr) (m pc : Nat) (ys : List RwV), k ≤ M ∧ i = .int .i64 (k : Int) ∧ al = .slice P m pc ∧ Hid (m = 1 + 2 * k) ∧ Hid (AllR w wr P m pc ys)) (fun i _ _ => M - (intOf i).toNat)
  case atStart => exact ⟨0, some ⟨P0, 0, none⟩, 1, 1, [⟨a0, c0, raw⟩], by omega, rfl, rfl, rfl, L0⟩
  case round =>
    obtain ⟨k, P, m, pc, ys, hkM, rfl, rfl, hm, LS⟩ := hrel
    by_cases hlt : k < M
    · obtain ⟨x, hx⟩ : ∃ x, ss[k]? = some x := ⟨_, List.getElem?_eq_getElem (by have := HL.out; omega)⟩
      obtain ⟨ad, o, rfl, _, cc⟩ := (H.out.keep LS.out.kept (fun _ _ h => h)).elem (enc := StepV.cells) step_len (by omega) hx
      have e0 := cc 0 _ rfl
      have e1 := cc 1 _ rfl
      have e2 := cc 2 _ rfl
      have e3 := cc 3 _ rfl
      have e4 := cc 4 _ rfl
      have e5 := cc 5 _ rfl
      have e6 := cc 6 _ rfl
      have e7 := cc 7 _ rfl
      rw [Nat.add_zero] at e0
      have XL := Lib.hid ((HX.out x (List.mem_of_getElem? hx)).1.keep LS.out.kept (fun _ _ h => h))
      have hxn := (HX.out x (List.mem_of_getElem? hx)).2
      have ka := Kept.alloc noBlock wr (.cells #[.slice x.A x.add.length x.ca, .slice x.D x.drop.length x.cd, .int .u8 (x.floor.toNat : Int), .bool x.odd, .string x.any.name, .int .i64 x.any.kind, .int .i64 x.any.from_, .int .i64 x.any.to_] 33)
      have ha := heap_alloc_new wr (.cells #[.slice x.A x.add.length x.ca, .slice x.D x.drop.length x.cd, .int .u8 (x.floor.toNat : Int), .bool x.odd, .string x.any.name, .int .i64 x.any.kind, .int .i64 x.any.from_, .int .i64 x.any.to_] 33)
      clear cc hx
      go_upto_region 7 with (fail)
      generalize wr.alloc (.cells #[.slice x.A x.add.length x.ca, .slice x.D x.drop.length x.cd, .int .u8 (x.floor.toNat : Int), .bool x.odd, .string x.any.name, .int .i64 x.any.kind, .int .i64 x.any.from_, .int .i64 x.any.to_] 33) = w3 at ka ha ⊢
      have K3 := Lib.hid ka
      have LE := Lib.hid (edit_step (XL.out.keep ka (fun _ _ h => h)) w3 (Kept.refl _ _))
      obtain ⟨hb24, hbN⟩ := editOf_bytes x
      obtain ⟨y0, y1, y2, y3, y4, y5, y6, y7⟩ := step_cells ha
      obtain ⟨e, he⟩ : ∃ e, e = editOf x := ⟨_, rfl⟩
      rw [← he] at LE hb24 hbN
      obtain ⟨N, hN⟩ : ∃ N, N = e.bytes.length := ⟨_, rfl⟩
      rw [← hN] at hb24 hbN
      have HN := Lib.hid hN
      clear e0 e1 e2 e3 e4 e5 e6 e7 ka ha XL he hN
      go_wp2_with fail
      refine LE.out.mono ?_
      rintro en w4 ⟨A2, a2, D2, d2, rfl, ev2, k4⟩
      have EB := ebytes_any (fun _ => True) e A2 a2 D2 d2 N w4 ev2 HN.out.symm (by omega)
      unfold evl at EB
      have EB := Lib.hid EB
      clear LE ev2 y0 y1 y2 y3 y4 y5 y6 y7
      go_wp2_with fail
      refine EB.out.mono ?_
      rintro en w5 ⟨Pb, cb, rfl, o5, k5⟩
      have K5 : Hid (Kept noBlock wr w5) := (K3.out.step k4).step k5
      have hcb : N ≤ cb := by obtain ⟨_, _, e, hle⟩ := own_form o5; injection e with _ _ e; omega
      have L5 : Hid (Lies w5 (fun i => wr.heap.size ≤ i ∧ i < w5.heap.size) Pb (e.bytes.map bv)) := Lies.of_own (F := fun i => wr.heap.size ≤ i ∧ i < w5.heap.size) o5 (fun i hi => by have h1 := o5.lt i hi; have h2 := (K3.out.step k4).size; exact ⟨by omega, h1.2⟩)
      have hNN : ((N : Int) == 0) = false := by simpa using (by omega : ¬ (N : Int) = 0)
      have hsrc : Src Try.prog 1 28 (.slice Pb N cb) N (e.bytes.map bv) w5 := src_lies Try.underlying28 L5.out (by rw [List.length_map, HN.out]) (bv_one _)
      clear o5 k4 k5 K3 EB
      go_wp2_with (at_builtin; refine wpList_append_src rfl _ _ 28 28 rfl 5 (.int .u8 0) 1 1 Try.underlying28 Try.infoU8f rfl (.slice none 0 0) 0 [] rfl (World.ownsRow_nil _ _ _ _) _ N (e.bytes.map bv) rfl hsrc ?c3 ?c4 ?_)
      case c3 => unfold maxLen; omega
      case c4 => omega
      intro A6 c6 w6 o6 k6 at6
      have K6 := Lib.hid (k6.mono (T := noBlock) (fun _ _ h => by simp [Value.ownBlock] at h))
      have hb6 : ∀ i, (Value.slice A6 N c6).ownBlock = some i → w5.heap.size ≤ i ∧ i < w6.heap.size := fun i hi => by
        rcases at6 i hi with h | h
        · simp [Value.ownBlock] at h
        · exact h
      obtain ⟨g, cap, hv, _, _⟩ := o6.form (by omega)
      obtain ⟨rfl, rfl⟩ : A6 = some ⟨g, 0, none⟩ ∧ c6 = cap := by injection hv with a b c; exact ⟨a, c⟩
      have hg := hb6 g rfl
      have hc6 : N ≤ c6 := by obtain ⟨_, _, e, hle⟩ := own_form o6; injection e with _ _ e; omega
      obtain ⟨K, hK⟩ : ∃ K, K = at_ % N := ⟨_, rfl⟩
      have hKN : K < N := by rw [hK]; exact Nat.mod_lt _ (by omega)
      have i2 : (at_ : Int) % (N : Int) = (K : Int) := by omega
      obtain ⟨b, hb⟩ : ∃ b, e.bytes[K]? = some b := ⟨_, List.getElem?_eq_getElem (by have := HN.out; omega)⟩
      have hcx : w6.cell? ⟨g, K, none⟩ = some (.int .u8 (b.toNat : Int)) := by rw [o6.cellAt K (by omega)]; rw [List.getElem?_map, hb]; rfl
      have hf : w6.frozen? ⟨g, K, none⟩ = false := o6.frozenAt _
      obtain ⟨z, hz⟩ : ∃ z : UInt8, z = b ^^^ y := ⟨_, rfl⟩
      have hxor : bits BinOp.xor IntKind.u8 (b.toNat : Int) (y.toNat : Int) = (z.toNat : Int) := by rw [hz, UInt8.toNat_xor]; exact u8_xor_nat _ _ b.toNat_lt y.toNat_lt
      have HS := Lib.hid (o6.stored K (.int .u8 (z.toNat : Int)))
      have hset : (e.bytes.map bv).set K (.int .u8 (z.toNat : Int)) = (e.bytes.set K z).map bv := by rw [List.map_set]; rfl
      rw [hset] at HS
      have hKi : (K : Int) < (N : Int) := by omega
      have hNi : (0 : Int) < (N : Int) := by omega
      have HB6 := Lib.hid hb6
      have HG := Lib.hid hg
      clear hv o6 k6 at6 hz hset hb hK hsrc hb6 hg
      go_upto_region 12 with (fail)
      have k7 : Kept noBlock w5 (w6.setCell ⟨g, K, none⟩ (.int .u8 (z.toNat : Int))) := K6.out.trans (Kept.setCell (S := fun i => i = g) _ (by rfl) _) (fun i hi h => by have := HG.out; omega)
      have hsz := (Kept.setCell (S := fun i => i = g) w6 (p := ⟨g, K, none⟩) (by rfl) (.int .u8 (z.toNat : Int))).size
      have l7 : Lies (w6.setCell ⟨g, K, none⟩ (.int .u8 (z.toNat : Int))) (fun i => wr.heap.size ≤ i ∧ i < (w6.setCell ⟨g, K, none⟩ (.int .u8 (z.toNat : Int))).heap.size) (some ⟨g, 0, none⟩) ((e.bytes.set K z).map bv) := Lies.of_own HS.out.1 (fun i hi => by have h1 := HB6.out i hi; have h2 := K5.out.size; omega)
      generalize w6.setCell ⟨g, K, none⟩ (.int .u8 (z.toNat : Int)) = w7 at k7 l7 hsz ⊢
      have K7 := Lib.hid (K5.out.step k7)
      have L7 := Lib.hid l7
      have LB7 : Hid (Lies w7 (fun i => wr.heap.size ≤ i ∧ i < w7.heap.size) Pb ((e.bytes.take K).map bv)) := by
        unfold Hid
        rw [List.map_take]
        exact ((L5.out.keep k7 (fun _ _ h => h)).mono (fun i hi => ⟨hi.1, Nat.lt_of_lt_of_le hi.2 k7.size⟩)).take K
      have ka := Kept.alloc noBlock w7 (.cells #[.slice (some ⟨g, 0, none⟩) N c6, .slice Pb K cb] 28)
      have ha := heap_alloc_new w7 (.cells #[.slice (some ⟨g, 0, none⟩) N c6, .slice Pb K cb] 28)
      have hown8 := (LS.out.keep (K7.out.step ka)).own
      have hsrc8 : Src Try.prog 1 61 (.slice (some ⟨w7.heap.size, 0, none⟩) 2 2) 2 [.slice (some ⟨g, 0, none⟩) N c6, .slice Pb K cb] (w7.alloc (.cells #[.slice (some ⟨g, 0, none⟩) N c6, .slice Pb K cb] 28)) :=
        src_lies (F := fun _ => True) Try.underlying61 (fun _ => ⟨_, rfl, trivial, fun j u hu => by
          rw [add_plain, cell_of_row _ _ _ _ _ _ ha]
          simpa using hu⟩) rfl (by simp [Value.oneCell'])
      have hv1 : RwV.val ⟨some ⟨g, 0, none⟩, c6, e.bytes.set K z⟩ = .slice (some ⟨g, 0, none⟩) N c6 := by unfold RwV.val; simp only [List.length_set]; rw [← HN.out]
      have hv2 : RwV.val ⟨Pb, cb, e.bytes.take K⟩ = .slice Pb K cb := by unfold RwV.val; simp only [List.length_take]; rw [← HN.out, Nat.min_eq_left (by omega)]
      have HAT : Hid (∀ (P' : Option Addr) (pc' : Nat) (v : World), v.ownsRow 0 28 1 (.slice P' (m + 2) pc') (m + 2) (ys.map RwV.val ++ [.slice (some ⟨g, 0, none⟩) N c6, .slice Pb K cb]) → Kept (fun i => (Value.slice P m pc).ownBlock = some i) (w7.alloc (.cells #[.slice (some ⟨g, 0, none⟩) N c6, .slice Pb K cb] 28)) v → (∀ i, (Value.slice P' (m + 2) pc').ownBlock = some i → (Value.slice P m pc).ownBlock = some i ∨ fresh (w7.alloc (.cells #[.slice (some ⟨g, 0, none⟩) N c6, .slice Pb K cb] 28)) v i) →
          AllR w v P' (m + 2) pc' (ys ++ [⟨some ⟨g, 0, none⟩, c6, e.bytes.set K z⟩, ⟨Pb, cb, e.bytes.take K⟩])) := fun P' pc' v o k hat =>
        LS.out.two (K7.out.step ka) _ _ ((L7.out.keep ka (fun _ _ h => h)).mono (fun i hi => ⟨hi.1, Nat.lt_of_lt_of_le hi.2 ka.size⟩)) ((LB7.out.keep ka (fun _ _ h => h)).mono (fun i hi => ⟨hi.1, Nat.lt_of_lt_of_le hi.2 ka.size⟩)) (by simp only [List.length_set]; rw [← HN.out]; omega) (by simp only [List.length_take]; rw [← HN.out]; omega) (by rw [hv1, hv2]; exact o) k hat
      have HMK := Lib.hid hm
      have hm41 : m ≤ 41 := by have := HMK.out.out; omega
      clear ka ha hv1 hv2 l7 k7 hsz L5 LB7 L7 hm HS hcx hf hxor
      go_wp2_with (at_builtin; refine wpList_append_src rfl _ _ 61 61 rfl 28 (.slice none 0 0) 1 24 Try.underlying61 Try.infoBytes rfl (.slice P m pc) m (ys.map RwV.val) rfl hown8 _ 2 [.slice (some ⟨g, 0, none⟩) N c6, .slice Pb K cb] rfl hsrc8 ?c3 ?c4 ?_)
      case c3 => unfold maxLen; omega
      case c4 => omega
      intro P9 pc9 w9 o9 k9 hat9
      have LN := Lib.hid (HAT.out P9 pc9 w9 o9 k9 hat9)
      obtain ⟨m2, hm2⟩ : ∃ m2, m2 = m + 2 := ⟨_, rfl⟩
      rw [← hm2] at LN ⊢
      have HM2 : Hid (m2 = 1 + 2 * (k + 1)) := by unfold Hid; have := HMK.out.out; omega
      clear o9 k9 hat9 hown8 hsrc8 HAT hm2
      go_wp2
      go_roundw
      case rel => exact ⟨k + 1, P9, m2, pc9, _, by omega, by go_num, rfl, HM2, LN⟩
      case measure => simp [intOf]; omega
    · obtain rfl : k = M := by omega
      have hm41 : m ≤ 41 := by have := hm.out; omega
      have HMM := Lib.hid hm
      obtain ⟨v0, hv0⟩ : ∃ v0, v0 = wr := ⟨_, rfl⟩
      subst hv0
      have hpc : m ≤ pc := by obtain ⟨_, _, e, hle⟩ := own_form LS.out.own; injection e with _ _ e; omega
      clear hlt hm
      go_wp2_with fail
      go_loopw [65] (fun i wr => ∃ j : Nat, j ≤ m ∧ i = .int .i64 (j : Int) ∧ Hid (Kept noBlock v0 wr)) (fun i _ => m - (intOf i).toNat)
      case atStart => exact ⟨0, by omega, rfl, Kept.refl _ _⟩
      case round =>
        obtain ⟨j, hjm, rfl, HK⟩ := hrel
        by_cases hlj : j < m
        · obtain ⟨q, hq⟩ : ∃ q, ys[j]? = some q := ⟨_, List.getElem?_eq_getElem (by have := LS.out.len; omega)⟩
          obtain ⟨ad2, rfl, _, hcell⟩ := ((Lies.of_rows (F := fun _ => True) LS.out.own (fun _ _ => trivial)).keep HK.out (fun _ _ h => h)).at_ (k := j) (u := q.val) (by simp [hq])
          unfold RwV.val at hcell
          have hmem := List.mem_of_getElem? hq
          have hql := (LS.out.lie q hmem).keep HK.out (fun _ _ h => h)
          have hqs := LS.out.sml q hmem
          obtain ⟨L, hL⟩ : ∃ L, L = q.l.length := ⟨_, rfl⟩
          rw [← hL] at hcell hqs
          obtain ⟨b1, b2, b3⟩ := rdEdit_bound q.l L hL.symm (by omega)
          have RD := eread_any _ q.a L q.c q.l wr hql hL.symm (by omega) b1 b2 b3
          have HQL := Lib.hid hql
          have HLL := Lib.hid hL
          cases hgb : gotEB q.l with
          | true =>
            obtain ⟨_, hg2⟩ := gotEB_true hgb
            obtain ⟨e, he⟩ : ∃ e, e = gotE q.l := ⟨_, rfl⟩
            rw [hgb, ← he] at RD
            rw [← he] at hg2
            unfold evl at RD
            have RD := Lib.hid RD
            have HG2 := Lib.hid hg2
            clear hq hmem hql b1 b2 b3 hL he hgb hg2
            go_wp2_with fail
            refine RD.out.mono ?_
            rintro en w4 ⟨A3, a3, D3, d3, rfl, ev3, k4⟩
            have ka := Kept.alloc noBlock w4 (.cells #[.slice A3 e.add.length a3, .slice D3 e.drop.length d3, .int .i64 e.floor] 36)
            have ha := heap_alloc_new w4 (.cells #[.slice A3 e.add.length a3, .slice D3 e.drop.length d3, .int .i64 e.floor] 36)
            go_upto_region 18 with (fail)
            obtain ⟨X, hX⟩ : ∃ X, X = w4.heap.size := ⟨_, rfl⟩
            rw [← hX] at ha ⊢
            generalize w4.alloc (.cells #[.slice A3 e.add.length a3, .slice D3 e.drop.length d3, .int .i64 e.floor] 36) = w5 at ka ha ⊢
            have K5 : Hid (Kept noBlock v0 w5) := HK.out.step (k4.step ka)
            have EV5 := Lib.hid (ev3.kept ka)
            have HQ5 := Lib.hid (HQL.out.keep (k4.step ka) (fun _ _ h => h))
            have CE : Hid (∀ u, Kept noBlock w5 u → (u.cell? ⟨X, 0, none⟩ = some (.slice A3 e.add.length a3) ∧ u.cell? ⟨X, 1, none⟩ = some (.slice D3 e.drop.length d3) ∧ u.cell? ⟨X, 2, none⟩ = some (.int .i64 e.floor)) ∧ (convert 28 9 (.slice q.a L q.c)).run Try.prog u = .ok (.string (str q.l)) u) := fun u k =>
              ⟨ed_cells (k.blk ha (fun h => h)), run_str10 (HQ5.out.keep k (fun _ _ h => h)) HLL.out.symm _⟩
            have LB := fun u (k : Kept noBlock w5 u) => lebytes_any (fun i => True) e A3 a3 D3 d3 L u ((EV5.out.kept k).mono (fun _ _ => trivial)) (by rw [HG2.out]; exact HLL.out.symm) (by omega)
            unfold evl at LB
            rw [HG2.out] at LB
            have LB := Lib.hid LB
            have KC : Hid (Kept noBlock w5 w5.drew) := Kept.drew _ _
            clear ka ha k4 ev3 RD hX hcell
            refine wp_region_noPanic ?_
            refine wp_region_held_drew (S := fun u => (u.cell? ⟨X, 0, none⟩ = some (.slice A3 e.add.length a3) ∧ u.cell? ⟨X, 1, none⟩ = some (.slice D3 e.drop.length d3) ∧ u.cell? ⟨X, 2, none⟩ = some (.int .i64 e.floor)) ∧ (convert 28 9 (.slice q.a L q.c)).run Try.prog u = .ok (.string (str q.l)) u) (by kernel_rfl) (CE.out _ KC.out) (fun hHeld => ?_)
            refine wpAnyH_take (i := 0) (oi := ⟨some 74, Op.move (Operand.tmp 17), 4, _, _, none⟩) (v := ?v0n1k1) rfl (by kernel_rfl) (by kernel_rfl) (by kernel_rfl) (fun _ _ _ h => h) (Or.inl ⟨by rfl, ?y0n1k1⟩) hHeld ?z0n1k1
            case y0n1k1 => intro w hSw; (try dsimp only at hSw); go_simp <;> rfl
            try simp only [Act.put, List.setIfInBounds_toArray, List.set_cons_zero, List.set_cons_succ]
            refine wpAnyH_take (i := 1) (oi := ⟨some 75, Op.move (Operand.tmp 74), 4, _, _, none⟩) (v := ?v1n1k2) rfl (by kernel_rfl) (by kernel_rfl) (by kernel_rfl) (fun _ _ _ h => h) (Or.inl ⟨by rfl, ?y1n1k2⟩) hHeld ?z1n1k2
            case y1n1k2 => intro w hSw; (try dsimp only at hSw); go_simp <;> rfl
            try simp only [Act.put, List.setIfInBounds_toArray, List.set_cons_zero, List.set_cons_succ]
            refine wpAnyH_take (i := 2) (oi := ⟨some 76, Op.load 36 (Operand.tmp 16), 36, _, _, some (1, true)⟩) (v := ?v2n1k3) rfl (by kernel_rfl) (by kernel_rfl) (by kernel_rfl) (fun _ _ _ h => h) (Or.inl ⟨by rfl, ?y2n1k3⟩) hHeld ?z2n1k3
            case y2n1k3 => intro w hSw; (try dsimp only at hSw); go_simp <;> rfl
            try simp only [Act.put, List.setIfInBounds_toArray, List.set_cons_zero, List.set_cons_succ]
            refine wpAnyH_take (i := 4) (oi := ⟨some 78, Op.move (Operand.tmp 15), 28, _, _, some (1, true)⟩) (v := ?v4n1k4) rfl (by kernel_rfl) (by kernel_rfl) (by kernel_rfl) (fun _ _ _ h => h) (Or.inl ⟨by rfl, ?y4n1k4⟩) hHeld ?z4n1k4
            case y4n1k4 => intro w hSw; (try dsimp only at hSw); go_simp <;> rfl
            try simp only [Act.put, List.setIfInBounds_toArray, List.set_cons_zero, List.set_cons_succ]
            refine wpAnyH_take (i := 5) (oi := ⟨some 79, Op.convert 28 9 (Operand.tmp 78), 9, _, _, some (1, true)⟩) (v := ?v5n1k5) rfl (by kernel_rfl) (by kernel_rfl) (by kernel_rfl) (fun _ _ _ h => h) (Or.inl ⟨by rfl, ?y5n1k5⟩) hHeld ?z5n1k5
            case y5n1k5 => intro w hSw; (try dsimp only at hSw); go_simp <;> rfl
            try simp only [Act.put, List.setIfInBounds_toArray, List.set_cons_zero, List.set_cons_succ]
            refine wpAnyH_ready (rs := [3]) (by kernel_rfl) (by simp) ?_
            refine AllReadyH.cons (o := ⟨some 77, Op.call { callee := Callee.value (Operand.func 24), args := #[Operand.tmp 76], argTypes := #[36] }, 9, _, _, some (1, true)⟩) rfl (fun K hK => ?_) AllReadyH.nil
            go_simp
            refine (LB.out _ KC.out).mono ?_
            rintro en u3 ⟨rfl, k3⟩
            replace KC := Lib.hid (KC.out.step k3)
            clear k3
            dsimp only
            refine hK.out _ _ (CE.out _ KC.out) (fun hHeld => ?_)
            clear hK K
            try simp only [Act.put, List.setIfInBounds_toArray, List.set_cons_zero, List.set_cons_succ]
            refine wpAnyH_take (i := 6) (oi := ⟨some 80, Op.binOp BinOp.neq 9 (Operand.tmp 77) (Operand.tmp 79) 9, 4, _, _, some (1, true)⟩) (v := ?v6n1k6) rfl (by kernel_rfl) (by kernel_rfl) (by kernel_rfl) (fun _ _ _ h => h) (Or.inl ⟨by rfl, ?y6n1k6⟩) hHeld ?z6n1k6
            case y6n1k6 => intro w hSw; (try dsimp only at hSw); go_simp <;> rfl
            try simp only [Act.put, List.setIfInBounds_toArray, List.set_cons_zero, List.set_cons_succ]
            refine wpAnyH_take (i := 7) (oi := ⟨some 81, Op.pick (Operand.tmp 75) (Operand.tmp 80) (Operand.const (Value.bool false)), 4, _, _, none⟩) (v := ?v7n1k7) rfl (by kernel_rfl) (by kernel_rfl) (by kernel_rfl) (fun _ _ _ h => h) (Or.inl ⟨by rfl, ?y7n1k7⟩) hHeld ?z7n1k7
            case y7n1k7 => intro w hSw; (try dsimp only at hSw); go_simp <;> rfl
            try simp only [Act.put, List.setIfInBounds_toArray, List.set_cons_zero, List.set_cons_succ]
            refine wpAnyH_take (i := 8) (oi := ⟨some 82, Op.move (Operand.tmp 81), 4, _, _, none⟩) (v := ?v8n1k8) rfl (by kernel_rfl) (by kernel_rfl) (by kernel_rfl) (fun _ _ _ h => h) (Or.inl ⟨by rfl, ?y8n1k8⟩) hHeld ?z8n1k8
            case y8n1k8 => intro w hSw; (try dsimp only at hSw); go_simp <;> rfl
            try simp only [Act.put, List.setIfInBounds_toArray, List.set_cons_zero, List.set_cons_succ]
            refine wpAnyH_take (i := 9) (oi := ⟨some 83, Op.move (Operand.tmp 17), 4, _, _, some (8, false)⟩) (v := ?v9n1k9) rfl (by kernel_rfl) (by kernel_rfl) (by kernel_rfl) (fun _ _ _ h => h) (Or.inl ⟨by rfl, ?y9n1k9⟩) hHeld ?z9n1k9
            case y9n1k9 => intro w hSw; (try dsimp only at hSw); go_simp <;> rfl
            try simp only [Act.put, List.setIfInBounds_toArray, List.set_cons_zero, List.set_cons_succ]
            refine wpAnyH_take (i := 10) (oi := ⟨some 84, Op.unOp UnOp.not 4 (Operand.tmp 83), 4, _, _, some (8, false)⟩) (v := ?v10n1k10) rfl (by kernel_rfl) (by kernel_rfl) (by kernel_rfl) (fun _ _ _ h => h) (Or.inl ⟨by rfl, ?y10n1k10⟩) hHeld ?z10n1k10
            case y10n1k10 => intro w hSw; (try dsimp only at hSw); go_simp <;> rfl
            try simp only [Act.put, List.setIfInBounds_toArray, List.set_cons_zero, List.set_cons_succ]
            refine wpAnyH_take (i := 11) (oi := ⟨some 85, Op.move (Operand.tmp 84), 4, _, _, some (8, false)⟩) (v := ?v11n1k11) rfl (by kernel_rfl) (by kernel_rfl) (by kernel_rfl) (fun _ _ _ h => h) (Or.inl ⟨by rfl, ?y11n1k11⟩) hHeld ?z11n1k11
            case y11n1k11 => intro w hSw; (try dsimp only at hSw); go_simp <;> rfl
            try simp only [Act.put, List.setIfInBounds_toArray, List.set_cons_zero, List.set_cons_succ]
            refine wpAnyH_take (i := 12) (oi := ⟨some 86, Op.fieldAddr 36 (Operand.tmp 16) 2, 0, _, _, some (11, true)⟩) (v := undef) rfl (by kernel_rfl) (by kernel_rfl) (by kernel_rfl) (fun _ _ _ h => h) (Or.inr ⟨by rfl, rfl⟩) hHeld ?z12n1k12
            try simp only [Act.put, List.setIfInBounds_toArray, List.set_cons_zero, List.set_cons_succ]
            refine wpAnyH_take (i := 13) (oi := ⟨some 87, Op.load 3 (Operand.tmp 86), 3, _, _, some (11, true)⟩) (v := undef) rfl (by kernel_rfl) (by kernel_rfl) (by kernel_rfl) (fun _ _ _ h => h) (Or.inr ⟨by rfl, rfl⟩) hHeld ?z13n1k13
            try simp only [Act.put, List.setIfInBounds_toArray, List.set_cons_zero, List.set_cons_succ]
            refine wpAnyH_take (i := 14) (oi := ⟨some 88, Op.binOp BinOp.neq 3 (Operand.tmp 87) (Operand.const (Value.int IntKind.i64 0)) 3, 4, _, _, some (11, true)⟩) (v := undef) rfl (by kernel_rfl) (by kernel_rfl) (by kernel_rfl) (fun _ _ _ h => h) (Or.inr ⟨by rfl, rfl⟩) hHeld ?z14n1k14
            try simp only [Act.put, List.setIfInBounds_toArray, List.set_cons_zero, List.set_cons_succ]
            refine wpAnyH_take (i := 15) (oi := ⟨some 89, Op.move (Operand.tmp 88), 4, _, _, some (11, true)⟩) (v := undef) rfl (by kernel_rfl) (by kernel_rfl) (by kernel_rfl) (fun _ _ _ h => h) (Or.inr ⟨by rfl, rfl⟩) hHeld ?z15n1k15
            try simp only [Act.put, List.setIfInBounds_toArray, List.set_cons_zero, List.set_cons_succ]
            refine wpAnyH_take (i := 16) (oi := ⟨some 90, Op.fieldAddr 36 (Operand.tmp 16) 0, 0, _, _, some (15, false)⟩) (v := undef) rfl (by kernel_rfl) (by kernel_rfl) (by kernel_rfl) (fun _ _ _ h => h) (Or.inr ⟨by rfl, rfl⟩) hHeld ?z16n1k16
            try simp only [Act.put, List.setIfInBounds_toArray, List.set_cons_zero, List.set_cons_succ]
            refine wpAnyH_take (i := 17) (oi := ⟨some 91, Op.load 24 (Operand.tmp 90), 24, _, _, some (15, false)⟩) (v := undef) rfl (by kernel_rfl) (by kernel_rfl) (by kernel_rfl) (fun _ _ _ h => h) (Or.inr ⟨by rfl, rfl⟩) hHeld ?z17n1k17
            try simp only [Act.put, List.setIfInBounds_toArray, List.set_cons_zero, List.set_cons_succ]
            refine wpAnyH_take (i := 18) (oi := ⟨some 92, Op.call { callee := Callee.builtin Builtin.len, args := #[Operand.tmp 91], argTypes := #[24] }, 3, _, _, some (15, false)⟩) (v := undef) rfl (by kernel_rfl) (by kernel_rfl) (by kernel_rfl) (fun _ _ _ h => h) (Or.inr ⟨by rfl, rfl⟩) hHeld ?z18n1k18
            try simp only [Act.put, List.setIfInBounds_toArray, List.set_cons_zero, List.set_cons_succ]
            refine wpAnyH_take (i := 19) (oi := ⟨some 93, Op.binOp BinOp.neq 3 (Operand.tmp 92) (Operand.const (Value.int IntKind.i64 0)) 3, 4, _, _, some (15, false)⟩) (v := undef) rfl (by kernel_rfl) (by kernel_rfl) (by kernel_rfl) (fun _ _ _ h => h) (Or.inr ⟨by rfl, rfl⟩) hHeld ?z19n1k19
            try simp only [Act.put, List.setIfInBounds_toArray, List.set_cons_zero, List.set_cons_succ]
            refine wpAnyH_take (i := 20) (oi := ⟨some 94, Op.pick (Operand.tmp 89) (Operand.const (Value.bool true)) (Operand.tmp 93), 4, _, _, some (11, true)⟩) (v := undef) rfl (by kernel_rfl) (by kernel_rfl) (by kernel_rfl) (fun _ _ _ h => h) (Or.inr ⟨by rfl, rfl⟩) hHeld ?z20n1k20
            try simp only [Act.put, List.setIfInBounds_toArray, List.set_cons_zero, List.set_cons_succ]
            refine wpAnyH_take (i := 21) (oi := ⟨some 95, Op.move (Operand.tmp 94), 4, _, _, some (11, true)⟩) (v := undef) rfl (by kernel_rfl) (by kernel_rfl) (by kernel_rfl) (fun _ _ _ h => h) (Or.inr ⟨by rfl, rfl⟩) hHeld ?z21n1k21
            try simp only [Act.put, List.setIfInBounds_toArray, List.set_cons_zero, List.set_cons_succ]
            refine wpAnyH_take (i := 22) (oi := ⟨some 96, Op.fieldAddr 36 (Operand.tmp 16) 1, 0, _, _, some (21, false)⟩) (v := undef) rfl (by kernel_rfl) (by kernel_rfl) (by kernel_rfl) (fun _ _ _ h => h) (Or.inr ⟨by rfl, rfl⟩) hHeld ?z22n1k22
            try simp only [Act.put, List.setIfInBounds_toArray, List.set_cons_zero, List.set_cons_succ]
            refine wpAnyH_take (i := 23) (oi := ⟨some 97, Op.load 34 (Operand.tmp 96), 34, _, _, some (21, false)⟩) (v := undef) rfl (by kernel_rfl) (by kernel_rfl) (by kernel_rfl) (fun _ _ _ h => h) (Or.inr ⟨by rfl, rfl⟩) hHeld ?z23n1k23
            try simp only [Act.put, List.setIfInBounds_toArray, List.set_cons_zero, List.set_cons_succ]
            refine wpAnyH_take (i := 24) (oi := ⟨some 98, Op.call { callee := Callee.builtin Builtin.len, args := #[Operand.tmp 97], argTypes := #[34] }, 3, _, _, some (21, false)⟩) (v := undef) rfl (by kernel_rfl) (by kernel_rfl) (by kernel_rfl) (fun _ _ _ h => h) (Or.inr ⟨by rfl, rfl⟩) hHeld ?z24n1k24
            try simp only [Act.put, List.setIfInBounds_toArray, List.set_cons_zero, List.set_cons_succ]
            refine wpAnyH_take (i := 25) (oi := ⟨some 99, Op.binOp BinOp.neq 3 (Operand.tmp 98) (Operand.const (Value.int IntKind.i64 0)) 3, 4, _, _, some (21, false)⟩) (v := undef) rfl (by kernel_rfl) (by kernel_rfl) (by kernel_rfl) (fun _ _ _ h => h) (Or.inr ⟨by rfl, rfl⟩) hHeld ?z25n1k25
            try simp only [Act.put, List.setIfInBounds_toArray, List.set_cons_zero, List.set_cons_succ]
            refine wpAnyH_take (i := 26) (oi := ⟨some 100, Op.pick (Operand.tmp 95) (Operand.const (Value.bool true)) (Operand.tmp 99), 4, _, _, some (11, true)⟩) (v := undef) rfl (by kernel_rfl) (by kernel_rfl) (by kernel_rfl) (fun _ _ _ h => h) (Or.inr ⟨by rfl, rfl⟩) hHeld ?z26n1k26
            try simp only [Act.put, List.setIfInBounds_toArray, List.set_cons_zero, List.set_cons_succ]
            refine wpAnyH_take (i := 27) (oi := ⟨some 101, Op.pick (Operand.tmp 85) (Operand.tmp 100) (Operand.const (Value.bool false)), 4, _, _, some (8, false)⟩) (v := ?v27n1k27) rfl (by kernel_rfl) (by kernel_rfl) (by kernel_rfl) (fun _ _ _ h => h) (Or.inl ⟨by rfl, ?y27n1k27⟩) hHeld ?z27n1k27
            case y27n1k27 => intro w hSw; (try dsimp only at hSw); go_simp <;> rfl
            try simp only [Act.put, List.setIfInBounds_toArray, List.set_cons_zero, List.set_cons_succ]
            refine wpAnyH_take (i := 28) (oi := ⟨some 102, Op.pick (Operand.tmp 82) (Operand.const (Value.bool true)) (Operand.tmp 101), 4, _, _, none⟩) (v := ?v28n1k28) rfl (by kernel_rfl) (by kernel_rfl) (by kernel_rfl) (fun _ _ _ h => h) (Or.inl ⟨by rfl, ?y28n1k28⟩) hHeld ?z28n1k28
            case y28n1k28 => intro w hSw; (try dsimp only at hSw); go_simp <;> rfl
            try simp only [Act.put, List.setIfInBounds_toArray, List.set_cons_zero, List.set_cons_succ]
            refine wpAnyH_done (by kernel_rfl) ?_ _
            refine NoPanic.normal ?_
            clear hHeld
            go_wp2
            go_roundw
            case rel => exact ⟨j + 1, by omega, by go_num, K5.out.step KC.out⟩
            case measure => simp [intOf]; omega
          | false =>
            have hne := gotEB_false hgb
            rw [hgb, hne] at RD
            unfold evl noEdit at RD
            simp only [List.length_nil] at RD
            have RD := Lib.hid RD
            clear hq hmem hql b1 b2 b3 hL hgb hne
            go_wp2_with fail
            refine RD.out.mono ?_
            rintro en w4 ⟨A3, a3, D3, d3, rfl, ev3, k4⟩
            have ka := Kept.alloc noBlock w4 (.cells #[.slice A3 0 a3, .slice D3 0 d3, .int .i64 0] 36)
            have ha := heap_alloc_new w4 (.cells #[.slice A3 0 a3, .slice D3 0 d3, .int .i64 0] 36)
            go_upto_region 18 with (fail)
            obtain ⟨X, hX⟩ : ∃ X, X = w4.heap.size := ⟨_, rfl⟩
            rw [← hX] at ha ⊢
            generalize w4.alloc (.cells #[.slice A3 0 a3, .slice D3 0 d3, .int .i64 0] 36) = w5 at ka ha ⊢
            have K5 : Hid (Kept noBlock v0 w5) := HK.out.step (k4.step ka)
            obtain ⟨x0, x1, x2⟩ := ed_cells ha
            clear ka ha k4 ev3 RD hX hcell
            go_quiet (fail)
            have KC : Hid (Kept noBlock w5 (w5.drewN nq)) := Kept.drewN noBlock w5 nq
            generalize w5.drewN nq = w6 at KC ⊢
            go_wp2
            go_roundw
            case rel => exact ⟨j + 1, by omega, by go_num, K5.out.step KC.out⟩
            case measure => simp [intOf]; omega
        · obtain rfl : j = m := by omega
          have KZ := Lib.hid (LS.out.kept.step HK.out)
          clear hlj
          go_wp2
          go_ret
          exact ⟨rfl, KZ.out⟩
end Go.Proofs.Ytjijdkdpmbfdmaa
