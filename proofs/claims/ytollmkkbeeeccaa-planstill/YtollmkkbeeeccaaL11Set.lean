/-
  The statements' own Set: files by numbers. No statement is proved here.
-/
import Derived.Test.YtollmkkbeeeccaaP11Of
import Derived.Test.YtollmkkbeeeccaaE10Set
namespace Go.Proofs.Ytollmkkbeeeccaa
open Go.RowKit Tot

/-- A file by numbers. -/
structure RfN where
  kd : UInt8
  fr : UInt8
  lg : UInt8
def RfN.cells (r : RfN) : List Value := [.int .u8 (r.kd.toNat : Int), .int .u8 (r.fr.toNat : Int), .int .u8 (r.lg.toNat : Int)]
theorem rf_len (r : RfN) : r.cells.length = 3 := rfl
def rfCells (l : List RfN) : List Value := flat RfN.cells l
def nmS (k : Nat) : ByteArray := str [UInt8.ofNat (97 + k)]
def refS (r : RfN) (k : Nat) : RefV := ⟨nmS k, ((r.kd.toNat % 3 : Nat) : Int), ((r.fr.toNat % 24 : Nat) : Int), ((if r.kd.toNat % 3 = 0 then r.fr.toNat % 24 else r.fr.toNat % 24 + r.lg.toNat % 9 : Nat) : Int)⟩
/-- The files of numbers. -/
def setS (rs : List RfN) : List RefV := (rs.take 14).zipIdx.map (fun x => refS x.1 x.2)
def setN (rs : List RfN) (j : Nat) : List RefV := (rs.take j).zipIdx.map (fun x => refS x.1 x.2)
theorem setN_step {rs : List RfN} {j : Nat} {x : RfN} (hx : rs[j]? = some x) : setN rs (j + 1) = setN rs j ++ [refS x j] := by
  unfold setN
  have hj := (List.getElem?_eq_some_iff.1 hx).1
  rw [take_snoc rs j x hx, List.zipIdx_append, List.length_take, Nat.min_eq_left (by omega)]
  simp
theorem setN_len {rs : List RfN} {j : Nat} (hj : j ≤ rs.length) : (setN rs j).length = j := by
  unfold setN
  rw [List.length_map, List.length_zipIdx, List.length_take]
  omega
theorem rem_u8 (x : UInt8) (k : Nat) : ((x.toNat : Int)).tmod (k : Int) = ((x.toNat % k : Nat) : Int) := by
  rw [Int.tmod_eq_emod_of_nonneg (by omega)]
  omega
theorem strS_one {w : World} {g : Nat} {y : UInt8} {fr : Nat × Nat} {v : Int} (hv : v = (y.toNat : Int)) (hb : w.heap[g]? = some (.cells #[.int .u8 v] 5 fr)) (c : Nat) :
    (convert 46 9 (.slice (some ⟨g, 0, none⟩) 1 c)).run Try.prog w = .ok (.string (str [y])) w := by
  subst hv
  have hl : Lies w (fun _ => True) (some ⟨g, 0, none⟩) ([y].map bv) := fun _ => ⟨⟨g, 0, none⟩, rfl, trivial, fun j u hu => by
    have := World.news_of_block hb j u (by simpa [bv] using hu)
    exact this⟩
  exact run_str_lies 46 9 5 Try.underlying46 Try.underlying5 Try.underlying9 hl rfl c

theorem own_nextS {S : Nat → Prop} {w wr u : World} {t : TypeId} {s m m' c c' : Nat} {A A' : Option Addr} {xs ys : List Value} (hK : Kept S w wr) (h : wr.ownsRow w.heap.size t s (.slice A m c) m xs) (o : u.ownsRow 0 t s (.slice A' m' c') m' ys)
    (k : Kept (fun i => (Value.slice A m c).ownBlock = some i) wr u) (a : ∀ i, (Value.slice A' m' c').ownBlock = some i → (Value.slice A m c).ownBlock = some i ∨ fresh wr u i) : u.ownsRow w.heap.size t s (.slice A' m' c') m' ys ∧ Kept S w u := by
  refine ⟨own_base o (fun i hi => ?_), hK.trans k (fun i hi e => by have := (h.lt i e).1; omega)⟩
  rcases a i hi with e | e
  · exact (h.lt i e).1
  · exact Nat.le_trans hK.size e.1
theorem rf_cells {w : World} {R : Nat} {x0 x1 x2 : Value} {t : TypeId} {fr : Nat × Nat} (h : w.heap[R]? = some (.cells #[x0, x1, x2] t fr)) : w.cell? ⟨R, 0, none⟩ = some x0 ∧ w.cell? ⟨R, 1, none⟩ = some x1 ∧ w.cell? ⟨R, 2, none⟩ = some x2 := tri_cells h

set_option maxRecDepth 100000 in
set_option maxHeartbeats 2000000 in
theorem set_any (F : Nat → Prop) (A : Option Addr) (n c : Nat) (rs : List RfN) (fl : UInt8) (w : World) (h : Lies w F A (rfCells rs)) (hl : n = rs.length) (hnc : n ≤ c) (hc : c ≤ 9223372036854775807) :
    Calls Try.prog 11 #[.slice A n c, .int .u8 (fl.toNat : Int)] w fun e w' => ∃ A' c', e = .returned (.agg #[.slice A' (setS rs).length c', .int .i64 ((fl.toNat % 12 : Nat) : Int)]) ∧ w'.ownsRow w.heap.size 37 4 (.slice A' (setS rs).length c') (setS rs).length (refCells (setS rs)) ∧ Kept noBlock w w' := by
  obtain ⟨f, hf⟩ : ∃ f, f = fl.toNat % 12 := ⟨_, rfl⟩
  have t1 : ((fl.toNat : Int)).tmod 12 = (f : Int) := by rw [hf]; exact rem_u8 fl 12
  have hf12 : f < 12 := by omega
  obtain ⟨w1, hw1⟩ : ∃ w1, w1 = (w.alloc (.cells #[.slice none 0 0, .int .i64 0] 27)).alloc (.cells #[.slice none 0 0, .int .i64 (f : Int)] 27) := ⟨_, rfl⟩
  have k1 : Kept noBlock w w1 := by rw [hw1]; exact (Kept.alloc _ _ _).step (Kept.alloc _ _ _)
  have b0 : w1.heap[w.heap.size]? = some (.cells #[.slice none 0 0, .int .i64 0] 27 (0, 0)) := by rw [hw1]; exact (Kept.alloc noBlock _ _).blk (heap_alloc_new w _) (fun h => h)
  have b1 : w1.heap[w.heap.size + 1]? = some (.cells #[.slice none 0 0, .int .i64 (f : Int)] 27 (0, 0)) := by
    rw [hw1]
    have := heap_alloc_new (w.alloc (.cells #[.slice none 0 0, .int .i64 0] 27)) (.cells #[.slice none 0 0, .int .i64 (f : Int)] 27)
    simpa using this
  obtain ⟨M, hM⟩ : ∃ M, M = min n 14 := ⟨_, rfl⟩
  have q1 : (if (14 : Int) < (n : Int) then (14 : Int) else (n : Int)) = (M : Int) := by split <;> omega
  have q2 : min (n : Int) 14 = (M : Int) := by omega
  have i1 : (M : Int) ≤ c := by omega
  have hM14 : M ≤ 14 := by omega
  have H := Lib.hid (h.lt.keep k1 (fun _ _ h => h))
  have HL := Lib.hid hl
  have HMN : Hid (M ≤ n) := by unfold Hid; omega
  have HST : Hid (setS rs = setN rs M) := by
    unfold Hid setS setN
    rw [hM, hl]
    by_cases h14 : rs.length ≤ 14
    · rw [Nat.min_eq_left h14, List.take_length, List.take_of_length_le h14]
    · rw [Nat.min_eq_right (by omega)]
  have K1 := Lib.hid k1
  have B0 := Lib.hid b0
  have B1 := Lib.hid b1
  rw [← hf, HST.out]
  have HSL : Hid ((setN rs M).length = M) := setN_len (by omega)
  rw [HSL.out]
  clear h hl k1 b0 b1 hM hf
  go_enter Try.func11, Try.ntmps11
  go_upto_region 2 with (fail)
  rw [← hw1]
  clear hw1 t1
  go_wp2_with fail
  go_loopw [19] (fun i wr => ∃ (j : Nat) (A1 : Option Addr) (p1 : Nat), j ≤ M ∧ i = .int .i64 (j : Int) ∧ Hid (wr.heap[w.heap.size + 1]? = some (.cells #[.slice A1 j p1, .int .i64 (f : Int)] 27 (0, 0))) ∧ Hid (wr.ownsRow w1.heap.size 37 4 (.slice A1 j p1) j (refCells (setN rs j))) ∧ Hid (Kept (fun i => i = w.heap.size + 1) w1 wr)) (fun i _ => M - (intOf i).toNat)
  case atStart => exact ⟨0, none, 0, by omega, rfl, B1, World.ownsRow_nil _ _ _ _, Kept.refl _ _⟩
  case round =>
    obtain ⟨j, A1, p1, hjM, rfl, HB, HO, HK⟩ := hrel
    by_cases hlt : j < M
    · obtain ⟨y, hy⟩ : ∃ y, rs[j]? = some y := ⟨_, List.getElem?_eq_getElem (by have := HL.out; have := HMN.out; omega)⟩
      obtain ⟨g, o, rfl, _, cc⟩ := (H.out.keep HK.out (fun i hi e => by omega)).elem (enc := RfN.cells) rf_len (by omega) hy
      have e0 := cc 0 _ rfl
      have e1 := cc 1 _ rfl
      have e2 := cc 2 _ rfl
      rw [Nat.add_zero] at e0
      have HS := Lib.hid (setN_step hy)
      obtain ⟨kd, fr, lg⟩ := y
      simp only at e0 e1 e2
      clear hy cc
      go_upto_region 5 with (fail)
      have k3 := Kept.alloc noBlock wr (.cells #[.int .u8 (kd.toNat : Int), .int .u8 (fr.toNat : Int), .int .u8 (lg.toNat : Int)] 57)
      have b3 := heap_alloc_new wr (.cells #[.int .u8 (kd.toNat : Int), .int .u8 (fr.toNat : Int), .int .u8 (lg.toNat : Int)] 57)
      obtain ⟨C, hC⟩ : ∃ C, C = wr.heap.size := ⟨_, rfl⟩
      rw [← hC] at b3 ⊢
      generalize wr.alloc (.cells #[.int .u8 (kd.toNat : Int), .int .u8 (fr.toNat : Int), .int .u8 (lg.toNat : Int)] 57) = w3 at k3 b3 ⊢
      obtain ⟨d0, d1, d2⟩ := rf_cells ((Kept.alloc noBlock w3 (.cells #[.int .u8 (97 + (j : Int))] 5)).blk b3 (fun h => h))
      have K3 := Lib.hid k3
      have HB3 := Lib.hid b3
      have HC := Lib.hid hC
      obtain ⟨k3', hk3⟩ : ∃ k, k = kd.toNat % 3 := ⟨_, rfl⟩
      obtain ⟨fq, hfq⟩ : ∃ k, k = fr.toNat % 24 := ⟨_, rfl⟩
      obtain ⟨lq, hlq⟩ : ∃ k, k = lg.toNat % 9 := ⟨_, rfl⟩
      have t3 : ((kd.toNat : Int)).tmod 3 = (k3' : Int) := by rw [hk3]; exact rem_u8 kd 3
      have t24 : ((fr.toNat : Int)).tmod 24 = (fq : Int) := by rw [hfq]; exact rem_u8 fr 24
      have t9 : ((lg.toNat : Int)).tmod 9 = (lq : Int) := by rw [hlq]; exact rem_u8 lg 9
      have b1 : k3' < 3 := by omega
      have b2 : fq < 24 := by omega
      have b4 : lq < 9 := by omega
      obtain ⟨nm, hnm⟩ : ∃ nm, nm = nmS j := ⟨_, rfl⟩
      have hcv : ∀ c', (convert 46 9 (.slice (some ⟨w3.heap.size, 0, none⟩) 1 c')).run Try.prog (w3.alloc (.cells #[.int .u8 (97 + (j : Int))] 5)) = .ok (.string nm) (w3.alloc (.cells #[.int .u8 (97 + (j : Int))] 5)) := fun c' => by
        rw [hnm]
        exact strS_one (y := UInt8.ofNat (97 + j)) (by have : (UInt8.ofNat (97 + j)).toNat = (97 + j) % 256 := by simp
                                                       omega) (heap_alloc_new _ _) c'
      have HRF : Hid (refS ⟨kd, fr, lg⟩ j = ⟨nm, (k3' : Int), (fq : Int), ((if k3' = 0 then fq else fq + lq : Nat) : Int)⟩) := by unfold Hid refS; simp only; rw [← hk3, ← hfq, ← hlq, ← hnm]
      clear e0 e1 e2 k3 b3 hC hk3 hfq hlq hnm
      go_upto_region 6 with (fail)
      obtain ⟨D, hD⟩ : ∃ D, D = w3.heap.size + 1 := ⟨_, rfl⟩
      have k5 : Kept noBlock w3 ((w3.alloc (.cells #[.int .u8 (97 + (j : Int))] 5)).alloc (.cells #[.string nm, .int .i64 (k3' : Int), .int .i64 (fq : Int), .int .i64 0] 37)) := (Kept.alloc _ _ _).step (Kept.alloc _ _ _)
      have h5 := heap_alloc_new (w3.alloc (.cells #[.int .u8 (97 + (j : Int))] 5)) (.cells #[.string nm, .int .i64 (k3' : Int), .int .i64 (fq : Int), .int .i64 0] 37)
      rw [World.size_alloc, ← hD] at h5
      rw [← hD]
      generalize (w3.alloc (.cells #[.int .u8 (97 + (j : Int))] 5)).alloc (.cells #[.string nm, .int .i64 (k3' : Int), .int .i64 (fq : Int), .int .i64 0] 37) = w5 at k5 h5 ⊢
      have HD : Hid (wr.heap.size < D ∧ C < D) := by unfold Hid; have := K3.out.size; have := lt_of_blk HB3.out; omega
      have K5 := Lib.hid (K3.out.step k5)
      have H5 := Lib.hid h5
      have HC5 := Lib.hid (k5.blk HB3.out (fun h => h))
      clear d0 d1 d2 hcv t3 t24 hD k5 h5
      obtain ⟨d0, d1, d2, d3⟩ := ref_cells H5.out
      obtain ⟨q0, q1', q2'⟩ := rf_cells HC5.out
      have f3 : w5.frozen? ⟨D, 3, none⟩ = false := frozen_of_row _ _ _ _ _ H5.out
      obtain ⟨tt, htt⟩ : ∃ tt, tt = fq + lq := ⟨_, rfl⟩
      have e5 : (fq : Int) + (lq : Int) = (tt : Int) := by omega
      have b6 : tt < 40 := by omega
      rw [← htt] at HRF
      clear htt
      go_upto_region 7 with (fail)
      (try rw [e5])
      have kz : Kept (fun i => i = D) w5 (w5.setCell ⟨D, 3, none⟩ (.int .i64 (tt : Int))) := Kept.setCell w5 (by rfl) _
      have hz := heap_setCell_same w5 D 3 _ 37 (.int .i64 (tt : Int)) H5.out
      generalize w5.setCell ⟨D, 3, none⟩ (.int .i64 (tt : Int)) = w6 at kz hz ⊢
      have K6 : Hid (Kept (fun i => i = D) wr w6) := K5.out.to.step kz
      have HB6 : Hid (w6.heap[D]? = some (.cells #[.string nm, .int .i64 (k3' : Int), .int .i64 (fq : Int), .int .i64 (tt : Int)] 37 (0, 0))) := by unfold Hid; simpa using hz
      clear d0 d1 d2 d3 q0 q1' q2' f3 kz hz e5 t9
      obtain ⟨d0, d1, d2, d3⟩ := ref_cells HB6.out
      have HS6 := Lib.hid (K6.out.blk HB.out (fun e => by have := HD.out; have := lt_of_blk HB.out; omega))
      by_cases h30 : k3' = 0
      · subst h30
        rw [if_pos rfl] at HRF
        have f3 : w6.frozen? ⟨D, 3, none⟩ = false := frozen_of_row _ _ _ _ _ HB6.out
        go_upto_region 9 with (fail)
        have kz : Kept (fun i => i = D) w6 (w6.setCell ⟨D, 3, none⟩ (.int .i64 (fq : Int))) := Kept.setCell w6 (by rfl) _
        have hz := heap_setCell_same w6 D 3 _ 37 (.int .i64 (fq : Int)) HB6.out
        generalize w6.setCell ⟨D, 3, none⟩ (.int .i64 (fq : Int)) = w7 at kz hz ⊢
        have K7 : Hid (Kept (fun i => i = D) wr w7) := K6.out.step kz
        have HB7 : Hid (w7.heap[D]? = some (.cells #[.string nm, .int .i64 ((0 : Nat) : Int), .int .i64 (fq : Int), .int .i64 (fq : Int)] 37 (0, 0))) := by unfold Hid; simpa using hz
        have HS7 := Lib.hid (kz.blk HS6.out (fun e => by have := HD.out; have := lt_of_blk HB.out; omega))
        clear kz hz f3
        clear d0 d1 d2 d3
        obtain ⟨es, hes⟩ : ∃ es, es = setN rs j := ⟨_, rfl⟩
        have HES := Lib.hid hes
        have OL := Lib.hid (own_keep HO.out K7.out (fun i hi e => by have := (HO.out.lt i hi).2; have := HD.out; omega))
        rw [← hes] at OL
        obtain ⟨d0, d1, d2, d3⟩ := ref_cells HB7.out
        have hsb := HS7.out
        have c80 : w7.cell? ⟨w.heap.size + 1, 0, none⟩ = some (.slice A1 j p1) := cell_of_row _ _ _ _ _ _ hsb
        clear hes hsb
        go_wp2_with (at_builtin; refine wpList_append_src rfl _ _ 25 25 rfl 37 noRef.val 4 40 Try.underlying25 Try.infoRef rfl (.slice A1 j p1) j (refCells es) rfl (own_base (own_keep OL.out (Kept.alloc noBlock _ _) (fun _ _ h => h)) (fun _ _ => Nat.zero_le _)) _ 1 (refCells [⟨nm, ((0 : Nat) : Int), (fq : Int), (fq : Int)⟩]) rfl (src_ref _ (heap_alloc_new _ _)) ?c3 ?c4 ?_)
        case c3 => unfold maxLen; omega
        case c4 => omega
        intro A9 p9 u9 o9 k9 a9
        have ka := Kept.alloc noBlock w7 (.cells (RefV.cells ⟨nm, ((0 : Nat) : Int), (fq : Int), (fq : Int)⟩).toArray 37)
        have NX := Lib.hid (own_nextS ((HK.out.trans K7.out (fun i hi e => by have := HD.out; have := HK.out.size; omega)).step ka.to) (own_keep OL.out ka (fun _ _ h => h)) o9 k9 a9)
        have hb9 := k9.blk (ka.blk HS7.out (fun h => h)) (fun e => by have := (OL.out.lt _ e).1; have := lt_of_blk B1.out; omega)
        have c90 : u9.cell? ⟨w.heap.size + 1, 0, none⟩ = some (.slice A1 j p1) := cell_of_row _ _ _ _ _ _ hb9
        have f90 : u9.frozen? ⟨w.heap.size + 1, 0, none⟩ = false := frozen_of_row _ _ _ _ _ hb9
        have ks : Kept (fun i => i = w.heap.size + 1) u9 (u9.setCell ⟨w.heap.size + 1, 0, none⟩ (.slice A9 (j + 1) p9)) := Kept.setCell u9 (by rfl) _
        have hz := heap_setCell_same u9 (w.heap.size + 1) 0 _ 27 (.slice A9 (j + 1) p9) hb9
        have HEZ : Hid ((u9.setCell ⟨w.heap.size + 1, 0, none⟩ (.slice A9 (j + 1) p9)).heap[w.heap.size + 1]? = some (.cells #[.slice A9 (j + 1) p9, .int .i64 (f : Int)] 27 (0, 0))) := by unfold Hid; simpa using hz
        have HOZ : Hid ((u9.setCell ⟨w.heap.size + 1, 0, none⟩ (.slice A9 (j + 1) p9)).ownsRow w1.heap.size 37 4 (.slice A9 (j + 1) p9) (j + 1) (refCells (setN rs (j + 1)))) := by
          unfold Hid
          rw [HS.out, refCells_append, HRF.out, ← HES.out]
          exact own_keep NX.out.1 ks (fun i hi e => by have := (NX.out.1.lt i hi).1; have := lt_of_blk B1.out; omega)
        have KZ := Lib.hid (NX.out.2.step ks)
        clear c80 d0 d1 d2 d3 o9 k9 a9 ka hb9 ks hz
        go_wp2
        go_roundw
        case rel => exact ⟨j + 1, A9, p9, by omega, by go_num, HEZ, HOZ, KZ⟩
        case measure => simp [intOf]; omega
      · rw [if_neg h30] at HRF
        have h31 : ((k3' : Int) == 0) = false := by simpa using h30
        go_upto_region 9 with (fail)
        obtain ⟨w7, hw7⟩ : ∃ w7, w7 = w6 := ⟨_, rfl⟩
        rw [← hw7] at K6 HB6 HS6 d0 d1 d2 d3 ⊢
        have K7 := K6
        have HB7 := HB6
        have HS7 := HS6
        clear hw7 h30 h31 K6 HB6 HS6
        clear d0 d1 d2 d3
        obtain ⟨es, hes⟩ : ∃ es, es = setN rs j := ⟨_, rfl⟩
        have HES := Lib.hid hes
        have OL := Lib.hid (own_keep HO.out K7.out (fun i hi e => by have := (HO.out.lt i hi).2; have := HD.out; omega))
        rw [← hes] at OL
        obtain ⟨d0, d1, d2, d3⟩ := ref_cells HB7.out
        have hsb := HS7.out
        have c80 : w7.cell? ⟨w.heap.size + 1, 0, none⟩ = some (.slice A1 j p1) := cell_of_row _ _ _ _ _ _ hsb
        clear hes hsb
        go_wp2_with (at_builtin; refine wpList_append_src rfl _ _ 25 25 rfl 37 noRef.val 4 40 Try.underlying25 Try.infoRef rfl (.slice A1 j p1) j (refCells es) rfl (own_base (own_keep OL.out (Kept.alloc noBlock _ _) (fun _ _ h => h)) (fun _ _ => Nat.zero_le _)) _ 1 (refCells [⟨nm, (k3' : Int), (fq : Int), (tt : Int)⟩]) rfl (src_ref _ (heap_alloc_new _ _)) ?c3 ?c4 ?_)
        case c3 => unfold maxLen; omega
        case c4 => omega
        intro A9 p9 u9 o9 k9 a9
        have ka := Kept.alloc noBlock w7 (.cells (RefV.cells ⟨nm, (k3' : Int), (fq : Int), (tt : Int)⟩).toArray 37)
        have NX := Lib.hid (own_nextS ((HK.out.trans K7.out (fun i hi e => by have := HD.out; have := HK.out.size; omega)).step ka.to) (own_keep OL.out ka (fun _ _ h => h)) o9 k9 a9)
        have hb9 := k9.blk (ka.blk HS7.out (fun h => h)) (fun e => by have := (OL.out.lt _ e).1; have := lt_of_blk B1.out; omega)
        have c90 : u9.cell? ⟨w.heap.size + 1, 0, none⟩ = some (.slice A1 j p1) := cell_of_row _ _ _ _ _ _ hb9
        have f90 : u9.frozen? ⟨w.heap.size + 1, 0, none⟩ = false := frozen_of_row _ _ _ _ _ hb9
        have ks : Kept (fun i => i = w.heap.size + 1) u9 (u9.setCell ⟨w.heap.size + 1, 0, none⟩ (.slice A9 (j + 1) p9)) := Kept.setCell u9 (by rfl) _
        have hz := heap_setCell_same u9 (w.heap.size + 1) 0 _ 27 (.slice A9 (j + 1) p9) hb9
        have HEZ : Hid ((u9.setCell ⟨w.heap.size + 1, 0, none⟩ (.slice A9 (j + 1) p9)).heap[w.heap.size + 1]? = some (.cells #[.slice A9 (j + 1) p9, .int .i64 (f : Int)] 27 (0, 0))) := by unfold Hid; simpa using hz
        have HOZ : Hid ((u9.setCell ⟨w.heap.size + 1, 0, none⟩ (.slice A9 (j + 1) p9)).ownsRow w1.heap.size 37 4 (.slice A9 (j + 1) p9) (j + 1) (refCells (setN rs (j + 1)))) := by
          unfold Hid
          rw [HS.out, refCells_append, HRF.out, ← HES.out]
          exact own_keep NX.out.1 ks (fun i hi e => by have := (NX.out.1.lt i hi).1; have := lt_of_blk B1.out; omega)
        have KZ := Lib.hid (NX.out.2.step ks)
        clear c80 d0 d1 d2 d3 o9 k9 a9 ka hb9 ks hz
        go_wp2
        go_roundw
        case rel => exact ⟨j + 1, A9, p9, by omega, by go_num, HEZ, HOZ, KZ⟩
        case measure => simp [intOf]; omega
    · obtain rfl : j = M := by omega
      have hb0 := HK.out.blk B0.out (fun e => by omega)
      have hb1 := HB.out
      obtain ⟨y0, y1⟩ := pair_cells hb1
      obtain ⟨r0, r1⟩ := pair_cells hb0
      have f0 : wr.frozen? ⟨w.heap.size, 0, none⟩ = false := frozen_of_row _ _ _ _ _ hb0
      have f1 : wr.frozen? ⟨w.heap.size, 1, none⟩ = false := frozen_of_row _ _ _ _ _ hb0
      obtain ⟨hz, kz⟩ := two_set (x0 := .slice A1 j p1) (x1 := .int .i64 (f : Int)) hb0
      have HZ := Lib.hid hz
      have OZ := Lib.hid (own_keep HO.out kz (fun i hi e => by have := (HO.out.lt i hi).1; have := lt_of_blk B0.out; omega))
      have KZ : Hid (Kept noBlock w ((wr.setCell ⟨w.heap.size, 0, none⟩ (.slice A1 j p1)).setCell ⟨w.heap.size, 1, none⟩ (.int .i64 (f : Int)))) := (K1.out.trans (HK.out) (fun i hi h => by omega)).trans kz (fun i hi h => by omega)
      clear hz kz hb0 hb1
      go_wp2
      generalize (wr.setCell ⟨w.heap.size, 0, none⟩ (.slice A1 j p1)).setCell ⟨w.heap.size, 1, none⟩ (.int .i64 (f : Int)) = v9 at HZ OZ KZ ⊢
      obtain ⟨z0, z1⟩ := pair_cells HZ.out
      refine bodyPost_ret (v := .agg #[.slice A1 j p1, .int .i64 (f : Int)]) (by simp [results, Try.results11, go_sem, Try.isAgg27, Try.sizeOf27, z0, z1]) rfl ?_
      exact ⟨A1, p1, rfl, own_base OZ.out (fun i hi => Nat.le_trans K1.out.size (OZ.out.lt i hi).1), KZ.out⟩
end Go.Proofs.Ytollmkkbeeeccaa
