/-
  The contract of state.Fold. No statement is proved here.
-/
import Derived.Test.YtgmjnjbmolalmaaBox7
import Derived.Test.YtgmjnjbmolalmaaEntRow
namespace Go.Proofs.Ytgmjnjbmolalmaa
open Go.RowKit Tot

/-- A state at a block that a call made, in blocks that came since. -/
def BxN (w1 w : World) (b : Nat) (s : StV) : Prop := Bx w (fun i => i = b ∨ (w1.heap.size ≤ i ∧ i < w.heap.size)) b s
theorem BxN.did {w1 w w' : World} {b : Nat} {s' : StV} (d : Did (fun i => i = b ∨ (w1.heap.size ≤ i ∧ i < w.heap.size)) w w' b s') (hb : b < w1.heap.size) (hw : w1.heap.size ≤ w.heap.size) : BxN w1 w' b s' := by
  refine d.bx.mono (fun i hi => ?_) (fun i hi => ?_)
  · rcases hi with (h1 | h1) | h1
    · exact .inl h1
    · exact .inr ⟨h1.1, Nat.lt_of_lt_of_le h1.2 d.kept.size⟩
    · exact .inr ⟨Nat.le_trans hw h1.1, h1.2⟩
  · rcases hi with h1 | h1
    · have := d.kept.size; omega
    · exact h1.2

set_option maxRecDepth 100000 in
set_option maxHeartbeats 1000000 in
theorem fold_any (F : Nat → Prop) (s : StV) (A : Option Addr) (c : Nat) (B : Option Addr) (d : Nat) (a : Option Addr) (n cp : Nat) (es : List EntryV) (w : World) (h : Sv w F s A c B d) (hs : s.Right) (he : Lies w F a (entCells es)) (hl : es.length = n) (hcp : n ≤ cp) (hn : n ≤ 1048576) :
    Calls Try.prog 22 #[stv s A c B d, .slice a n cp] w fun en w' => ∃ A' c' B' d', en = .returned (stv (foldV s es) A' c' B' d') ∧ Sv w' (fresh w w') (foldV s es) A' c' B' d' ∧ Kept noBlock w w' := by
  obtain ⟨w1, hw1⟩ : ∃ w1, w1 = (w.alloc (.cells (scells s A c B d).toArray 33)).alloc (.cells #[.int .i64 0, .int .i64 0, .slice none 0 0, .slice none 0 0] 33) := ⟨_, rfl⟩
  have k1 : Kept noBlock w w1 := by rw [hw1]; exact (Kept.alloc _ _ _).step (Kept.alloc _ _ _)
  have z1 : w1.heap.size = w.heap.size + 2 := by rw [hw1]; simp
  have hb : w1.heap[w.heap.size]? = some (.cells (scells s A c B d).toArray 33 (0, 0)) := by rw [hw1]; exact (Kept.alloc noBlock _ _).blk (heap_alloc_new w _) (fun h => h)
  have hR : w1.heap[w.heap.size + 1]? = some (.cells #[.int .i64 0, .int .i64 0, .slice none 0 0, .slice none 0 0] 33 (0, 0)) := by
    rw [hw1]
    exact heap_alloc_at (by simp)
  unfold scells at hw1 hb
  have COPY := Lib.hid (copyof_any F s A c B d w1 (h.kept k1) (by have := hs.len; omega) (by have := hs.lens; omega))
  obtain ⟨c0, c1, c2, c3⟩ := st_cells hb
  have K1 := Lib.hid k1
  have Z1 := Lib.hid z1
  have HB := Lib.hid hb
  have HR := Lib.hid hR
  have HS := Lib.hid hs
  have HE := Lib.hid he
  have HL := Lib.hid hl
  clear k1 z1 hb hR h hs he hl
  unfold stv at *
  go_enter Try.func22, Try.ntmps22
  go_upto_region 1 with (fail)
  rw [← hw1]
  clear hw1
  go_wp2_with fail
  refine COPY.out.mono ?_
  rintro en w2 ⟨A2, c2', B2, d2, rfl, o2p, o2, k2⟩
  clear c0 c1 c2 c3 COPY
  have HB2 := Lib.hid (k2.blk HB.out (fun h => h))
  have K2 := Lib.hid (K1.out.step k2)
  have HR2 := Lib.hid (k2.blk HR.out (fun h => h))
  have Z2 := Lib.hid k2.size
  have O2p := Lib.hid o2p
  have O2 := Lib.hid o2
  clear o2p o2 k2
  obtain ⟨c0, c1, c2, c3⟩ := st_cells HB2.out
  have hfz : ∀ j, w2.frozen? ⟨w.heap.size, j, none⟩ = false := fun j => frozen_of_row _ _ _ _ _ HB2.out
  have f0 := hfz 0
  have f1 := hfz 1
  have f2 := hfz 2
  have f3 := hfz 3
  clear hfz
  have hb3 := setT_block (s := s) (A := A2) (c := c2') (B := B2) (d := d2) HB2.out
  have k3 := setT_kept w2 w.heap.size s A2 c2' B2 d2
  go_upto_region 2 with (fail)
  change Code.wp _ _ _ _ (setT w2 w.heap.size s A2 c2' B2 d2)
  generalize setT w2 w.heap.size s A2 c2' B2 d2 = w3 at hb3 k3 ⊢
  clear c0 c1 c2 c3 f0 f1 f2 f3
  have bx : BxN w1 w3 w.heap.size s := by
    have z3 := k3.size
    refine ⟨A2, c2', B2, d2, hb3, own_base (own_keep O2p.out k3 (fun i hi e => by have := (O2p.out.lt i hi).1; have := Z1.out; omega)) (fun _ _ => Nat.zero_le _), own_base (own_keep O2.out k3 (fun i hi e => by have := (O2.out.lt i hi).1; have := Z1.out; omega)) (fun _ _ => Nat.zero_le _), .inl rfl, fun i hi => .inr ?_, fun i hi => .inr ?_, fun i hi => ?_⟩
    · exact ⟨(O2p.out.lt i hi).1, Nat.lt_of_lt_of_le (O2p.out.lt i hi).2 z3⟩
    · exact ⟨(O2.out.lt i hi).1, Nat.lt_of_lt_of_le (O2.out.lt i hi).2 z3⟩
    · have := Z1.out
      have := Z2.out
      omega
  have hR3 := k3.blk HR2.out (by omega)
  have KW : Hid (Kept noBlock w w3) := ((K2.out.mono (T := fun i => i = w.heap.size) (fun _ _ h => h.elim)).step k3).mono (fun i hi h => by omega)
  have z3 : Hid (w1.heap.size ≤ w3.heap.size) := Nat.le_trans Z2.out k3.size
  have BX := Lib.hid bx
  have HR3 := Lib.hid hR3
  clear bx hb3 k3 hR3 HB HB2 O2p O2 K2 Z2 HR HR2
  go_wp2_with fail
  go_loopw [11] (fun i wr => ∃ k : Nat, k ≤ n ∧ i = .int .i64 (k : Int) ∧ Hid (BxN w1 wr w.heap.size (foldV s (es.take k))) ∧ Hid (Kept noBlock w wr) ∧ Hid (wr.heap[w.heap.size + 1]? = some (.cells #[.int .i64 0, .int .i64 0, .slice none 0 0, .slice none 0 0] 33 (0, 0))) ∧ Hid (w1.heap.size ≤ wr.heap.size)) (fun i _ => n - (intOf i).toNat)
  case atStart => exact ⟨0, by omega, rfl, by unfold Hid; rw [List.take_zero]; exact BX.out, KW, HR3, z3⟩
  case round =>
    obtain ⟨k, hk, rfl, HX, HK, HRR, HZ⟩ := hrel
    by_cases hlt : k < n
    · obtain ⟨x, hx⟩ : ∃ x, es[k]? = some x := ⟨_, List.getElem?_eq_getElem (by have := HL.out; omega)⟩
      obtain ⟨g, o, rfl, _, e⟩ := ents_cell (HE.out.keep HK.out (fun _ _ h => h)) hx
      obtain ⟨e0, e1, e2, e3, e4, e5, e6, e7⟩ := e
      have HXX := Lib.hid hx
      clear hx
      have ST := Lib.hid (fun u (ku : Kept noBlock wr u) => step_any _ w.heap.size (foldV s (es.take k)) x u (HX.out.keep ku (fun _ _ h => h)) (foldV_right HS.out _))
      unfold EntryV.val at ST
      go_wp2_with fail
      refine (ST.out _ (Kept.alloc _ _ _)).mono ?_
      rintro en w5 ⟨rfl, d5⟩
      have d6 := Did.after (Kept.alloc noBlock wr _) d5 HX.out.lt
      have BX6 := Lib.hid (BxN.did d6 (by have := Z1.out; omega) HZ.out)
      have K6 : Hid (Kept noBlock w w5) := ((HK.out.mono (T := fun i => w.heap.size ≤ i) (fun _ _ h => h.elim)).trans d6.kept (fun i _ h => by have := Z1.out; omega)).mono (fun i hi h => by omega)
      have HR6 := Lib.hid (d6.kept.blk HRR.out (fun h => by have := Z1.out; omega))
      have HZ6 : Hid (w1.heap.size ≤ w5.heap.size) := Nat.le_trans HZ.out d6.kept.size
      have HT : Hid (foldV s (es.take (k + 1)) = (stepV (foldV s (es.take k)) x).1) := by unfold Hid; rw [take_snoc es k x HXX.out, foldV_snoc]
      rw [← HT.out] at BX6
      generalize (stepV (foldV s (es.take k)) x).2.val = vr
      clear d5 d6 ST e0 e1 e2 e3 e4 e5 e6 e7 HT
      go_wp2
      go_roundw
      case rel => exact ⟨k + 1, by omega, by go_num, BX6, K6, HR6, HZ6⟩
      case measure => simp [intOf]; omega
    · obtain rfl : k = n := by omega
      have bx := HX.out
      rw [List.take_of_length_le (by have := HL.out; omega)] at bx
      obtain ⟨s', hs'⟩ : ∃ s', s' = foldV s es := ⟨_, rfl⟩
      rw [← hs'] at bx
      have HS' := Lib.hid hs'
      clear hs'
      obtain ⟨A5, c5, B5, d5, h5⟩ := bx
      obtain ⟨c0, c1, c2, c3⟩ := h5.cells
      have H5 := Lib.hid h5
      obtain ⟨r0, r1, r2, r3⟩ := st_cells HRR.out
      have hfz : ∀ j, wr.frozen? ⟨w.heap.size + 1, j, none⟩ = false := fun j => frozen_of_row _ _ _ _ _ HRR.out
      have f0 := hfz 0
      have f1 := hfz 1
      have f2 := hfz 2
      have f3 := hfz 3
      have kz := setT_kept wr (w.heap.size + 1) s' A5 c5 B5 d5
      have hz := setT_block (s := s') (A := A5) (c := c5) (B := B5) (d := d5) HRR.out
      clear hfz h5 HX
      go_wp2
      change bodyPost _ _ _ _ _ (setT wr (w.heap.size + 1) s' A5 c5 B5 d5)
      generalize setT wr (w.heap.size + 1) s' A5 c5 B5 d5 = vz at kz hz ⊢
      have KW2 : Hid (Kept noBlock w vz) := ((HK.out.mono (T := fun i => w.heap.size ≤ i) (fun _ _ h => h.elim)).trans kz (fun i _ h => by omega)).mono (fun i hi h => by omega)
      have FG : ∀ i, i = w.heap.size ∨ (w1.heap.size ≤ i ∧ i < wr.heap.size) → fresh w vz i := fun i hi => by
        have h1 := H5.out.lt i hi
        have := Z1.out
        have := kz.size
        exact ⟨by omega, by omega⟩
      have NZ : ∀ i, i = w.heap.size ∨ (w1.heap.size ≤ i ∧ i < wr.heap.size) → ¬ (i = w.heap.size + 1) := fun i hi h => by have := Z1.out; omega
      have SV : Hid (Sv vz (fresh w vz) s' A5 c5 B5 d5) := by
        refine ⟨(Lies.of_rows (F := _) H5.out.ownp H5.out.fp).keep kz NZ |>.mono FG, (Lies.of_rows (F := _) H5.out.owns H5.out.fs).keep kz NZ |>.mono FG, ?_, ?_⟩
        · obtain ⟨_, _, e, hle⟩ := own_form H5.out.ownp
          injection e with _ _ e
          omega
        · obtain ⟨_, _, e, hle⟩ := own_form H5.out.owns
          injection e with _ _ e
          omega
      obtain ⟨z0, z1, z2, z3⟩ := st_cells hz
      refine bodyPost_ret (v := stv s' A5 c5 B5 d5) (by simp [results, Try.results22, go_sem, stv, Try.isAgg33, Try.sizeOf33, z0, z1, z2, z3]) rfl ?_
      rw [← HS'.out]
      exact ⟨A5, c5, B5, d5, rfl, SV.out, KW2.out⟩
end Go.Proofs.Ytgmjnjbmolalmaa
