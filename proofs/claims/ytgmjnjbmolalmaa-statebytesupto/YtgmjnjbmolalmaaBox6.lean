/-
  A state as a value; the contract of state.copyOf. No statement is proved here.
-/
import Derived.Test.YtgmjnjbmolalmaaBox5
import Derived.Test.YtgmjnjbmolalmaaStpK
import Derived.Test.YtgmjnjbmolalmaaStsK
namespace Go.Proofs.Ytgmjnjbmolalmaa
open Go.RowKit Tot

/-- A state as a value. -/
def stv (s : StV) (A : Option Addr) (c : Nat) (B : Option Addr) (d : Nat) : Value := .agg #[.int .i64 s.index, .int .i64 s.term, .slice A s.pairs.length c, .slice B s.sess.length d]
/-- Its rows lie in blocks of F. -/
structure Sv (w : World) (F : Nat → Prop) (s : StV) (A : Option Addr) (c : Nat) (B : Option Addr) (d : Nat) : Prop where
  lp : Lies w F A (PR.cells s.pairs)
  ls : Lies w F B (SN.cells s.sess)
  cp : s.pairs.length ≤ c
  cs : s.sess.length ≤ d
theorem Sv.keep {S F : Nat → Prop} {w w' : World} {s : StV} {A B : Option Addr} {c d : Nat} (h : Sv w F s A c B d) (k : Kept S w w') (hd : ∀ i, F i → ¬ S i) : Sv w' F s A c B d := ⟨h.lp.keep k hd, h.ls.keep k hd, h.cp, h.cs⟩
theorem Sv.kept {F : Nat → Prop} {w w' : World} {s : StV} {A B : Option Addr} {c d : Nat} (h : Sv w F s A c B d) (k : Kept noBlock w w') : Sv w' F s A c B d := h.keep k (fun _ _ h => h)
theorem Sv.mono {F G : Nat → Prop} {w : World} {s : StV} {A B : Option Addr} {c d : Nat} (h : Sv w F s A c B d) (hG : ∀ i, F i → G i) : Sv w G s A c B d := ⟨h.lp.mono hG, h.ls.mono hG, h.cp, h.cs⟩
/-- A state that is stored at a block. -/
def setT (w : World) (R : Nat) (s : StV) (A : Option Addr) (c : Nat) (B : Option Addr) (d : Nat) : World := (((w.setCell ⟨R, 0, none⟩ (.int .i64 s.index)).setCell ⟨R, 1, none⟩ (.int .i64 s.term)).setCell ⟨R, 2, none⟩ (.slice A s.pairs.length c)).setCell ⟨R, 3, none⟩ (.slice B s.sess.length d)
theorem setT_block {w : World} {R : Nat} {s : StV} {A B : Option Addr} {c d : Nat} {x0 x1 x2 x3 : Value} {t : TypeId} (h : w.heap[R]? = some (.cells #[x0, x1, x2, x3] t (0, 0))) :
    (setT w R s A c B d).heap[R]? = some (.cells (scells s A c B d).toArray t (0, 0)) := by
  unfold setT
  have h0 := heap_setCell_same w R 0 _ t (.int .i64 s.index) h
  have h1 := heap_setCell_same _ R 1 _ t (.int .i64 s.term) h0
  have h2 := heap_setCell_same _ R 2 _ t (.slice A s.pairs.length c) h1
  have h3 := heap_setCell_same _ R 3 _ t (.slice B s.sess.length d) h2
  rw [h3]
  simp [scells]
theorem setT_kept (w : World) (R : Nat) (s : StV) (A : Option Addr) (c : Nat) (B : Option Addr) (d : Nat) : Kept (fun k => k = R) w (setT w R s A c B d) := by
  unfold setT
  exact (((Kept.setCell w (by rfl) _).step (Kept.setCell _ (by rfl) _)).step (Kept.setCell _ (by rfl) _)).step (Kept.setCell _ (by rfl) _)
theorem st_cells {w : World} {R : Nat} {x0 x1 x2 x3 : Value} {t : TypeId} {fr : Nat × Nat} (h : w.heap[R]? = some (.cells #[x0, x1, x2, x3] t fr)) :
    w.cell? ⟨R, 0, none⟩ = some x0 ∧ w.cell? ⟨R, 1, none⟩ = some x1 ∧ w.cell? ⟨R, 2, none⟩ = some x2 ∧ w.cell? ⟨R, 3, none⟩ = some x3 :=
  ⟨cell_of_row _ _ _ _ _ _ h, cell_of_row _ _ _ _ _ _ h, cell_of_row _ _ _ _ _ _ h, cell_of_row _ _ _ _ _ _ h⟩

set_option maxRecDepth 100000 in
set_option maxHeartbeats 1000000 in
theorem copyof_any (F : Nat → Prop) (s : StV) (A : Option Addr) (c : Nat) (B : Option Addr) (d : Nat) (w : World) (h : Sv w F s A c B d) (hn : s.pairs.length ≤ 1048576) (hm : s.sess.length ≤ 1048576) :
    Calls Try.prog 35 #[stv s A c B d] w fun e w' => ∃ A' c' B' d', e = .returned (stv s A' c' B' d') ∧ w'.ownsRow w.heap.size 61 3 (.slice A' s.pairs.length c') s.pairs.length (PR.cells s.pairs) ∧
      w'.ownsRow w.heap.size 84 4 (.slice B' s.sess.length d') s.sess.length (SN.cells s.sess) ∧ Kept noBlock w w' := by
  have CLP : Hid (∀ u, Kept noBlock w u → Calls Try.prog 56 #[.slice A s.pairs.length c] u fun e w' => ∃ A' c', e = .returned (.slice A' s.pairs.length c') ∧ w'.ownsRow u.heap.size 61 3 (.slice A' s.pairs.length c') s.pairs.length (PR.cells s.pairs) ∧ Kept noBlock u w') := fun u k =>
    PR.clone_any F A _ c s.pairs u (h.lp.keep k (fun _ _ h => h)) rfl hn
  have CLS : Hid (∀ u S, Kept S w u → (∀ i, i < w.heap.size → ¬ S i) → Calls Try.prog 57 #[.slice B s.sess.length d] u fun e w' => ∃ A' c', e = .returned (.slice A' s.sess.length c') ∧ w'.ownsRow u.heap.size 84 4 (.slice A' s.sess.length c') s.sess.length (SN.cells s.sess) ∧ Kept noBlock u w') := fun u S k hS =>
    SN.clone_any F B _ d s.sess u (h.ls.keep (k.mono (T := noBlock) (fun i hi h => hS i hi h)) (fun _ _ h => h)) rfl hm
  obtain ⟨w1, hw1⟩ : ∃ w1, w1 = (w.alloc (.cells #[.int .i64 s.index, .int .i64 s.term, .slice A s.pairs.length c, .slice B s.sess.length d] 33)).alloc (.cells #[.int .i64 0, .int .i64 0, .slice none 0 0, .slice none 0 0] 33) := ⟨_, rfl⟩
  have k1 : Kept noBlock w w1 := by rw [hw1]; exact (Kept.alloc _ _ _).step (Kept.alloc _ _ _)
  have z1 : w1.heap.size = w.heap.size + 2 := by rw [hw1]; simp
  have hS : w1.heap[w.heap.size]? = some (.cells #[.int .i64 s.index, .int .i64 s.term, .slice A s.pairs.length c, .slice B s.sess.length d] 33 (0, 0)) := by rw [hw1]; exact (Kept.alloc noBlock _ _).blk (heap_alloc_new w _) (fun h => h)
  have hR : w1.heap[w.heap.size + 1]? = some (.cells #[.int .i64 0, .int .i64 0, .slice none 0 0, .slice none 0 0] 33 (0, 0)) := by
    rw [hw1]
    have := heap_alloc_new (w.alloc (.cells #[.int .i64 s.index, .int .i64 s.term, .slice A s.pairs.length c, .slice B s.sess.length d] 33)) (.cells #[.int .i64 0, .int .i64 0, .slice none 0 0, .slice none 0 0] 33)
    simpa using this
  obtain ⟨c0, c1, c2, c3⟩ := st_cells hS
  have K1 := Lib.hid k1
  have Z1 := Lib.hid z1
  have HS := Lib.hid hS
  have HR := Lib.hid hR
  obtain ⟨n, hnn⟩ : ∃ n, n = s.pairs.length := ⟨_, rfl⟩
  obtain ⟨m, hmm⟩ : ∃ m, m = s.sess.length := ⟨_, rfl⟩
  clear k1 z1 hS hR h
  unfold stv
  rw [← hnn] at hw1 c2 HS CLP
  rw [← hmm] at hw1 c3 HS CLS
  simp only [← hnn, ← hmm]
  have HN := Lib.hid hnn
  have HM := Lib.hid hmm
  clear hnn hmm hn hm
  go_enter Try.func35, Try.ntmps35
  go_upto_region 1 with (fail)
  rw [← hw1]
  clear hw1
  go_wp2_with fail
  refine (CLP.out w1 K1.out).mono ?_
  rintro e w2 ⟨A2, c2', rfl, o2, k2⟩
  have HS2 := Lib.hid (k2.blk HS.out (fun h => h))
  have HR2 := Lib.hid (k2.blk HR.out (fun h => h))
  have O2 := Lib.hid o2
  have K2 := Lib.hid (K1.out.step k2)
  have Z2 := Lib.hid k2.size
  clear c0 c1 c2 c3 k2 o2 CLP
  obtain ⟨c0, c1, c2, c3⟩ := st_cells HS2.out
  have f2 : w2.frozen? ⟨w.heap.size, 2, none⟩ = false := frozen_of_row _ _ _ _ _ HS2.out
  go_upto_region 2 with (fail)
  have kw3 : Kept (fun i => i = w.heap.size) w2 (w2.setCell ⟨w.heap.size, 2, none⟩ (.slice A2 n c2')) := Kept.setCell w2 (by rfl) _
  have hS3 := heap_setCell_same w2 w.heap.size 2 _ 33 (.slice A2 n c2') HS2.out
  generalize w2.setCell ⟨w.heap.size, 2, none⟩ (.slice A2 n c2') = w3 at kw3 hS3 ⊢
  have hS3' : w3.heap[w.heap.size]? = some (.cells #[.int .i64 s.index, .int .i64 s.term, .slice A2 n c2', .slice B m d] 33 (0, 0)) := by simpa using hS3
  have HR3 := Lib.hid (kw3.blk HR2.out (by omega))
  have HS3 := Lib.hid hS3'
  have O3 := Lib.hid (own_keep O2.out kw3 (fun i hi e => by have := (O2.out.lt i hi).1; have := Z1.out; omega))
  have K3 : Hid (Kept (fun i => i = w.heap.size) w w3) := (K2.out.mono (fun _ _ h => h.elim)).step kw3
  have Z3 : Hid (w1.heap.size ≤ w3.heap.size) := Nat.le_trans Z2.out kw3.size
  clear c0 c1 c2 c3 f2 hS3 hS3' kw3
  obtain ⟨c0, c1, c2, c3⟩ := st_cells HS3.out
  go_wp2_with fail
  refine (CLS.out w3 _ K3.out (fun i hi e => by omega)).mono ?_
  rintro e w4 ⟨B4, d4, rfl, o4, k4⟩
  have HS4 := Lib.hid (k4.blk HS3.out (fun h => h))
  have HR4 := Lib.hid (k4.blk HR3.out (fun h => h))
  have O4p := Lib.hid (own_keep O3.out k4 (fun _ _ h => h))
  have O4 := Lib.hid o4
  have K4 : Hid (Kept (fun i => i = w.heap.size) w w4) := K3.out.trans k4 (fun _ _ h => h.elim)
  clear c0 c1 c2 c3 k4 o4 CLS
  obtain ⟨c0, c1, c2, c3⟩ := st_cells HS4.out
  have f3 : w4.frozen? ⟨w.heap.size, 3, none⟩ = false := frozen_of_row _ _ _ _ _ HS4.out
  go_upto_region 3 with (fail)
  have kw5 : Kept (fun i => i = w.heap.size) w4 (w4.setCell ⟨w.heap.size, 3, none⟩ (.slice B4 m d4)) := Kept.setCell w4 (by rfl) _
  have hS5 := heap_setCell_same w4 w.heap.size 3 _ 33 (.slice B4 m d4) HS4.out
  generalize w4.setCell ⟨w.heap.size, 3, none⟩ (.slice B4 m d4) = w5 at kw5 hS5 ⊢
  have hS5' : w5.heap[w.heap.size]? = some (.cells #[.int .i64 s.index, .int .i64 s.term, .slice A2 n c2', .slice B4 m d4] 33 (0, 0)) := by simpa using hS5
  have HR5 := Lib.hid (kw5.blk HR4.out (by omega))
  have HS5 := Lib.hid hS5'
  have O5p := Lib.hid (own_keep O4p.out kw5 (fun i hi e => by have := (O4p.out.lt i hi).1; have := Z1.out; omega))
  have O5 := Lib.hid (own_keep O4.out kw5 (fun i hi e => by have := (O4.out.lt i hi).1; have := Z1.out; have := Z3.out; omega))
  have K5 : Hid (Kept (fun i => i = w.heap.size) w w5) := K4.out.step kw5
  clear c0 c1 c2 c3 f3 hS5 hS5' kw5
  obtain ⟨c0, c1, c2, c3⟩ := st_cells HS5.out
  obtain ⟨r0, r1, r2, r3⟩ := st_cells HR5.out
  have hfz : ∀ j, w5.frozen? ⟨w.heap.size + 1, j, none⟩ = false := fun j => frozen_of_row _ _ _ _ _ HR5.out
  have f0 := hfz 0
  have f1 := hfz 1
  have f2 := hfz 2
  have f3 := hfz 3
  clear hfz
  have hnn := HN.out
  have hmm := HM.out
  clear HN HM
  subst hnn hmm
  have hbz := setT_block (s := s) (A := A2) (c := c2') (B := B4) (d := d4) HR5.out
  have kz := setT_kept w5 (w.heap.size + 1) s A2 c2' B4 d4
  have OZp := Lib.hid (own_keep O5p.out kz (fun i hi e => by have := (O5p.out.lt i hi).1; have := Z1.out; omega))
  have OZ := Lib.hid (own_keep O5.out kz (fun i hi e => by have := (O5.out.lt i hi).1; have := Z1.out; have := Z3.out; omega))
  have KZ : Hid (Kept noBlock w (setT w5 (w.heap.size + 1) s A2 c2' B4 d4)) := ((K5.out.mono (T := fun i => i = w.heap.size ∨ i = w.heap.size + 1) (fun i _ e => .inl e)).trans kz (fun i hi e => .inr e)).mono (fun i hi h => by omega)
  clear kz
  go_wp2
  change bodyPost _ _ _ _ _ (setT w5 (w.heap.size + 1) s A2 c2' B4 d4)
  generalize setT w5 (w.heap.size + 1) s A2 c2' B4 d4 = vz at hbz OZp OZ KZ ⊢
  obtain ⟨z0, z1, z2, z3⟩ := st_cells hbz
  refine bodyPost_ret (v := stv s A2 c2' B4 d4) (by simp [results, Try.results35, go_sem, stv, Try.isAgg33, Try.sizeOf33, z0, z1, z2, z3]) rfl ?_
  refine ⟨A2, c2', B4, d4, rfl, own_base OZp.out (fun i hi => ?_), own_base OZ.out (fun i hi => ?_), KZ.out⟩
  · have := (OZp.out.lt i hi).1
    have := Z1.out
    omega
  · have := (OZ.out.lt i hi).1
    have := Z1.out
    have := Z3.out
    omega
end Go.Proofs.Ytgmjnjbmolalmaa
