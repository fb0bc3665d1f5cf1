/-
  Several texts, one behind the other. No statement is proved here.
-/
import Derived.Test.YthmjjhjblokjeaaGreatBox5
import Derived.Test.YthmjjhjblokjeaaGreatStpK
import Derived.Test.YthmjjhjblokjeaaGreatStsK
import Derived.Test.YthmjjhjblokjeaaGreatEntK
/-
  A state as a value; the contract of state.copyOf. No statement is proved here.
-/
namespace Go.Proofs.YthmjjhjblokjeaaGreat
open Go.RowKit Tot

/-- A state as a value. -/
def stv (s : StV) (A : Option Addr) (c : Nat) (B : Option Addr) (d : Nat) : Value := .agg #[.int .i64 s.index, .int .i64 s.term, .slice A s.pairs.length c, .slice B s.sess.length d]
/-- Its rows lie in blocks of F. -/
structure Sv (w : World) (F : Nat → Prop) (s : StV) (A : Option Addr) (c : Nat) (B : Option Addr) (d : Nat) : Prop where
  lp : Lies w F A (PR.cells s.pairs)
  ls : Lies w F B (SN.cells s.sess)
  cp : s.pairs.length ≤ c
  cs : s.sess.length ≤ d
theorem Sv.keep {S F : Nat → Prop} {w w' : World} {s : StV} {A B : Option Addr} {c d : Nat} (h : Sv w F s A c B d) (k : Kept S w w') (hd : ∀ i, F i → ¬ S i) : Sv w' F s A c B d := ⟨h.lp.keep k hd, h.ls.keep k hd, h.cp, h.cs⟩
theorem Sv.kept {F : Nat → Prop} {w w' : World} {s : StV} {A B : Option Addr} {c d : Nat} (h : Sv w F s A c B d) (k : Kept noBlock w w') : Sv w' F s A c B d := h.keep k (fun _ _ h => h)
theorem Sv.mono {F G : Nat → Prop} {w : World} {s : StV} {A B : Option Addr} {c d : Nat} (h : Sv w F s A c B d) (hG : ∀ i, F i → G i) : Sv w G s A c B d := ⟨h.lp.mono hG, h.ls.mono hG, h.cp, h.cs⟩
/-- A state that is stored at a block. -/
def setT (w : World) (R : Nat) (s : StV) (A : Option Addr) (c : Nat) (B : Option Addr) (d : Nat) : World := (((w.setCell ⟨R, 0, none⟩ (.int .i64 s.index)).setCell ⟨R, 1, none⟩ (.int .i64 s.term)).setCell ⟨R, 2, none⟩ (.slice A s.pairs.length c)).setCell ⟨R, 3, none⟩ (.slice B s.sess.length d)
theorem setT_block {w : World} {R : Nat} {s : StV} {A B : Option Addr} {c d : Nat} {x0 x1 x2 x3 : Value} {t : TypeId} (h : w.heap[R]? = some (.cells #[x0, x1, x2, x3] t (0, 0))) :
    (setT w R s A c B d).heap[R]? = some (.cells (scells s A c B d).toArray t (0, 0)) := by
  unfold setT
  have h0 := heap_setCell_same w R 0 _ t (.int .i64 s.index) h
  have h1 := heap_setCell_same _ R 1 _ t (.int .i64 s.term) h0
  have h2 := heap_setCell_same _ R 2 _ t (.slice A s.pairs.length c) h1
  have h3 := heap_setCell_same _ R 3 _ t (.slice B s.sess.length d) h2
  rw [h3]
  simp [scells]
theorem setT_kept (w : World) (R : Nat) (s : StV) (A : Option Addr) (c : Nat) (B : Option Addr) (d : Nat) : Kept (fun k => k = R) w (setT w R s A c B d) := by
  unfold setT
  exact (((Kept.setCell w (by rfl) _).step (Kept.setCell _ (by rfl) _)).step (Kept.setCell _ (by rfl) _)).step (Kept.setCell _ (by rfl) _)
theorem st_cells {w : World} {R : Nat} {x0 x1 x2 x3 : Value} {t : TypeId} {fr : Nat × Nat} (h : w.heap[R]? = some (.cells #[x0, x1, x2, x3] t fr)) :
    w.cell? ⟨R, 0, none⟩ = some x0 ∧ w.cell? ⟨R, 1, none⟩ = some x1 ∧ w.cell? ⟨R, 2, none⟩ = some x2 ∧ w.cell? ⟨R, 3, none⟩ = some x3 :=
  ⟨cell_of_row _ _ _ _ _ _ h, cell_of_row _ _ _ _ _ _ h, cell_of_row _ _ _ _ _ _ h, cell_of_row _ _ _ _ _ _ h⟩

set_option maxRecDepth 100000 in
set_option maxHeartbeats 1000000 in
theorem copyof_any (F : Nat → Prop) (s : StV) (A : Option Addr) (c : Nat) (B : Option Addr) (d : Nat) (w : World) (h : Sv w F s A c B d) (hn : s.pairs.length ≤ 1048576) (hm : s.sess.length ≤ 1048576) :
    Calls Tryz.prog 43 #[stv s A c B d] w fun e w' => ∃ A' c' B' d', e = .returned (stv s A' c' B' d') ∧ w'.ownsRow w.heap.size 68 3 (.slice A' s.pairs.length c') s.pairs.length (PR.cells s.pairs) ∧
      w'.ownsRow w.heap.size 63 4 (.slice B' s.sess.length d') s.sess.length (SN.cells s.sess) ∧ Kept noBlock w w' := by
  have CLP : Hid (∀ u, Kept noBlock w u → Calls Tryz.prog 72 #[.slice A s.pairs.length c] u fun e w' => ∃ A' c', e = .returned (.slice A' s.pairs.length c') ∧ w'.ownsRow u.heap.size 68 3 (.slice A' s.pairs.length c') s.pairs.length (PR.cells s.pairs) ∧ Kept noBlock u w') := fun u k =>
    PR.clone_any F A _ c s.pairs u (h.lp.keep k (fun _ _ h => h)) rfl hn
  have CLS : Hid (∀ u S, Kept S w u → (∀ i, i < w.heap.size → ¬ S i) → Calls Tryz.prog 20 #[.slice B s.sess.length d] u fun e w' => ∃ A' c', e = .returned (.slice A' s.sess.length c') ∧ w'.ownsRow u.heap.size 63 4 (.slice A' s.sess.length c') s.sess.length (SN.cells s.sess) ∧ Kept noBlock u w') := fun u S k hS =>
    SN.clone_any F B _ d s.sess u (h.ls.keep (k.mono (T := noBlock) (fun i hi h => hS i hi h)) (fun _ _ h => h)) rfl hm
  obtain ⟨w1, hw1⟩ : ∃ w1, w1 = (w.alloc (.cells #[.int .i64 s.index, .int .i64 s.term, .slice A s.pairs.length c, .slice B s.sess.length d] 27)).alloc (.cells #[.int .i64 0, .int .i64 0, .slice none 0 0, .slice none 0 0] 27) := ⟨_, rfl⟩
  have k1 : Kept noBlock w w1 := by rw [hw1]; exact (Kept.alloc _ _ _).step (Kept.alloc _ _ _)
  have z1 : w1.heap.size = w.heap.size + 2 := by rw [hw1]; simp
  have hS : w1.heap[w.heap.size]? = some (.cells #[.int .i64 s.index, .int .i64 s.term, .slice A s.pairs.length c, .slice B s.sess.length d] 27 (0, 0)) := by rw [hw1]; exact (Kept.alloc noBlock _ _).blk (heap_alloc_new w _) (fun h => h)
  have hR : w1.heap[w.heap.size + 1]? = some (.cells #[.int .i64 0, .int .i64 0, .slice none 0 0, .slice none 0 0] 27 (0, 0)) := by
    rw [hw1]
    have := heap_alloc_new (w.alloc (.cells #[.int .i64 s.index, .int .i64 s.term, .slice A s.pairs.length c, .slice B s.sess.length d] 27)) (.cells #[.int .i64 0, .int .i64 0, .slice none 0 0, .slice none 0 0] 27)
    simpa using this
  obtain ⟨c0, c1, c2, c3⟩ := st_cells hS
  have K1 := Lib.hid k1
  have Z1 := Lib.hid z1
  have HS := Lib.hid hS
  have HR := Lib.hid hR
  obtain ⟨n, hnn⟩ : ∃ n, n = s.pairs.length := ⟨_, rfl⟩
  obtain ⟨m, hmm⟩ : ∃ m, m = s.sess.length := ⟨_, rfl⟩
  clear k1 z1 hS hR h
  unfold stv
  rw [← hnn] at hw1 c2 HS CLP
  rw [← hmm] at hw1 c3 HS CLS
  simp only [← hnn, ← hmm]
  have HN := Lib.hid hnn
  have HM := Lib.hid hmm
  clear hnn hmm hn hm
  go_enter Tryz.func43, Tryz.ntmps43
  go_upto_region 1 with (fail)
  rw [← hw1]
  clear hw1
  go_wp2_with fail
  refine (CLP.out w1 K1.out).mono ?_
  rintro e w2 ⟨A2, c2', rfl, o2, k2⟩
  have HS2 := Lib.hid (k2.blk HS.out (fun h => h))
  have HR2 := Lib.hid (k2.blk HR.out (fun h => h))
  have O2 := Lib.hid o2
  have K2 := Lib.hid (K1.out.step k2)
  have Z2 := Lib.hid k2.size
  clear c0 c1 c2 c3 k2 o2 CLP
  obtain ⟨c0, c1, c2, c3⟩ := st_cells HS2.out
  have f2 : w2.frozen? ⟨w.heap.size, 2, none⟩ = false := frozen_of_row _ _ _ _ _ HS2.out
  go_upto_region 2 with (fail)
  have kw3 : Kept (fun i => i = w.heap.size) w2 (w2.setCell ⟨w.heap.size, 2, none⟩ (.slice A2 n c2')) := Kept.setCell w2 (by rfl) _
  have hS3 := heap_setCell_same w2 w.heap.size 2 _ 27 (.slice A2 n c2') HS2.out
  generalize w2.setCell ⟨w.heap.size, 2, none⟩ (.slice A2 n c2') = w3 at kw3 hS3 ⊢
  have hS3' : w3.heap[w.heap.size]? = some (.cells #[.int .i64 s.index, .int .i64 s.term, .slice A2 n c2', .slice B m d] 27 (0, 0)) := by simpa using hS3
  have HR3 := Lib.hid (kw3.blk HR2.out (by omega))
  have HS3 := Lib.hid hS3'
  have O3 := Lib.hid (own_keep O2.out kw3 (fun i hi e => by have := (O2.out.lt i hi).1; have := Z1.out; omega))
  have K3 : Hid (Kept (fun i => i = w.heap.size) w w3) := (K2.out.mono (fun _ _ h => h.elim)).step kw3
  have Z3 : Hid (w1.heap.size ≤ w3.heap.size) := Nat.le_trans Z2.out kw3.size
  clear c0 c1 c2 c3 f2 hS3 hS3' kw3
  obtain ⟨c0, c1, c2, c3⟩ := st_cells HS3.out
  go_wp2_with fail
  refine (CLS.out w3 _ K3.out (fun i hi e => by omega)).mono ?_
  rintro e w4 ⟨B4, d4, rfl, o4, k4⟩
  have HS4 := Lib.hid (k4.blk HS3.out (fun h => h))
  have HR4 := Lib.hid (k4.blk HR3.out (fun h => h))
  have O4p := Lib.hid (own_keep O3.out k4 (fun _ _ h => h))
  have O4 := Lib.hid o4
  have K4 : Hid (Kept (fun i => i = w.heap.size) w w4) := K3.out.trans k4 (fun _ _ h => h.elim)
  clear c0 c1 c2 c3 k4 o4 CLS
  obtain ⟨c0, c1, c2, c3⟩ := st_cells HS4.out
  have f3 : w4.frozen? ⟨w.heap.size, 3, none⟩ = false := frozen_of_row _ _ _ _ _ HS4.out
  go_upto_region 3 with (fail)
  have kw5 : Kept (fun i => i = w.heap.size) w4 (w4.setCell ⟨w.heap.size, 3, none⟩ (.slice B4 m d4)) := Kept.setCell w4 (by rfl) _
  have hS5 := heap_setCell_same w4 w.heap.size 3 _ 27 (.slice B4 m d4) HS4.out
  generalize w4.setCell ⟨w.heap.size, 3, none⟩ (.slice B4 m d4) = w5 at kw5 hS5 ⊢
  have hS5' : w5.heap[w.heap.size]? = some (.cells #[.int .i64 s.index, .int .i64 s.term, .slice A2 n c2', .slice B4 m d4] 27 (0, 0)) := by simpa using hS5
  have HR5 := Lib.hid (kw5.blk HR4.out (by omega))
  have HS5 := Lib.hid hS5'
  have O5p := Lib.hid (own_keep O4p.out kw5 (fun i hi e => by have := (O4p.out.lt i hi).1; have := Z1.out; omega))
  have O5 := Lib.hid (own_keep O4.out kw5 (fun i hi e => by have := (O4.out.lt i hi).1; have := Z1.out; have := Z3.out; omega))
  have K5 : Hid (Kept (fun i => i = w.heap.size) w w5) := K4.out.step kw5
  clear c0 c1 c2 c3 f3 hS5 hS5' kw5
  obtain ⟨c0, c1, c2, c3⟩ := st_cells HS5.out
  obtain ⟨r0, r1, r2, r3⟩ := st_cells HR5.out
  have hfz : ∀ j, w5.frozen? ⟨w.heap.size + 1, j, none⟩ = false := fun j => frozen_of_row _ _ _ _ _ HR5.out
  have f0 := hfz 0
  have f1 := hfz 1
  have f2 := hfz 2
  have f3 := hfz 3
  clear hfz
  have hnn := HN.out
  have hmm := HM.out
  clear HN HM
  subst hnn hmm
  have hbz := setT_block (s := s) (A := A2) (c := c2') (B := B4) (d := d4) HR5.out
  have kz := setT_kept w5 (w.heap.size + 1) s A2 c2' B4 d4
  have OZp := Lib.hid (own_keep O5p.out kz (fun i hi e => by have := (O5p.out.lt i hi).1; have := Z1.out; omega))
  have OZ := Lib.hid (own_keep O5.out kz (fun i hi e => by have := (O5.out.lt i hi).1; have := Z1.out; have := Z3.out; omega))
  have KZ : Hid (Kept noBlock w (setT w5 (w.heap.size + 1) s A2 c2' B4 d4)) := ((K5.out.mono (T := fun i => i = w.heap.size ∨ i = w.heap.size + 1) (fun i _ e => .inl e)).trans kz (fun i hi e => .inr e)).mono (fun i hi h => by omega)
  clear kz
  go_wp2
  change bodyPost _ _ _ _ _ (setT w5 (w.heap.size + 1) s A2 c2' B4 d4)
  generalize setT w5 (w.heap.size + 1) s A2 c2' B4 d4 = vz at hbz OZp OZ KZ ⊢
  obtain ⟨z0, z1, z2, z3⟩ := st_cells hbz
  refine bodyPost_ret (v := stv s A2 c2' B4 d4) (by simp [results, Tryz.results43, go_sem, stv, Tryz.isAgg27, Tryz.sizeOf27, z0, z1, z2, z3]) rfl ?_
  refine ⟨A2, c2', B4, d4, rfl, own_base OZp.out (fun i hi => ?_), own_base OZ.out (fun i hi => ?_), KZ.out⟩
  · have := (OZp.out.lt i hi).1
    have := Z1.out
    omega
  · have := (OZ.out.lt i hi).1
    have := Z1.out
    have := Z3.out
    omega
end Go.Proofs.YthmjjhjblokjeaaGreat

/-
  The contract of state.Apply. No statement is proved here.
-/
namespace Go.Proofs.YthmjjhjblokjeaaGreat
open Go.RowKit Tot

/-- A call's locals: a state and an entry, and places for what comes of it. -/
def locA (w : World) (s : StV) (A : Option Addr) (c : Nat) (B : Option Addr) (d : Nat) (e : EntryV) : World :=
  (((w.alloc (.cells (scells s A c B d).toArray 27)).alloc (.cells e.cells.toArray 56)).alloc (.cells #[.int .i64 0, .int .i64 0, .slice none 0 0, .slice none 0 0] 27)).alloc (.cells (told 0).cells.toArray 61)
theorem heap_alloc_at {w : World} {o : Obj} {n : Nat} (h : w.heap.size = n) : (w.alloc o).heap[n]? = some o := by
  subst h
  exact heap_alloc_new w o
theorem locA_all (w : World) (s : StV) (A : Option Addr) (c : Nat) (B : Option Addr) (d : Nat) (e : EntryV) :
    Kept noBlock w (locA w s A c B d e) ∧ (locA w s A c B d e).heap.size = w.heap.size + 4 ∧ (locA w s A c B d e).heap[w.heap.size]? = some (.cells (scells s A c B d).toArray 27 (0, 0)) ∧ (locA w s A c B d e).heap[w.heap.size + 1]? = some (.cells e.cells.toArray 56 (0, 0)) ∧
      (locA w s A c B d e).heap[w.heap.size + 2]? = some (.cells #[.int .i64 0, .int .i64 0, .slice none 0 0, .slice none 0 0] 27 (0, 0)) ∧ (locA w s A c B d e).heap[w.heap.size + 3]? = some (.cells (told 0).cells.toArray 61 (0, 0)) := by
  unfold locA
  refine ⟨(((Kept.alloc _ _ _).step (Kept.alloc _ _ _)).step (Kept.alloc _ _ _)).step (Kept.alloc _ _ _), by simp, ?_, ?_, ?_, ?_⟩
  · exact (((Kept.alloc noBlock _ _).step (Kept.alloc _ _ _)).step (Kept.alloc _ _ _)).blk (heap_alloc_new w _) (fun h => h)
  · exact ((Kept.alloc noBlock _ _).step (Kept.alloc _ _ _)).blk (heap_alloc_at (by simp)) (fun h => h)
  · exact (Kept.alloc noBlock _ _).blk (heap_alloc_at (by simp)) (fun h => h)
  · exact heap_alloc_at (by simp)

end Go.Proofs.YthmjjhjblokjeaaGreat

/-
  The contract of state.Fold. No statement is proved here.
-/
namespace Go.Proofs.YthmjjhjblokjeaaGreat
open Go.RowKit Tot

/-- A state at a block that a call made, in blocks that came since. -/
def BxN (w1 w : World) (b : Nat) (s : StV) : Prop := Bx w (fun i => i = b ∨ (w1.heap.size ≤ i ∧ i < w.heap.size)) b s
theorem BxN.did {w1 w w' : World} {b : Nat} {s' : StV} (d : Did (fun i => i = b ∨ (w1.heap.size ≤ i ∧ i < w.heap.size)) w w' b s') (hb : b < w1.heap.size) (hw : w1.heap.size ≤ w.heap.size) : BxN w1 w' b s' := by
  refine d.bx.mono (fun i hi => ?_) (fun i hi => ?_)
  · rcases hi with (h1 | h1) | h1
    · exact .inl h1
    · exact .inr ⟨h1.1, Nat.lt_of_lt_of_le h1.2 d.kept.size⟩
    · exact .inr ⟨Nat.le_trans hw h1.1, h1.2⟩
  · rcases hi with h1 | h1
    · have := d.kept.size; omega
    · exact h1.2

set_option maxRecDepth 100000 in
set_option maxHeartbeats 1000000 in
theorem fold_any (F : Nat → Prop) (s : StV) (A : Option Addr) (c : Nat) (B : Option Addr) (d : Nat) (a : Option Addr) (n cp : Nat) (es : List EntryV) (w : World) (h : Sv w F s A c B d) (hs : s.Right) (he : Lies w F a (entCells es)) (hl : es.length = n) (hcp : n ≤ cp) (hn : n ≤ 1048576) :
    Calls Tryz.prog 19 #[stv s A c B d, .slice a n cp] w fun en w' => ∃ A' c' B' d', en = .returned (stv (foldV s es) A' c' B' d') ∧ Sv w' (fresh w w') (foldV s es) A' c' B' d' ∧ Kept noBlock w w' := by
  obtain ⟨w1, hw1⟩ : ∃ w1, w1 = (w.alloc (.cells (scells s A c B d).toArray 27)).alloc (.cells #[.int .i64 0, .int .i64 0, .slice none 0 0, .slice none 0 0] 27) := ⟨_, rfl⟩
  have k1 : Kept noBlock w w1 := by rw [hw1]; exact (Kept.alloc _ _ _).step (Kept.alloc _ _ _)
  have z1 : w1.heap.size = w.heap.size + 2 := by rw [hw1]; simp
  have hb : w1.heap[w.heap.size]? = some (.cells (scells s A c B d).toArray 27 (0, 0)) := by rw [hw1]; exact (Kept.alloc noBlock _ _).blk (heap_alloc_new w _) (fun h => h)
  have hR : w1.heap[w.heap.size + 1]? = some (.cells #[.int .i64 0, .int .i64 0, .slice none 0 0, .slice none 0 0] 27 (0, 0)) := by
    rw [hw1]
    exact heap_alloc_at (by simp)
  unfold scells at hw1 hb
  have COPY := Lib.hid (copyof_any F s A c B d w1 (h.kept k1) (by have := hs.len; omega) (by have := hs.lens; omega))
  obtain ⟨c0, c1, c2, c3⟩ := st_cells hb
  have K1 := Lib.hid k1
  have Z1 := Lib.hid z1
  have HB := Lib.hid hb
  have HR := Lib.hid hR
  have HS := Lib.hid hs
  have HE := Lib.hid he
  have HL := Lib.hid hl
  clear k1 z1 hb hR h hs he hl
  unfold stv at *
  go_enter Tryz.func19, Tryz.ntmps19
  go_upto_region 1 with (fail)
  rw [← hw1]
  clear hw1
  go_wp2_with fail
  refine COPY.out.mono ?_
  rintro en w2 ⟨A2, c2', B2, d2, rfl, o2p, o2, k2⟩
  clear c0 c1 c2 c3 COPY
  have HB2 := Lib.hid (k2.blk HB.out (fun h => h))
  have K2 := Lib.hid (K1.out.step k2)
  have HR2 := Lib.hid (k2.blk HR.out (fun h => h))
  have Z2 := Lib.hid k2.size
  have O2p := Lib.hid o2p
  have O2 := Lib.hid o2
  clear o2p o2 k2
  obtain ⟨c0, c1, c2, c3⟩ := st_cells HB2.out
  have hfz : ∀ j, w2.frozen? ⟨w.heap.size, j, none⟩ = false := fun j => frozen_of_row _ _ _ _ _ HB2.out
  have f0 := hfz 0
  have f1 := hfz 1
  have f2 := hfz 2
  have f3 := hfz 3
  clear hfz
  have hb3 := setT_block (s := s) (A := A2) (c := c2') (B := B2) (d := d2) HB2.out
  have k3 := setT_kept w2 w.heap.size s A2 c2' B2 d2
  go_upto_region 2 with (fail)
  change Code.wp _ _ _ _ (setT w2 w.heap.size s A2 c2' B2 d2)
  generalize setT w2 w.heap.size s A2 c2' B2 d2 = w3 at hb3 k3 ⊢
  clear c0 c1 c2 c3 f0 f1 f2 f3
  have bx : BxN w1 w3 w.heap.size s := by
    have z3 := k3.size
    refine ⟨A2, c2', B2, d2, hb3, own_base (own_keep O2p.out k3 (fun i hi e => by have := (O2p.out.lt i hi).1; have := Z1.out; omega)) (fun _ _ => Nat.zero_le _), own_base (own_keep O2.out k3 (fun i hi e => by have := (O2.out.lt i hi).1; have := Z1.out; omega)) (fun _ _ => Nat.zero_le _), .inl rfl, fun i hi => .inr ?_, fun i hi => .inr ?_, fun i hi => ?_⟩
    · exact ⟨(O2p.out.lt i hi).1, Nat.lt_of_lt_of_le (O2p.out.lt i hi).2 z3⟩
    · exact ⟨(O2.out.lt i hi).1, Nat.lt_of_lt_of_le (O2.out.lt i hi).2 z3⟩
    · have := Z1.out
      have := Z2.out
      omega
  have hR3 := k3.blk HR2.out (by omega)
  have KW : Hid (Kept noBlock w w3) := ((K2.out.mono (T := fun i => i = w.heap.size) (fun _ _ h => h.elim)).step k3).mono (fun i hi h => by omega)
  have z3 : Hid (w1.heap.size ≤ w3.heap.size) := Nat.le_trans Z2.out k3.size
  have BX := Lib.hid bx
  have HR3 := Lib.hid hR3
  clear bx hb3 k3 hR3 HB HB2 O2p O2 K2 Z2 HR HR2
  go_wp2_with fail
  go_loopw [11] (fun i wr => ∃ k : Nat, k ≤ n ∧ i = .int .i64 (k : Int) ∧ Hid (BxN w1 wr w.heap.size (foldV s (es.take k))) ∧ Hid (Kept noBlock w wr) ∧ Hid (wr.heap[w.heap.size + 1]? = some (.cells #[.int .i64 0, .int .i64 0, .slice none 0 0, .slice none 0 0] 27 (0, 0))) ∧ Hid (w1.heap.size ≤ wr.heap.size)) (fun i _ => n - (intOf i).toNat)
  case atStart => exact ⟨0, by omega, rfl, by unfold Hid; rw [List.take_zero]; exact BX.out, KW, HR3, z3⟩
  case round =>
    obtain ⟨k, hk, rfl, HX, HK, HRR, HZ⟩ := hrel
    by_cases hlt : k < n
    · obtain ⟨x, hx⟩ : ∃ x, es[k]? = some x := ⟨_, List.getElem?_eq_getElem (by have := HL.out; omega)⟩
      obtain ⟨g, o, rfl, _, e⟩ := ents_cell (HE.out.keep HK.out (fun _ _ h => h)) hx
      obtain ⟨e0, e1, e2, e3, e4, e5, e6, e7⟩ := e
      have HXX := Lib.hid hx
      clear hx
      have ST := Lib.hid (fun u (ku : Kept noBlock wr u) => step_any _ w.heap.size (foldV s (es.take k)) x u (HX.out.keep ku (fun _ _ h => h)) (foldV_right HS.out _))
      unfold EntryV.val at ST
      go_wp2_with fail
      refine (ST.out _ (Kept.alloc _ _ _)).mono ?_
      rintro en w5 ⟨rfl, d5⟩
      have d6 := Did.after (Kept.alloc noBlock wr _) d5 HX.out.lt
      have BX6 := Lib.hid (BxN.did d6 (by have := Z1.out; omega) HZ.out)
      have K6 : Hid (Kept noBlock w w5) := ((HK.out.mono (T := fun i => w.heap.size ≤ i) (fun _ _ h => h.elim)).trans d6.kept (fun i _ h => by have := Z1.out; omega)).mono (fun i hi h => by omega)
      have HR6 := Lib.hid (d6.kept.blk HRR.out (fun h => by have := Z1.out; omega))
      have HZ6 : Hid (w1.heap.size ≤ w5.heap.size) := Nat.le_trans HZ.out d6.kept.size
      have HT : Hid (foldV s (es.take (k + 1)) = (stepV (foldV s (es.take k)) x).1) := by unfold Hid; rw [take_snoc es k x HXX.out, foldV_snoc]
      rw [← HT.out] at BX6
      generalize (stepV (foldV s (es.take k)) x).2.val = vr
      clear d5 d6 ST e0 e1 e2 e3 e4 e5 e6 e7 HT
      go_wp2
      go_roundw
      case rel => exact ⟨k + 1, by omega, by go_num, BX6, K6, HR6, HZ6⟩
      case measure => simp [intOf]; omega
    · obtain rfl : k = n := by omega
      have bx := HX.out
      rw [List.take_of_length_le (by have := HL.out; omega)] at bx
      obtain ⟨s', hs'⟩ : ∃ s', s' = foldV s es := ⟨_, rfl⟩
      rw [← hs'] at bx
      have HS' := Lib.hid hs'
      clear hs'
      obtain ⟨A5, c5, B5, d5, h5⟩ := bx
      obtain ⟨c0, c1, c2, c3⟩ := h5.cells
      have H5 := Lib.hid h5
      obtain ⟨r0, r1, r2, r3⟩ := st_cells HRR.out
      have hfz : ∀ j, wr.frozen? ⟨w.heap.size + 1, j, none⟩ = false := fun j => frozen_of_row _ _ _ _ _ HRR.out
      have f0 := hfz 0
      have f1 := hfz 1
      have f2 := hfz 2
      have f3 := hfz 3
      have kz := setT_kept wr (w.heap.size + 1) s' A5 c5 B5 d5
      have hz := setT_block (s := s') (A := A5) (c := c5) (B := B5) (d := d5) HRR.out
      clear hfz h5 HX
      go_wp2
      change bodyPost _ _ _ _ _ (setT wr (w.heap.size + 1) s' A5 c5 B5 d5)
      generalize setT wr (w.heap.size + 1) s' A5 c5 B5 d5 = vz at kz hz ⊢
      have KW2 : Hid (Kept noBlock w vz) := ((HK.out.mono (T := fun i => w.heap.size ≤ i) (fun _ _ h => h.elim)).trans kz (fun i _ h => by omega)).mono (fun i hi h => by omega)
      have FG : ∀ i, i = w.heap.size ∨ (w1.heap.size ≤ i ∧ i < wr.heap.size) → fresh w vz i := fun i hi => by
        have h1 := H5.out.lt i hi
        have := Z1.out
        have := kz.size
        exact ⟨by omega, by omega⟩
      have NZ : ∀ i, i = w.heap.size ∨ (w1.heap.size ≤ i ∧ i < wr.heap.size) → ¬ (i = w.heap.size + 1) := fun i hi h => by have := Z1.out; omega
      have SV : Hid (Sv vz (fresh w vz) s' A5 c5 B5 d5) := by
        refine ⟨(Lies.of_rows (F := _) H5.out.ownp H5.out.fp).keep kz NZ |>.mono FG, (Lies.of_rows (F := _) H5.out.owns H5.out.fs).keep kz NZ |>.mono FG, ?_, ?_⟩
        · obtain ⟨_, _, e, hle⟩ := own_form H5.out.ownp
          injection e with _ _ e
          omega
        · obtain ⟨_, _, e, hle⟩ := own_form H5.out.owns
          injection e with _ _ e
          omega
      obtain ⟨z0, z1, z2, z3⟩ := st_cells hz
      refine bodyPost_ret (v := stv s' A5 c5 B5 d5) (by simp [results, Tryz.results19, go_sem, stv, Tryz.isAgg27, Tryz.sizeOf27, z0, z1, z2, z3]) rfl ?_
      rw [← HS'.out]
      exact ⟨A5, c5, B5, d5, rfl, SV.out, KW2.out⟩
end Go.Proofs.YthmjjhjblokjeaaGreat

/-
  The contract of state.Get. No statement is proved here.
-/
namespace Go.Proofs.YthmjjhjblokjeaaGreat
open Go.RowKit Tot

/-- What is told of a key. -/
def getV (ps : Prs) (k : ByteArray) : RepV := match Srt.look ps k with | none => told 6 | some v => ⟨0, v.1⟩

set_option maxRecDepth 100000 in
set_option maxHeartbeats 1000000 in
theorem get_any (F : Nat → Prop) (s : StV) (A : Option Addr) (c : Nat) (B : Option Addr) (d : Nat) (key : ByteArray) (w : World) (h : Sv w F s A c B d) (hs : s.Right) :
    Calls Tryz.prog 51 #[stv s A c B d, .string key] w fun en w' => en = .returned (getV s.pairs key).val ∧ Kept noBlock w w' := by
  obtain ⟨w1, hw1⟩ : ∃ w1, w1 = (w.alloc (.cells (scells s A c B d).toArray 27)).alloc (.cells (told 0).cells.toArray 61) := ⟨_, rfl⟩
  have k1 : Kept noBlock w w1 := by rw [hw1]; exact (Kept.alloc _ _ _).step (Kept.alloc _ _ _)
  have hb : w1.heap[w.heap.size]? = some (.cells (scells s A c B d).toArray 27 (0, 0)) := by rw [hw1]; exact (Kept.alloc noBlock _ _).blk (heap_alloc_new w _) (fun h => h)
  have hR : w1.heap[w.heap.size + 1]? = some (.cells (told 0).cells.toArray 61 (0, 0)) := by
    rw [hw1]
    exact heap_alloc_at (by simp)
  unfold scells RepV.cells told noText at hw1
  unfold scells at hb
  simp only at hw1
  have FIND := Lib.hid (PR.find_any F A s.pairs.length c s.pairs key w1 (h.lp.keep k1 (fun _ _ h => h)) rfl h.cp (by have := hs.len; omega) hs.up)
  have hup := hs.up
  have hcp := h.cp
  obtain ⟨n, hn⟩ : ∃ n, n = s.pairs.length := ⟨_, rfl⟩
  unfold stv
  rw [← hn] at hw1 hb FIND hcp ⊢
  obtain ⟨p, hp⟩ : ∃ p, p = Srt.pos s.pairs key := ⟨_, rfl⟩
  rw [← hp] at FIND
  obtain ⟨c0, c1, c2, c3⟩ := st_cells hb
  have K1 := Lib.hid k1
  have HB := Lib.hid hb
  have HR := Lib.hid hR
  have HL := Lib.hid h.lp
  have HU := Lib.hid hup
  have HN := Lib.hid hn
  have HP := Lib.hid hp
  clear k1 hb hR h hs hup hn hp
  unfold PR.ek at FIND
  go_enter Tryz.func51, Tryz.ntmps51
  go_upto_region 1 with (fail)
  rw [← hw1]
  clear hw1
  go_wp2_with fail
  refine FIND.out.mono ?_
  rintro e w2 ⟨rfl, k2⟩
  clear FIND
  have K2 := Lib.hid (K1.out.step k2)
  have HB2 := Lib.hid (k2.blk HB.out (fun h => h))
  have HR2 := Lib.hid (k2.blk HR.out (fun h => h))
  clear k2 c0 c1 c2 c3
  obtain ⟨c0, c1, c2, c3⟩ := st_cells HB2.out
  obtain ⟨r0, r1⟩ := rep_cells HR2.out
  have f0 : w2.frozen? ⟨w.heap.size + 1, 0, none⟩ = false := frozen_of_row _ _ _ _ _ HR2.out
  have f1 : w2.frozen? ⟨w.heap.size + 1, 1, none⟩ = false := frozen_of_row _ _ _ _ _ HR2.out
  cases hk : Srt.look s.pairs key with
  | none =>
    have hh : Srt.has s.pairs key = false := (Srt.has_false _ _).2 hk
    rw [hh]
    have E0 : Hid (getV s.pairs key = told 6) := by unfold Hid getV; rw [hk]
    have hbz := setR_block (x := told 0) (r := told 6) HR2.out
    have KZ : Hid (Kept noBlock w (setR w2 (w.heap.size + 1) (told 6))) := ((K2.out.mono (T := fun i => w.heap.size ≤ i) (fun _ _ h => h.elim)).trans (setR_kept w2 (w.heap.size + 1) (told 6)) (fun i _ h => by omega)).mono (fun i hi h => by omega)
    clear hk hh
    go_wp2
    change bodyPost _ _ _ _ _ (setR w2 (w.heap.size + 1) (told 6))
    generalize setR w2 (w.heap.size + 1) (told 6) = vz at hbz KZ ⊢
    obtain ⟨z0, z1⟩ := rep_cells hbz
    refine bodyPost_ret (v := RepV.val (told 6)) (by simp [results, Tryz.results51, go_sem, RepV.val, Tryz.isAgg61, Tryz.sizeOf61, z0, z1]) rfl ?_
    rw [E0.out]
    exact ⟨rfl, KZ.out⟩
  | some v =>
    have hh : Srt.has s.pairs key = true := (Srt.has_iff _ _).2 ⟨_, hk⟩
    obtain ⟨v', hat, hv'⟩ := Srt.has_at HU.out hh
    rw [hk] at hv'
    injection hv' with hv'
    subst hv'
    have hlt := Srt.has_lt HU.out hh
    rw [← HP.out, ← HN.out] at hlt
    rw [← HP.out] at hat
    rw [hh]
    obtain ⟨g, o, rfl, _, cv⟩ := (HL.out.keep K2.out (fun _ _ h => h)).elem PR.enc_len (by omega) hat
    have cv1 := cv 1 _ rfl
    simp only at cv1
    have E0 : Hid (getV s.pairs key = ⟨0, v.1⟩) := by unfold Hid getV; rw [hk]
    have hbz := setR_block (x := told 0) (r := ⟨0, v.1⟩) HR2.out
    have KZ : Hid (Kept noBlock w (setR w2 (w.heap.size + 1) ⟨0, v.1⟩)) := ((K2.out.mono (T := fun i => w.heap.size ≤ i) (fun _ _ h => h.elim)).trans (setR_kept w2 (w.heap.size + 1) ⟨0, v.1⟩) (fun i _ h => by omega)).mono (fun i hi h => by omega)
    clear hk hh cv hat
    go_wp2
    change bodyPost _ _ _ _ _ (setR w2 (w.heap.size + 1) ⟨0, v.1⟩)
    generalize setR w2 (w.heap.size + 1) ⟨0, v.1⟩ = vz at hbz KZ ⊢
    obtain ⟨z0, z1⟩ := rep_cells hbz
    refine bodyPost_ret (v := RepV.val ⟨0, v.1⟩) (by simp [results, Tryz.results51, go_sem, RepV.val, Tryz.isAgg61, Tryz.sizeOf61, z0, z1]) rfl ?_
    rw [E0.out]
    exact ⟨rfl, KZ.out⟩
end Go.Proofs.YthmjjhjblokjeaaGreat
