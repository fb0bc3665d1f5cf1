/-
  Several texts, one behind the other. No statement is proved here.
-/
import Derived.Test.YthmjjhjblokjeaaGreatBoxA
import Derived.Test.YthmjjhjblokjeaaGreatPackK
/-
  Pairs and sessions that are read. No statement is proved here.
-/
namespace Go.Proofs.YthmjjhjblokjeaaGreat
open Go.RowKit Tot

/-- While something is read: a Reader at b, what is read so far at B, the answer's place at R. -/
structure Rdg (w0 w : World) (F : Nat → Prop) (R b B : Nat) (t : TypeId) (l : List UInt8) (bad : Bool) (cs zs : Array Value) : Prop where
  kept : Kept (fun k => k = b) w0 w
  rd : Rd w F b l bad
  out : w.heap[R]? = some (.cells zs t (0, 0))
  at_ : w.heap[B]? = some (.cells cs t (0, 0))
  nR : ¬ F R
  nB : ¬ F B
  ne : R ≠ B
  lB : w0.heap.size ≤ B
  lR : w0.heap.size ≤ R
section
variable {w0 w w' : World} {F : Nat → Prop} {R b B : Nat} {t : TypeId} {l l' : List UInt8} {bad bad' : Bool} {cs zs : Array Value}
theorem Rdg.next (h : Rdg w0 w F R b B t l bad cs zs) (h2 : Rd w' F b l' bad') (k2 : Kept (fun k => k = b) w w') : Rdg w0 w' F R b B t l' bad' cs zs :=
  ⟨h.kept.step k2, h2, k2.blk h.out (fun hr => h.nR (hr ▸ h2.foot)), k2.blk h.at_ (fun hr => h.nB (hr ▸ h2.foot)), h.nR, h.nB, h.ne, h.lB, h.lR⟩
theorem Rdg.set (h : Rdg w0 w F R b B t l bad cs zs) (j : Nat) (v : Value) : Rdg w0 (w.setCell ⟨B, j, none⟩ v) F R b B t l bad (cs.setIfInBounds j v) zs := by
  have k : Kept (fun k => k = B) w (w.setCell ⟨B, j, none⟩ v) := Kept.setCell w (by rfl) v
  exact ⟨h.kept.trans k (fun i hi hb => by have := h.lB; omega), h.rd.keep k (fun i hi hb => h.nB (hb ▸ hi)), k.blk h.out h.ne, heap_setCell_same w B j _ t v h.at_, h.nR, h.nB, h.ne, h.lB, h.lR⟩
theorem Rdg.froz (h : Rdg w0 w F R b B t l bad cs zs) (j : Nat) : w.frozen? ⟨B, j, none⟩ = false := frozen_of_row _ _ _ _ _ h.at_
theorem Rdg.cell (h : Rdg w0 w F R b B t l bad cs zs) (j : Nat) (v : Value) (hv : cs[j]? = some v) : w.cell? ⟨B, j, none⟩ = some v := by rw [cell_of_row _ _ _ _ _ _ h.at_]; exact hv
end
theorem rnum_r {w : World} {F : Nat → Prop} {b : Nat} {l l' : List UInt8} {bad bad' : Bool} {n : Int} (h : Rd w F b l bad) (hq : rNum l bad = (n, l', bad')) :
    Calls Tryz.prog 53 #[.pointer (some ⟨b, 0, none⟩)] w (Read w F b (.int .i64 n) (l', bad')) := by
  have := rnum_any b F l bad w h
  rw [hq] at this
  exact this
theorem rbyte_r {w : World} {F : Nat → Prop} {b : Nat} {l l' : List UInt8} {bad bad' : Bool} {n : UInt8} (h : Rd w F b l bad) (hq : rByte l bad = (n, l', bad')) :
    Calls Tryz.prog 63 #[.pointer (some ⟨b, 0, none⟩)] w (Read w F b (.int .u8 (n.toNat : Int)) (l', bad')) := by
  have := rbyte_any b F l bad w h
  rw [hq] at this
  exact this
theorem rtext_r {w : World} {F : Nat → Prop} {b : Nat} {l l' n : List UInt8} {bad bad' : Bool} (h : Rd w F b l bad) (hq : rText l bad = (n, l', bad')) :
    Calls Tryz.prog 64 #[.pointer (some ⟨b, 0, none⟩)] w (Read w F b (.string (str n)) (l', bad')) := by
  have := rtext_any b F l bad w h
  rw [hq] at this
  exact this
/-- What is read as a pair, and as a session. -/
def rdPair (l : List UInt8) (bad : Bool) : (ByteArray × (ByteArray × Bool)) × List UInt8 × Bool :=
  let q1 := rText l bad
  let q2 := rText q1.2.1 q1.2.2
  let q3 := rByte q2.2.1 q2.2.2
  ((if 1 < q3.1.toNat then noText else str q1.1, (str q2.1, decide (q3.1.toNat = 1))), q3.2)
def rdSess (l : List UInt8) (bad : Bool) : (Int × (Int × RepV)) × List UInt8 × Bool :=
  let q1 := rNum l bad
  let q2 := rNum q1.2.1 q1.2.2
  let q3 := rNum q2.2.1 q2.2.2
  let q4 := rText q3.2.1 q3.2.2
  ((q1.1, (q2.1, ⟨q3.1, str q4.1⟩)), q4.2)
/-- A call that read something. -/
def ReadP (w : World) (F : Nat → Prop) (b : Nat) (v : Value) (q : List UInt8 × Bool) (e : Ending) (w' : World) : Prop := e = .returned v ∧ Rd w' F b q.1 q.2 ∧ Kept (fun k => k = b) w w'
/-- A pair that is stored at a block. -/
def setP (w : World) (R : Nat) (p : ByteArray × (ByteArray × Bool)) : World := ((w.setCell ⟨R, 0, none⟩ (.string p.1)).setCell ⟨R, 1, none⟩ (.string p.2.1)).setCell ⟨R, 2, none⟩ (.bool p.2.2)

theorem Rdg.endP {w0 w : World} {F : Nat → Prop} {R b B : Nat} {l : List UInt8} {bad : Bool} {cs : Array Value} {x0 x1 x2 : Value} (h : Rdg w0 w F R b B 68 l bad cs #[x0, x1, x2]) (p : ByteArray × (ByteArray × Bool)) :
    (setP w R p).heap[R]? = some (.cells #[.string p.1, .string p.2.1, .bool p.2.2] 68 (0, 0)) ∧ Rd (setP w R p) F b l bad ∧ Kept (fun k => k = b) w0 (setP w R p) := by
  have k : Kept (fun k => k = R) w (setP w R p) := ((Kept.setCell w (by rfl) _).step (Kept.setCell _ (by rfl) _)).step (Kept.setCell _ (by rfl) _)
  refine ⟨?_, h.rd.keep k (fun i hi e => h.nR (e ▸ hi)), h.kept.trans k (fun i hi e => by have := h.lR; omega)⟩
  unfold setP
  have h0 := heap_setCell_same w R 0 _ 68 (.string p.1) h.out
  have h1 := heap_setCell_same _ R 1 _ 68 (.string p.2.1) h0
  have h2 := heap_setCell_same _ R 2 _ 68 (.bool p.2.2) h1
  rw [h2]
  simp
set_option maxRecDepth 100000 in
set_option maxHeartbeats 1000000 in
theorem rpair_any (F : Nat → Prop) (b : Nat) (l : List UInt8) (bad : Bool) (w : World) (h : Rd w F b l bad) :
    Calls Tryz.prog 80 #[.pointer (some ⟨b, 0, none⟩)] w (ReadP w F b (PR.val (rdPair l bad).1) (rdPair l bad).2) := by
  have hlt := h.lt
  have hfb := h.foot
  obtain ⟨w1, hw1⟩ : ∃ w1, w1 = (w.alloc (.cells #[.string ⟨#[]⟩, .string ⟨#[]⟩, .bool false] 68)).alloc (.cells #[.string ⟨#[]⟩, .string ⟨#[]⟩, .bool false] 68) := ⟨_, rfl⟩
  have k1 : Kept noBlock w w1 := by rw [hw1]; exact (Kept.alloc _ _ _).step (Kept.alloc _ _ _)
  have g0 : Rdg w w1 F w.heap.size b (w.heap.size + 1) 68 l bad #[.string ⟨#[]⟩, .string ⟨#[]⟩, .bool false] #[.string ⟨#[]⟩, .string ⟨#[]⟩, .bool false] :=
    ⟨k1.mono (fun _ _ h => h.elim), h.keep k1 (fun _ _ h => h), by rw [hw1]; exact (Kept.alloc noBlock _ _).blk (heap_alloc_new w _) (fun h => h), by
      rw [hw1]
      have := heap_alloc_new (w.alloc (.cells #[.string ⟨#[]⟩, .string ⟨#[]⟩, .bool false] 68)) (.cells #[.string ⟨#[]⟩, .string ⟨#[]⟩, .bool false] 68)
      simpa using this, fun h => Nat.lt_irrefl _ (hlt _ h), fun h => by have := hlt _ h; omega, by omega, by omega, Nat.le_refl _⟩
  generalize hq1 : rText l bad = q1
  obtain ⟨n1, l1, b1⟩ := q1
  generalize hq2 : rText l1 b1 = q2
  obtain ⟨n2, l2, b2⟩ := q2
  generalize hq3 : rByte l2 b2 = q3
  obtain ⟨n3, l3, b3⟩ := q3
  have HALL : Hid (rdPair l bad = ((if 1 < n3.toNat then noText else str n1, (str n2, decide (n3.toNat = 1))), (l3, b3))) := by unfold Hid rdPair; simp only [hq1, hq2, hq3]
  have H1 := Lib.hid hq1
  have H2 := Lib.hid hq2
  have H3 := Lib.hid hq3
  clear hq1 hq2 hq3 h hlt k1
  go_enter Tryz.func80, Tryz.ntmps80
  go_upto_region 2 with (fail)
  rw [← hw1]
  clear hw1
  go_wp2_with fail
  refine (rtext_r g0.rd H1.out).mono ?_
  rintro e v1 ⟨rfl, r1, k1⟩
  have f1 := g0.next r1 k1
  have hf := f1.froz 0
  have hc := f1.cell 0 _ rfl
  have g1 := f1.set 0 (.string (str n1))
  clear g0 f1 r1 k1
  go_wp2_with fail
  refine (rtext_r g1.rd H2.out).mono ?_
  rintro e v2 ⟨rfl, r2, k2⟩
  have f2 := g1.next r2 k2
  clear hf hc
  have hf := f2.froz 1
  have hc := f2.cell 1 _ rfl
  have g2 := f2.set 1 (.string (str n2))
  clear g1 f2 r2 k2
  go_wp2_with fail
  refine (rbyte_r g2.rd H3.out).mono ?_
  rintro e v3 ⟨rfl, r3, k3⟩
  have f3 := g2.next r3 k3
  clear hf hc
  have hf := f3.froz 2
  have hc := f3.cell 2 _ rfl
  have h256 := n3.toNat_lt
  obtain ⟨gb, hgb⟩ : ∃ gb, ((n3.toNat : Int) == 1) = gb := ⟨_, rfl⟩
  have HGB : Hid (decide (n3.toNat = 1) = gb) := by
    unfold Hid
    rw [← hgb]
    by_cases h : n3.toNat = 1
    · rw [decide_eq_true h, h]; rfl
    · rw [decide_eq_false h]
      exact (beq_false_of_ne (by omega)).symm
  have g3 := f3.set 2 (.bool gb)
  clear g2 f3 r3 k3
  go_upto_region 6 with (fail)
  generalize v3.setCell ⟨w.heap.size + 1, 2, none⟩ (.bool gb) = v4 at g3 ⊢
  clear hf hc hgb
  by_cases hg : 1 < n3.toNat
  · have hg' : (1 : Int) < (n3.toNat : Int) := by omega
    have hf := g3.froz 0
    have hc := g3.cell 0 _ rfl
    have gz := g3.set 0 (.string ⟨#[]⟩)
    go_upto_region 8 with (fail)
    generalize v4.setCell ⟨w.heap.size + 1, 0, none⟩ (.string ⟨#[]⟩) = vz at gz ⊢
    clear hf hc g3
    obtain ⟨y0, y1, y2⟩ : vz.cell? ⟨w.heap.size + 1, 0, none⟩ = some (.string ⟨#[]⟩) ∧ vz.cell? ⟨w.heap.size + 1, 1, none⟩ = some (.string (str n2)) ∧ vz.cell? ⟨w.heap.size + 1, 2, none⟩ = some (.bool gb) := ⟨gz.cell 0 _ rfl, gz.cell 1 _ rfl, gz.cell 2 _ rfl⟩
    obtain ⟨r0, r1, r2⟩ : vz.cell? ⟨w.heap.size, 0, none⟩ = some (.string ⟨#[]⟩) ∧ vz.cell? ⟨w.heap.size, 1, none⟩ = some (.string ⟨#[]⟩) ∧ vz.cell? ⟨w.heap.size, 2, none⟩ = some (.bool false) := ⟨cell_of_row _ _ _ _ _ _ gz.out, cell_of_row _ _ _ _ _ _ gz.out, cell_of_row _ _ _ _ _ _ gz.out⟩
    have f0 : vz.frozen? ⟨w.heap.size, 0, none⟩ = false := frozen_of_row _ _ _ _ _ gz.out
    have f1 : vz.frozen? ⟨w.heap.size, 1, none⟩ = false := frozen_of_row _ _ _ _ _ gz.out
    have f2 : vz.frozen? ⟨w.heap.size, 2, none⟩ = false := frozen_of_row _ _ _ _ _ gz.out
    have R := Lib.hid (gz.endP (⟨#[]⟩, (str n2, gb)))
    clear gz
    go_wp2
    change bodyPost _ _ _ _ _ (setP vz w.heap.size (⟨#[]⟩, (str n2, gb)))
    generalize setP vz w.heap.size (⟨#[]⟩, (str n2, gb)) = v9 at R ⊢
    obtain ⟨hb9, rd9, k9⟩ := R.out
    obtain ⟨z0, z1, z2⟩ : v9.cell? ⟨w.heap.size, 0, none⟩ = some (.string ⟨#[]⟩) ∧ v9.cell? ⟨w.heap.size, 1, none⟩ = some (.string (str n2)) ∧ v9.cell? ⟨w.heap.size, 2, none⟩ = some (.bool gb) := ⟨cell_of_row _ _ _ _ _ _ hb9, cell_of_row _ _ _ _ _ _ hb9, cell_of_row _ _ _ _ _ _ hb9⟩
    refine bodyPost_ret (v := PR.val (⟨#[]⟩, (str n2, gb))) (by simp [results, Tryz.results80, go_sem, PR.val, Tryz.isAgg68, Tryz.sizeOf68, z0, z1, z2]) rfl ?_
    rw [HALL.out, HGB.out]
    refine ⟨?_, rd9, k9⟩
    rw [if_pos hg]
    rfl
  · have hg' : ¬ (1 : Int) < (n3.toNat : Int) := by omega
    have gz := g3
    obtain ⟨vz, hvz⟩ : ∃ vz, vz = v4 := ⟨_, rfl⟩
    rw [← hvz] at gz ⊢
    clear g3 hvz
    obtain ⟨y0, y1, y2⟩ : vz.cell? ⟨w.heap.size + 1, 0, none⟩ = some (.string (str n1)) ∧ vz.cell? ⟨w.heap.size + 1, 1, none⟩ = some (.string (str n2)) ∧ vz.cell? ⟨w.heap.size + 1, 2, none⟩ = some (.bool gb) := ⟨gz.cell 0 _ rfl, gz.cell 1 _ rfl, gz.cell 2 _ rfl⟩
    obtain ⟨r0, r1, r2⟩ : vz.cell? ⟨w.heap.size, 0, none⟩ = some (.string ⟨#[]⟩) ∧ vz.cell? ⟨w.heap.size, 1, none⟩ = some (.string ⟨#[]⟩) ∧ vz.cell? ⟨w.heap.size, 2, none⟩ = some (.bool false) := ⟨cell_of_row _ _ _ _ _ _ gz.out, cell_of_row _ _ _ _ _ _ gz.out, cell_of_row _ _ _ _ _ _ gz.out⟩
    have f0 : vz.frozen? ⟨w.heap.size, 0, none⟩ = false := frozen_of_row _ _ _ _ _ gz.out
    have f1 : vz.frozen? ⟨w.heap.size, 1, none⟩ = false := frozen_of_row _ _ _ _ _ gz.out
    have f2 : vz.frozen? ⟨w.heap.size, 2, none⟩ = false := frozen_of_row _ _ _ _ _ gz.out
    have R := Lib.hid (gz.endP ((str n1), (str n2, gb)))
    clear gz
    go_wp2
    change bodyPost _ _ _ _ _ (setP vz w.heap.size ((str n1), (str n2, gb)))
    generalize setP vz w.heap.size ((str n1), (str n2, gb)) = v9 at R ⊢
    obtain ⟨hb9, rd9, k9⟩ := R.out
    obtain ⟨z0, z1, z2⟩ : v9.cell? ⟨w.heap.size, 0, none⟩ = some (.string (str n1)) ∧ v9.cell? ⟨w.heap.size, 1, none⟩ = some (.string (str n2)) ∧ v9.cell? ⟨w.heap.size, 2, none⟩ = some (.bool gb) := ⟨cell_of_row _ _ _ _ _ _ hb9, cell_of_row _ _ _ _ _ _ hb9, cell_of_row _ _ _ _ _ _ hb9⟩
    refine bodyPost_ret (v := PR.val ((str n1), (str n2, gb))) (by simp [results, Tryz.results80, go_sem, PR.val, Tryz.isAgg68, Tryz.sizeOf68, z0, z1, z2]) rfl ?_
    rw [HALL.out, HGB.out]
    refine ⟨?_, rd9, k9⟩
    rw [if_neg hg]
end Go.Proofs.YthmjjhjblokjeaaGreat

/-
  Sessions that are read; rows that are read. No statement is proved here.
-/
namespace Go.Proofs.YthmjjhjblokjeaaGreat
open Go.RowKit Tot

def setQ (w : World) (R : Nat) (x : Int × (Int × RepV)) : World := (((w.setCell ⟨R, 0, none⟩ (.int .i64 x.1)).setCell ⟨R, 1, none⟩ (.int .i64 x.2.1)).setCell ⟨R, 2, none⟩ (.int .i64 x.2.2.err)).setCell ⟨R, 3, none⟩ (.string x.2.2.value)
theorem Rdg.endQ {w0 w : World} {F : Nat → Prop} {R b B : Nat} {l : List UInt8} {bad : Bool} {cs : Array Value} {x0 x1 x2 x3 : Value} (h : Rdg w0 w F R b B 63 l bad cs #[x0, x1, x2, x3]) (x : Int × (Int × RepV)) :
    (setQ w R x).heap[R]? = some (.cells #[.int .i64 x.1, .int .i64 x.2.1, .int .i64 x.2.2.err, .string x.2.2.value] 63 (0, 0)) ∧ Rd (setQ w R x) F b l bad ∧ Kept (fun k => k = b) w0 (setQ w R x) := by
  have k : Kept (fun k => k = R) w (setQ w R x) := (((Kept.setCell w (by rfl) _).step (Kept.setCell _ (by rfl) _)).step (Kept.setCell _ (by rfl) _)).step (Kept.setCell _ (by rfl) _)
  refine ⟨?_, h.rd.keep k (fun i hi e => h.nR (e ▸ hi)), h.kept.trans k (fun i hi e => by have := h.lR; omega)⟩
  unfold setQ
  have h0 := heap_setCell_same w R 0 _ 63 (.int .i64 x.1) h.out
  have h1 := heap_setCell_same _ R 1 _ 63 (.int .i64 x.2.1) h0
  have h2 := heap_setCell_same _ R 2 _ 63 (.int .i64 x.2.2.err) h1
  have h3 := heap_setCell_same _ R 3 _ 63 (.string x.2.2.value) h2
  rw [h3]
  simp

set_option maxRecDepth 100000 in
set_option maxHeartbeats 1000000 in
theorem rsess_any (F : Nat → Prop) (b : Nat) (l : List UInt8) (bad : Bool) (w : World) (h : Rd w F b l bad) :
    Calls Tryz.prog 82 #[.pointer (some ⟨b, 0, none⟩)] w (ReadP w F b (SN.val (rdSess l bad).1) (rdSess l bad).2) := by
  have hlt := h.lt
  obtain ⟨w1, hw1⟩ : ∃ w1, w1 = (w.alloc (.cells #[.int .i64 0, .int .i64 0, .int .i64 0, .string ⟨#[]⟩] 63)).alloc (.cells #[.int .i64 0, .int .i64 0, .int .i64 0, .string ⟨#[]⟩] 63) := ⟨_, rfl⟩
  have k1 : Kept noBlock w w1 := by rw [hw1]; exact (Kept.alloc _ _ _).step (Kept.alloc _ _ _)
  have g0 : Rdg w w1 F w.heap.size b (w.heap.size + 1) 63 l bad #[.int .i64 0, .int .i64 0, .int .i64 0, .string ⟨#[]⟩] #[.int .i64 0, .int .i64 0, .int .i64 0, .string ⟨#[]⟩] :=
    ⟨k1.mono (fun _ _ h => h.elim), h.keep k1 (fun _ _ h => h), by rw [hw1]; exact (Kept.alloc noBlock _ _).blk (heap_alloc_new w _) (fun h => h), by
      rw [hw1]
      have := heap_alloc_new (w.alloc (.cells #[.int .i64 0, .int .i64 0, .int .i64 0, .string ⟨#[]⟩] 63)) (.cells #[.int .i64 0, .int .i64 0, .int .i64 0, .string ⟨#[]⟩] 63)
      simpa using this, fun h => Nat.lt_irrefl _ (hlt _ h), fun h => by have := hlt _ h; omega, by omega, by omega, Nat.le_refl _⟩
  generalize hq1 : rNum l bad = q1
  obtain ⟨n1, l1, b1⟩ := q1
  generalize hq2 : rNum l1 b1 = q2
  obtain ⟨n2, l2, b2⟩ := q2
  generalize hq3 : rNum l2 b2 = q3
  obtain ⟨n3, l3, b3⟩ := q3
  generalize hq4 : rText l3 b3 = q4
  obtain ⟨n4, l4, b4⟩ := q4
  have HALL : Hid (rdSess l bad = ((n1, (n2, ⟨n3, str n4⟩)), (l4, b4))) := by unfold Hid rdSess; simp only [hq1, hq2, hq3, hq4]
  have H1 := Lib.hid hq1
  have H2 := Lib.hid hq2
  have H3 := Lib.hid hq3
  have H4 := Lib.hid hq4
  clear hq1 hq2 hq3 hq4 h hlt k1
  go_enter Tryz.func82, Tryz.ntmps82
  go_upto_region 2 with (fail)
  rw [← hw1]
  clear hw1
  go_wp2_with fail
  refine (rnum_r g0.rd H1.out).mono ?_
  rintro e v1 ⟨rfl, r1, k1⟩
  have f1 := g0.next r1 k1
  have hf := f1.froz 0
  have hc := f1.cell 0 _ rfl
  have g1 := f1.set 0 (.int .i64 n1)
  clear g0 f1 r1 k1
  go_wp2_with fail
  refine (rnum_r g1.rd H2.out).mono ?_
  rintro e v2 ⟨rfl, r2, k2⟩
  have f2 := g1.next r2 k2
  clear hf hc
  have hf := f2.froz 1
  have hc := f2.cell 1 _ rfl
  have g2 := f2.set 1 (.int .i64 n2)
  clear g1 f2 r2 k2
  go_wp2_with fail
  refine (rnum_r g2.rd H3.out).mono ?_
  rintro e v3 ⟨rfl, r3, k3⟩
  have f3 := g2.next r3 k3
  clear hf hc
  have hf := f3.froz 2
  have hc := f3.cell 2 _ rfl
  have g3 := f3.set 2 (.int .i64 n3)
  clear g2 f3 r3 k3
  go_wp2_with fail
  refine (rtext_r g3.rd H4.out).mono ?_
  rintro e v4 ⟨rfl, r4, k4⟩
  have f4 := g3.next r4 k4
  clear hf hc
  have hf := f4.froz 3
  have hc := f4.cell 3 _ rfl
  have gz := f4.set 3 (.string (str n4))
  clear g3 f4 r4 k4
  go_upto_region 6 with (fail)
  generalize v4.setCell ⟨w.heap.size + 1, 3, none⟩ (.string (str n4)) = vz at gz ⊢
  clear hf hc
  obtain ⟨y0, y1, y2, y3⟩ : vz.cell? ⟨w.heap.size + 1, 0, none⟩ = some (.int .i64 n1) ∧ vz.cell? ⟨w.heap.size + 1, 1, none⟩ = some (.int .i64 n2) ∧ vz.cell? ⟨w.heap.size + 1, 2, none⟩ = some (.int .i64 n3) ∧ vz.cell? ⟨w.heap.size + 1, 3, none⟩ = some (.string (str n4)) := ⟨gz.cell 0 _ rfl, gz.cell 1 _ rfl, gz.cell 2 _ rfl, gz.cell 3 _ rfl⟩
  obtain ⟨r0, r1, r2, r3⟩ := st_cells gz.out
  have hfz : ∀ j, vz.frozen? ⟨w.heap.size, j, none⟩ = false := fun j => frozen_of_row _ _ _ _ _ gz.out
  have f0 := hfz 0
  have f1 := hfz 1
  have f2 := hfz 2
  have f3 := hfz 3
  have R := Lib.hid (gz.endQ (n1, (n2, ⟨n3, str n4⟩)))
  clear gz hfz
  go_wp2
  change bodyPost _ _ _ _ _ (setQ vz w.heap.size (n1, (n2, ⟨n3, str n4⟩)))
  generalize setQ vz w.heap.size (n1, (n2, ⟨n3, str n4⟩)) = v9 at R ⊢
  obtain ⟨hb9, rd9, k9⟩ := R.out
  obtain ⟨z0, z1, z2, z3⟩ := st_cells hb9
  refine bodyPost_ret (v := SN.val (n1, (n2, ⟨n3, str n4⟩))) (by simp [results, Tryz.results82, go_sem, SN.val, Tryz.isAgg63, Tryz.sizeOf63, z0, z1, z2, z3]) rfl ?_
  rw [HALL.out]
  exact ⟨rfl, rd9, k9⟩

/-- What is read as a row. -/
def rdList {α : Type} (rd : List UInt8 → Bool → α × List UInt8 × Bool) : Nat → List UInt8 → Bool → List α × List UInt8 × Bool
  | 0, l, bad => ([], l, bad)
  | n + 1, l, bad => if bad = true then ([], l, bad) else ((rd l bad).1 :: (rdList rd n (rd l bad).2.1 (rd l bad).2.2).1, (rdList rd n (rd l bad).2.1 (rd l bad).2.2).2)
def rdRow {α : Type} (rd : List UInt8 → Bool → α × List UInt8 × Bool) (l : List UInt8) (bad : Bool) : List α × List UInt8 × Bool := rdList rd (rNum l bad).1.toNat (rNum l bad).2.1 (rNum l bad).2.2
theorem rdList_bad {α : Type} (rd : List UInt8 → Bool → α × List UInt8 × Bool) (n : Nat) (l : List UInt8) : rdList rd n l true = ([], l, true) := by cases n <;> simp [rdList]
theorem rdPair_len {l l' : List UInt8} {bad : Bool} {p : ByteArray × (ByteArray × Bool)} (h : rdPair l bad = (p, l', false)) : l'.length + 17 ≤ l.length := by
  revert h
  unfold rdPair
  simp only
  generalize hq1 : rText l bad = q1
  obtain ⟨n1, l1, b1⟩ := q1
  generalize hq2 : rText l1 b1 = q2
  obtain ⟨n2, l2, b2⟩ := q2
  generalize hq3 : rByte l2 b2 = q3
  obtain ⟨n3, l3, b3⟩ := q3
  intro h
  simp only [Prod.mk.injEq] at h
  obtain ⟨_, rfl, rfl⟩ := h
  obtain ⟨rfl, rfl⟩ := rByte_inv hq3
  obtain ⟨rfl, rfl⟩ := rText_inv hq2
  obtain ⟨_, rfl⟩ := rText_inv hq1
  simp only [List.length_append, tx_length, List.length_singleton]
  omega
theorem rdSess_len {l l' : List UInt8} {bad : Bool} {x : Int × (Int × RepV)} (h : rdSess l bad = (x, l', false)) : l'.length + 17 ≤ l.length := by
  revert h
  unfold rdSess
  simp only
  generalize hq1 : rNum l bad = q1
  obtain ⟨n1, l1, b1⟩ := q1
  generalize hq2 : rNum l1 b1 = q2
  obtain ⟨n2, l2, b2⟩ := q2
  generalize hq3 : rNum l2 b2 = q3
  obtain ⟨n3, l3, b3⟩ := q3
  generalize hq4 : rText l3 b3 = q4
  obtain ⟨n4, l4, b4⟩ := q4
  intro h
  simp only [Prod.mk.injEq] at h
  obtain ⟨_, rfl, rfl⟩ := h
  obtain ⟨rfl, rfl⟩ := rText_inv hq4
  obtain ⟨rfl, rfl⟩ := rNum_inv hq3
  obtain ⟨rfl, rfl⟩ := rNum_inv hq2
  obtain ⟨_, rfl⟩ := rNum_inv hq1
  simp only [List.length_append, tx_length, be8_length]
  omega
end Go.Proofs.YthmjjhjblokjeaaGreat

/-
  A row of pairs, or sessions, that is read. No statement is proved here.
-/
namespace Go.Proofs.YthmjjhjblokjeaaGreat.PR
open Go.RowKit

theorem rNum_range (l : List UInt8) (bad : Bool) : -9223372036854775808 ≤ (rNum l bad).1 ∧ (rNum l bad).1 ≤ 9223372036854775807 := by
  unfold rNum
  split
  · simp
  · exact rdN_bounds _
theorem val_one (p : ByteArray × (ByteArray × Bool)) {w : World} {B c : Nat} {t : TypeId} {fr : Nat × Nat} (hb : w.heap[B]? = some (.cells (enc p).toArray t fr)) : Src Tryz.prog 3 24 (.slice (some ⟨B, 0, none⟩) 1 c) 1 (cells [p]) w := by
  have he : cells [p] = enc p := flat_one p
  refine Src.ofSlice w Tryz.underlying24 _ _ _ _ (by rw [he]; rfl) ?_ (cells_one _)
  rw [he]
  intro j u hu
  exact World.news_of_block hb j u (by simpa using hu)

set_option maxRecDepth 100000 in
set_option maxHeartbeats 1000000 in
theorem list_any (F : Nat → Prop) (b : Nat) (l : List UInt8) (bad : Bool) (w : World) (h : Rd w F b l bad) (hx : l.length ≤ 1099511627776) :
    Calls Tryz.prog 79 #[.pointer (some ⟨b, 0, none⟩), .func (.func 80) #[] #[]] w fun e w' => ∃ A c, e = .returned (.slice A (rdRow rdPair l bad).1.length c) ∧ w'.ownsRow w.heap.size 68 3 (.slice A (rdRow rdPair l bad).1.length c) (rdRow rdPair l bad).1.length (cells (rdRow rdPair l bad).1) ∧
      Rd w' F b (rdRow rdPair l bad).2.1 (rdRow rdPair l bad).2.2 ∧ Kept (fun k => k = b) w w' := by
  generalize hq : rNum l bad = q
  obtain ⟨n, l1, b1⟩ := q
  have HR : Hid (rdRow rdPair l bad = rdList rdPair n.toNat l1 b1) := by unfold Hid rdRow; rw [hq]
  have hl1 : b1 = false → l1.length ≤ l.length := fun e => by
    subst e
    obtain ⟨_, rfl⟩ := rNum_inv hq
    simp
  have HNB : Hid (-9223372036854775808 ≤ n ∧ n ≤ 9223372036854775807) := by have := rNum_range l bad; rw [hq] at this; exact this
  have hb := h.lt b h.foot
  have HLT := Lib.hid h.lt
  have HQ := Lib.hid hq
  have HL1 := Lib.hid hl1
  have H := Lib.hid h
  clear hq hl1 h
  go_enter Tryz.func79, Tryz.ntmps79
  go_wp2_with fail
  refine (rnum_r H.out HQ.out).mono ?_
  rintro e w1 ⟨rfl, r1, k1⟩
  have R1 := Lib.hid r1
  have K1 := Lib.hid k1
  clear r1 k1 H HQ
  go_wp2_with fail
  go_loopw [5, 6] (fun s i wr => ∃ (N : Int) (L : Nat) (A : Option Addr) (c : Nat) (es : List (ByteArray × (ByteArray × Bool))) (l' : List UInt8) (bad' : Bool), s = .slice A L c ∧ i = .int .i64 N ∧ Hid (es.length = L) ∧ N ≤ 9223372036854775807 ∧ -9223372036854775808 ≤ N ∧ Hid (rdRow rdPair l bad = (es ++ (rdList rdPair N.toNat l' bad').1, (rdList rdPair N.toNat l' bad').2)) ∧ Hid (bad' = false → L * 17 + l'.length ≤ l.length) ∧ L ≤ l.length + 1 ∧ Hid (Rd wr F b l' bad') ∧ Hid (wr.ownsRow 0 68 3 (.slice A L c) L (cells es)) ∧ Hid (∀ i, (Value.slice A L c).ownBlock = some i → w.heap.size ≤ i) ∧ Hid (Kept (fun k => k = b) w wr)) (fun _ i _ => (intOf i).toNat)
  case atStart => exact ⟨n, 0, none, 0, [], l1, b1, rfl, rfl, rfl, HNB.out.2, HNB.out.1, by unfold Hid; rw [HR.out]; rfl, fun e => by have := HL1.out e; omega, by omega, R1, World.ownsRow_nil _ _ _ _, fun i hi => by simp [Value.ownBlock] at hi, K1⟩
  case round =>
    obtain ⟨N, L, A, c, es, l', bad', rfl, rfl, HE, hN1, hN0, HRR, HB, hL, RD, OW, OB, KR⟩ := hrel
    by_cases h0 : 0 < N
    · cases bad' with
      | true =>
        have BA := Lib.hid (rbad_any b F l' true wr RD.out)
        have hrr := HRR.out
        rw [rdList_bad] at hrr
        simp only [List.append_nil] at hrr
        have HR2 := Lib.hid hrr
        clear hrr
        go_wp2_with fail
        refine BA.out.mono ?_
        rintro e w2 ⟨rfl, hw2⟩
        subst hw2
        clear BA
        go_wp2
        go_ret
        rw [HR2.out]
        simp only
        rw [HE.out]
        exact ⟨A, c, rfl, own_base OW.out OB.out, RD.out, KR.out⟩
      | false =>
        have BA := Lib.hid (rbad_any b F l' false wr RD.out)
        have RE := Lib.hid (rpair_any F b l' false wr RD.out)
        obtain ⟨m, hm⟩ : ∃ m, N.toNat = m + 1 := ⟨N.toNat - 1, by omega⟩
        have hrr := HRR.out
        rw [hm] at hrr
        simp only [rdList, Bool.false_eq_true, if_false] at hrr
        generalize hq2 : rdPair l' false = q2 at hrr RE
        obtain ⟨x, l2, b2⟩ := q2
        simp only at hrr RE
        have hm' : (N - 1).toNat = m := by omega
        have HR2 : Hid (rdRow rdPair l bad = ((es ++ [x]) ++ (rdList rdPair (N - 1).toNat l2 b2).1, (rdList rdPair (N - 1).toNat l2 b2).2)) := by
          unfold Hid
          rw [hrr, hm']
          simp
        have hLl := HB.out rfl
        have HB2 : Hid (b2 = false → (L + 1) * 17 + l2.length ≤ l.length) := fun e => by
          subst e
          have := rdPair_len hq2
          omega
        have HE2 : Hid ((es ++ [x]).length = L + 1) := by unfold Hid; rw [List.length_append, HE.out]; rfl
        unfold val at RE
        clear hrr hq2 hm hm'
        go_wp2_with fail
        refine BA.out.mono ?_
        rintro e w2 ⟨rfl, hw2⟩
        subst hw2
        clear BA
        go_wp2_with fail
        refine RE.out.mono ?_
        rintro e w3 ⟨rfl, rd3, k3⟩
        have RD3 := Lib.hid rd3
        have nb : ∀ i, (Value.slice A L c).ownBlock = some i → ¬ (i = b) := fun i hi e => by have := OB.out i hi; omega
        have O3 := Lib.hid (own_keep OW.out k3 nb)
        have K3 := Lib.hid (KR.out.step k3)
        clear rd3 k3 nb RE
        go_wp2_with (at_builtin; refine wpList_append_src rfl _ _ 24 24 rfl 68 (.agg #[.string ByteArray.empty, .string ByteArray.empty, .bool false]) 3 40 Tryz.underlying24 infoPr rfl (.slice A L c) L (cells es) rfl (own_keep O3.out (Kept.alloc noBlock _ _) (fun _ _ h => h)) _ 1 (cells [x]) rfl (val_one x (heap_alloc_new _ _)) ?c3 ?c4 ?_)
        case c3 => unfold maxLen; omega
        case c4 => left; omega
        intro A' c' w4 o4 k4 hat
        have he4 : cells es ++ cells [x] = cells (es ++ [x]) := (flat_append es [x]).symm
        rw [he4] at o4
        have O4 := Lib.hid o4
        have ka := Kept.alloc noBlock w3 (.cells (enc x).toArray 68)
        have RD4 := Lib.hid ((RD3.out.keep ka (fun _ _ h => h)).keep k4 (fun i hi e => by have h1 := OB.out i e; have h2 := HLT.out i hi; omega))
        have K4 : Hid (Kept (fun k => k = b) w w4) := (K3.out.trans ka (fun _ _ h => h.elim)).trans k4 (fun i hi e => by have := OB.out i e; omega)
        have OB4 : Hid (∀ i, (Value.slice A' (L + 1) c').ownBlock = some i → w.heap.size ≤ i) := fun i hi => by
          rcases hat i hi with h1 | h1
          · exact OB.out i h1
          · exact Nat.le_trans (K3.out.trans ka (fun _ _ h => h.elim)).size h1.1
        clear o4 ka k4 hat he4
        go_wp2
        go_roundw
        case rel => exact ⟨N - 1, L + 1, A', c', es ++ [x], l2, b2, rfl, by go_num, HE2, by omega, by omega, HR2, HB2, by omega, RD4, O4, OB4, K4⟩
        case measure => simp [intOf]; omega
    · have hz : N.toNat = 0 := by omega
      have h0' : decide ((0 : Int) < N) = false := decide_eq_false h0
      have hrr := HRR.out
      rw [hz] at hrr
      simp only [rdList, List.append_nil] at hrr
      have HR2 := Lib.hid hrr
      clear hrr
      go_wp2
      go_ret
      rw [HR2.out]
      simp only
      rw [HE.out]
      exact ⟨A, c, rfl, own_base OW.out OB.out, RD.out, KR.out⟩
end Go.Proofs.YthmjjhjblokjeaaGreat.PR

/-
  A row of pairs, or sessions, that is read. No statement is proved here.
-/
namespace Go.Proofs.YthmjjhjblokjeaaGreat.SN
open Go.RowKit

theorem rNum_range (l : List UInt8) (bad : Bool) : -9223372036854775808 ≤ (rNum l bad).1 ∧ (rNum l bad).1 ≤ 9223372036854775807 := by
  unfold rNum
  split
  · simp
  · exact rdN_bounds _
theorem val_one (p : Int × (Int × RepV)) {w : World} {B c : Nat} {t : TypeId} {fr : Nat × Nat} (hb : w.heap[B]? = some (.cells (enc p).toArray t fr)) : Src Tryz.prog 4 25 (.slice (some ⟨B, 0, none⟩) 1 c) 1 (cells [p]) w := by
  have he : cells [p] = enc p := flat_one p
  refine Src.ofSlice w Tryz.underlying25 _ _ _ _ (by rw [he]; rfl) ?_ (cells_one _)
  rw [he]
  intro j u hu
  exact World.news_of_block hb j u (by simpa using hu)

set_option maxRecDepth 100000 in
set_option maxHeartbeats 1000000 in
theorem list_any (F : Nat → Prop) (b : Nat) (l : List UInt8) (bad : Bool) (w : World) (h : Rd w F b l bad) (hx : l.length ≤ 1099511627776) :
    Calls Tryz.prog 81 #[.pointer (some ⟨b, 0, none⟩), .func (.func 82) #[] #[]] w fun e w' => ∃ A c, e = .returned (.slice A (rdRow rdSess l bad).1.length c) ∧ w'.ownsRow w.heap.size 63 4 (.slice A (rdRow rdSess l bad).1.length c) (rdRow rdSess l bad).1.length (cells (rdRow rdSess l bad).1) ∧
      Rd w' F b (rdRow rdSess l bad).2.1 (rdRow rdSess l bad).2.2 ∧ Kept (fun k => k = b) w w' := by
  generalize hq : rNum l bad = q
  obtain ⟨n, l1, b1⟩ := q
  have HR : Hid (rdRow rdSess l bad = rdList rdSess n.toNat l1 b1) := by unfold Hid rdRow; rw [hq]
  have hl1 : b1 = false → l1.length ≤ l.length := fun e => by
    subst e
    obtain ⟨_, rfl⟩ := rNum_inv hq
    simp
  have HNB : Hid (-9223372036854775808 ≤ n ∧ n ≤ 9223372036854775807) := by have := rNum_range l bad; rw [hq] at this; exact this
  have hb := h.lt b h.foot
  have HLT := Lib.hid h.lt
  have HQ := Lib.hid hq
  have HL1 := Lib.hid hl1
  have H := Lib.hid h
  clear hq hl1 h
  go_enter Tryz.func81, Tryz.ntmps81
  go_wp2_with fail
  refine (rnum_r H.out HQ.out).mono ?_
  rintro e w1 ⟨rfl, r1, k1⟩
  have R1 := Lib.hid r1
  have K1 := Lib.hid k1
  clear r1 k1 H HQ
  go_wp2_with fail
  go_loopw [5, 6] (fun s i wr => ∃ (N : Int) (L : Nat) (A : Option Addr) (c : Nat) (es : List (Int × (Int × RepV))) (l' : List UInt8) (bad' : Bool), s = .slice A L c ∧ i = .int .i64 N ∧ Hid (es.length = L) ∧ N ≤ 9223372036854775807 ∧ -9223372036854775808 ≤ N ∧ Hid (rdRow rdSess l bad = (es ++ (rdList rdSess N.toNat l' bad').1, (rdList rdSess N.toNat l' bad').2)) ∧ Hid (bad' = false → L * 17 + l'.length ≤ l.length) ∧ L ≤ l.length + 1 ∧ Hid (Rd wr F b l' bad') ∧ Hid (wr.ownsRow 0 63 4 (.slice A L c) L (cells es)) ∧ Hid (∀ i, (Value.slice A L c).ownBlock = some i → w.heap.size ≤ i) ∧ Hid (Kept (fun k => k = b) w wr)) (fun _ i _ => (intOf i).toNat)
  case atStart => exact ⟨n, 0, none, 0, [], l1, b1, rfl, rfl, rfl, HNB.out.2, HNB.out.1, by unfold Hid; rw [HR.out]; rfl, fun e => by have := HL1.out e; omega, by omega, R1, World.ownsRow_nil _ _ _ _, fun i hi => by simp [Value.ownBlock] at hi, K1⟩
  case round =>
    obtain ⟨N, L, A, c, es, l', bad', rfl, rfl, HE, hN1, hN0, HRR, HB, hL, RD, OW, OB, KR⟩ := hrel
    by_cases h0 : 0 < N
    · cases bad' with
      | true =>
        have BA := Lib.hid (rbad_any b F l' true wr RD.out)
        have hrr := HRR.out
        rw [rdList_bad] at hrr
        simp only [List.append_nil] at hrr
        have HR2 := Lib.hid hrr
        clear hrr
        go_wp2_with fail
        refine BA.out.mono ?_
        rintro e w2 ⟨rfl, hw2⟩
        subst hw2
        clear BA
        go_wp2
        go_ret
        rw [HR2.out]
        simp only
        rw [HE.out]
        exact ⟨A, c, rfl, own_base OW.out OB.out, RD.out, KR.out⟩
      | false =>
        have BA := Lib.hid (rbad_any b F l' false wr RD.out)
        have RE := Lib.hid (rsess_any F b l' false wr RD.out)
        obtain ⟨m, hm⟩ : ∃ m, N.toNat = m + 1 := ⟨N.toNat - 1, by omega⟩
        have hrr := HRR.out
        rw [hm] at hrr
        simp only [rdList, Bool.false_eq_true, if_false] at hrr
        generalize hq2 : rdSess l' false = q2 at hrr RE
        obtain ⟨x, l2, b2⟩ := q2
        simp only at hrr RE
        have hm' : (N - 1).toNat = m := by omega
        have HR2 : Hid (rdRow rdSess l bad = ((es ++ [x]) ++ (rdList rdSess (N - 1).toNat l2 b2).1, (rdList rdSess (N - 1).toNat l2 b2).2)) := by
          unfold Hid
          rw [hrr, hm']
          simp
        have hLl := HB.out rfl
        have HB2 : Hid (b2 = false → (L + 1) * 17 + l2.length ≤ l.length) := fun e => by
          subst e
          have := rdSess_len hq2
          omega
        have HE2 : Hid ((es ++ [x]).length = L + 1) := by unfold Hid; rw [List.length_append, HE.out]; rfl
        unfold val at RE
        clear hrr hq2 hm hm'
        go_wp2_with fail
        refine BA.out.mono ?_
        rintro e w2 ⟨rfl, hw2⟩
        subst hw2
        clear BA
        go_wp2_with fail
        refine RE.out.mono ?_
        rintro e w3 ⟨rfl, rd3, k3⟩
        have RD3 := Lib.hid rd3
        have nb : ∀ i, (Value.slice A L c).ownBlock = some i → ¬ (i = b) := fun i hi e => by have := OB.out i hi; omega
        have O3 := Lib.hid (own_keep OW.out k3 nb)
        have K3 := Lib.hid (KR.out.step k3)
        clear rd3 k3 nb RE
        go_wp2_with (at_builtin; refine wpList_append_src rfl _ _ 25 25 rfl 63 (.agg #[.int .i64 0, .int .i64 0, .int .i64 0, .string ByteArray.empty]) 4 40 Tryz.underlying25 infoPr rfl (.slice A L c) L (cells es) rfl (own_keep O3.out (Kept.alloc noBlock _ _) (fun _ _ h => h)) _ 1 (cells [x]) rfl (val_one x (heap_alloc_new _ _)) ?c3 ?c4 ?_)
        case c3 => unfold maxLen; omega
        case c4 => left; omega
        intro A' c' w4 o4 k4 hat
        have he4 : cells es ++ cells [x] = cells (es ++ [x]) := (flat_append es [x]).symm
        rw [he4] at o4
        have O4 := Lib.hid o4
        have ka := Kept.alloc noBlock w3 (.cells (enc x).toArray 63)
        have RD4 := Lib.hid ((RD3.out.keep ka (fun _ _ h => h)).keep k4 (fun i hi e => by have h1 := OB.out i e; have h2 := HLT.out i hi; omega))
        have K4 : Hid (Kept (fun k => k = b) w w4) := (K3.out.trans ka (fun _ _ h => h.elim)).trans k4 (fun i hi e => by have := OB.out i e; omega)
        have OB4 : Hid (∀ i, (Value.slice A' (L + 1) c').ownBlock = some i → w.heap.size ≤ i) := fun i hi => by
          rcases hat i hi with h1 | h1
          · exact OB.out i h1
          · exact Nat.le_trans (K3.out.trans ka (fun _ _ h => h.elim)).size h1.1
        clear o4 ka k4 hat he4
        go_wp2
        go_roundw
        case rel => exact ⟨N - 1, L + 1, A', c', es ++ [x], l2, b2, rfl, by go_num, HE2, by omega, by omega, HR2, HB2, by omega, RD4, O4, OB4, K4⟩
        case measure => simp [intOf]; omega
    · have hz : N.toNat = 0 := by omega
      have h0' : decide ((0 : Int) < N) = false := decide_eq_false h0
      have hrr := HRR.out
      rw [hz] at hrr
      simp only [rdList, List.append_nil] at hrr
      have HR2 := Lib.hid hrr
      clear hrr
      go_wp2
      go_ret
      rw [HR2.out]
      simp only
      rw [HE.out]
      exact ⟨A, c, rfl, own_base OW.out OB.out, RD.out, KR.out⟩
end Go.Proofs.YthmjjhjblokjeaaGreat.SN

/-
  The contract of state.ReadRows. No statement is proved here.
-/
namespace Go.Proofs.YthmjjhjblokjeaaGreat
open Go.RowKit Tot

theorem rNum_le (l : List UInt8) (bad : Bool) : (rNum l bad).2.1.length ≤ l.length := by
  unfold rNum
  split
  · exact Nat.le_refl _
  · simp
theorem rByte_le (l : List UInt8) (bad : Bool) : (rByte l bad).2.1.length ≤ l.length := by
  cases hb : (rByte l bad).2.2 with
  | false =>
    obtain ⟨_, e⟩ := rByte_inv (x := (rByte l bad).1) (r := (rByte l bad).2.1) (by rw [← hb])
    have := congrArg List.length e
    simp only [List.length_append, List.length_singleton] at this
    omega
  | true =>
    unfold rByte at hb ⊢
    split
    · exact Nat.le_refl _
    · rename_i h; rw [if_neg h] at hb; simp at hb
theorem rText_le (l : List UInt8) (bad : Bool) : (rText l bad).2.1.length ≤ l.length := by
  have h1 := rNum_le l bad
  obtain ⟨⟨n, l', b'⟩, hq⟩ : ∃ q, rNum l bad = q := ⟨_, rfl⟩
  unfold rText
  rw [hq] at h1 ⊢
  simp only at h1 ⊢
  split
  · exact h1
  · refine Nat.le_trans ?_ h1
    simp
theorem rdPair_le (l : List UInt8) (bad : Bool) : (rdPair l bad).2.1.length ≤ l.length := by
  unfold rdPair
  simp only
  exact Nat.le_trans (rByte_le _ _) (Nat.le_trans (rText_le _ _) (rText_le _ _))
theorem rdSess_le (l : List UInt8) (bad : Bool) : (rdSess l bad).2.1.length ≤ l.length := by
  unfold rdSess
  simp only
  exact Nat.le_trans (rText_le _ _) (Nat.le_trans (rNum_le _ _) (Nat.le_trans (rNum_le _ _) (rNum_le _ _)))
section
variable {α : Type} {rd : List UInt8 → Bool → α × List UInt8 × Bool}
theorem rdList_le (hle : ∀ l bad, (rd l bad).2.1.length ≤ l.length) (n : Nat) : ∀ (l : List UInt8) (bad : Bool), (rdList rd n l bad).2.1.length ≤ l.length := by
  induction n with
  | zero => exact fun l _ => Nat.le_refl _
  | succ n ih =>
    intro l bad
    unfold rdList
    split
    · exact Nat.le_refl _
    · exact Nat.le_trans (ih _ _) (hle _ _)
theorem rdRow_le (hle : ∀ l bad, (rd l bad).2.1.length ≤ l.length) (l : List UInt8) (bad : Bool) : (rdRow rd l bad).2.1.length ≤ l.length := Nat.le_trans (rdList_le hle _ _ _) (rNum_le _ _)
theorem rdList_count (hrd : ∀ l x l', rd l false = (x, l', false) → l'.length + 17 ≤ l.length) (n : Nat) : ∀ (l : List UInt8) (bad : Bool), (rdList rd n l bad).1.length ≤ l.length + 1 := by
  induction n with
  | zero => intro l bad; simp [rdList]
  | succ n ih =>
    intro l bad
    unfold rdList
    split
    · simp
    · rename_i hb
      have hb : bad = false := by simpa using hb
      subst hb
      generalize hq : rd l false = q
      obtain ⟨x, l', b'⟩ := q
      simp only [List.length_cons]
      cases b' with
      | true => rw [rdList_bad]; simp
      | false =>
        have h1 := ih l' false
        have h2 := hrd l x l' hq
        omega
theorem rdRow_count (hrd : ∀ l x l', rd l false = (x, l', false) → l'.length + 17 ≤ l.length) (l : List UInt8) (bad : Bool) : (rdRow rd l bad).1.length ≤ l.length + 1 := Nat.le_trans (rdList_count hrd _ _ _) (Nat.succ_le_succ (rNum_le _ _))
end
def rdPs (l : List UInt8) (bad : Bool) : Prs := (rdRow rdPair l bad).1
def rdXs (l : List UInt8) (bad : Bool) : Sns := (rdRow rdSess (rdRow rdPair l bad).2.1 (rdRow rdPair l bad).2.2).1
def rdEnd (l : List UInt8) (bad : Bool) : List UInt8 × Bool := (rdRow rdSess (rdRow rdPair l bad).2.1 (rdRow rdPair l bad).2.2).2
theorem rdPs_len (l : List UInt8) (bad : Bool) : (rdPs l bad).length ≤ l.length + 1 := rdRow_count (fun _ _ _ h => rdPair_len h) l bad
theorem rdXs_len (l : List UInt8) (bad : Bool) : (rdXs l bad).length ≤ l.length + 1 := Nat.le_trans (rdRow_count (fun _ _ _ h => rdSess_len h) _ _) (Nat.succ_le_succ (rdRow_le rdPair_le _ _))

set_option maxRecDepth 100000 in
set_option maxHeartbeats 1000000 in
theorem readrows_any (F : Nat → Prop) (b : Nat) (l : List UInt8) (bad : Bool) (w : World) (h : Rd w F b l bad) (hx : l.length ≤ 1099511627776) :
    Calls Tryz.prog 54 #[.pointer (some ⟨b, 0, none⟩)] w fun e w' => ∃ A c B d, e = .returned (.tuple #[.slice A (rdPs l bad).length c, .slice B (rdXs l bad).length d]) ∧
      w'.ownsRow w.heap.size 68 3 (.slice A (rdPs l bad).length c) (rdPs l bad).length (PR.cells (rdPs l bad)) ∧ w'.ownsRow w.heap.size 63 4 (.slice B (rdXs l bad).length d) (rdXs l bad).length (SN.cells (rdXs l bad)) ∧
      Rd w' F b (rdEnd l bad).1 (rdEnd l bad).2 ∧ Kept (fun k => k = b) w w' := by
  have hb := h.lt b h.foot
  have L1 := Lib.hid (PR.list_any F b l bad w h hx)
  have L2 : Hid (∀ u, Rd u F b (rdRow rdPair l bad).2.1 (rdRow rdPair l bad).2.2 → Calls Tryz.prog 81 #[.pointer (some ⟨b, 0, none⟩), .func (.func 82) #[] #[]] u fun e w' => ∃ A c, e = .returned (.slice A (rdXs l bad).length c) ∧ w'.ownsRow u.heap.size 63 4 (.slice A (rdXs l bad).length c) (rdXs l bad).length (SN.cells (rdXs l bad)) ∧
      Rd w' F b (rdEnd l bad).1 (rdEnd l bad).2 ∧ Kept (fun k => k = b) u w') := fun u hu => SN.list_any F b _ _ u hu (Nat.le_trans (rdRow_le rdPair_le l bad) hx)
  clear h
  change Hid (Calls Tryz.prog 79 #[.pointer (some ⟨b, 0, none⟩), .func (.func 80) #[] #[]] w fun e w' => ∃ A c, e = .returned (.slice A (rdPs l bad).length c) ∧ w'.ownsRow w.heap.size 68 3 (.slice A (rdPs l bad).length c) (rdPs l bad).length (PR.cells (rdPs l bad)) ∧ Rd w' F b (rdRow rdPair l bad).2.1 (rdRow rdPair l bad).2.2 ∧ Kept (fun k => k = b) w w') at L1
  generalize rdPs l bad = ps at L1 ⊢
  generalize rdXs l bad = xs at L2 ⊢
  go_enter Tryz.func54, Tryz.ntmps54
  go_wp2_with fail
  refine L1.out.mono ?_
  rintro e w1 ⟨A, c, rfl, o1, r1, k1⟩
  have O1 := Lib.hid o1
  have R1 := Lib.hid r1
  have K1 := Lib.hid k1
  clear o1 r1 k1 L1
  go_wp2_with fail
  refine (L2.out w1 R1.out).mono ?_
  rintro e w2 ⟨B, d, rfl, o2, r2, k2⟩
  have O2 := Lib.hid o2
  have R2 := Lib.hid r2
  have O1' := Lib.hid (own_keep O1.out k2 (fun i hi e => by have := (O1.out.lt i hi).1; omega))
  have K2 := Lib.hid (K1.out.step k2)
  clear o2 r2 k2 L2
  go_wp2
  go_ret2
  exact ⟨A, c, B, d, rfl, O1'.out, own_base O2.out (fun i hi => Nat.le_trans K1.out.size (O2.out.lt i hi).1), R2.out, K2.out⟩
end Go.Proofs.YthmjjhjblokjeaaGreat
