/-
  Pairs and sessions that are read. No statement is proved here.
-/
import Derived.Test.YtgmjnjbmolalmaaBox6
namespace Go.Proofs.Ytgmjnjbmolalmaa
open Go.RowKit Tot

/-- While something is read: a Reader at b, what is read so far at B, the answer's place at R. -/
structure Rdg (w0 w : World) (F : Nat → Prop) (R b B : Nat) (t : TypeId) (l : List UInt8) (bad : Bool) (cs zs : Array Value) : Prop where
  kept : Kept (fun k => k = b) w0 w
  rd : Rd w F b l bad
  out : w.heap[R]? = some (.cells zs t (0, 0))
  at_ : w.heap[B]? = some (.cells cs t (0, 0))
  nR : ¬ F R
  nB : ¬ F B
  ne : R ≠ B
  lB : w0.heap.size ≤ B
  lR : w0.heap.size ≤ R
section
variable {w0 w w' : World} {F : Nat → Prop} {R b B : Nat} {t : TypeId} {l l' : List UInt8} {bad bad' : Bool} {cs zs : Array Value}
theorem Rdg.next (h : Rdg w0 w F R b B t l bad cs zs) (h2 : Rd w' F b l' bad') (k2 : Kept (fun k => k = b) w w') : Rdg w0 w' F R b B t l' bad' cs zs :=
  ⟨h.kept.step k2, h2, k2.blk h.out (fun hr => h.nR (hr ▸ h2.foot)), k2.blk h.at_ (fun hr => h.nB (hr ▸ h2.foot)), h.nR, h.nB, h.ne, h.lB, h.lR⟩
theorem Rdg.set (h : Rdg w0 w F R b B t l bad cs zs) (j : Nat) (v : Value) : Rdg w0 (w.setCell ⟨B, j, none⟩ v) F R b B t l bad (cs.setIfInBounds j v) zs := by
  have k : Kept (fun k => k = B) w (w.setCell ⟨B, j, none⟩ v) := Kept.setCell w (by rfl) v
  exact ⟨h.kept.trans k (fun i hi hb => by have := h.lB; omega), h.rd.keep k (fun i hi hb => h.nB (hb ▸ hi)), k.blk h.out h.ne, heap_setCell_same w B j _ t v h.at_, h.nR, h.nB, h.ne, h.lB, h.lR⟩
theorem Rdg.froz (h : Rdg w0 w F R b B t l bad cs zs) (j : Nat) : w.frozen? ⟨B, j, none⟩ = false := frozen_of_row _ _ _ _ _ h.at_
theorem Rdg.cell (h : Rdg w0 w F R b B t l bad cs zs) (j : Nat) (v : Value) (hv : cs[j]? = some v) : w.cell? ⟨B, j, none⟩ = some v := by rw [cell_of_row _ _ _ _ _ _ h.at_]; exact hv
end
theorem rnum_r {w : World} {F : Nat → Prop} {b : Nat} {l l' : List UInt8} {bad bad' : Bool} {n : Int} (h : Rd w F b l bad) (hq : rNum l bad = (n, l', bad')) :
    Calls Try.prog 45 #[.pointer (some ⟨b, 0, none⟩)] w (Read w F b (.int .i64 n) (l', bad')) := by
  have := rnum_any b F l bad w h
  rw [hq] at this
  exact this
theorem rbyte_r {w : World} {F : Nat → Prop} {b : Nat} {l l' : List UInt8} {bad bad' : Bool} {n : UInt8} (h : Rd w F b l bad) (hq : rByte l bad = (n, l', bad')) :
    Calls Try.prog 66 #[.pointer (some ⟨b, 0, none⟩)] w (Read w F b (.int .u8 (n.toNat : Int)) (l', bad')) := by
  have := rbyte_any b F l bad w h
  rw [hq] at this
  exact this
theorem rtext_r {w : World} {F : Nat → Prop} {b : Nat} {l l' n : List UInt8} {bad bad' : Bool} (h : Rd w F b l bad) (hq : rText l bad = (n, l', bad')) :
    Calls Try.prog 65 #[.pointer (some ⟨b, 0, none⟩)] w (Read w F b (.string (str n)) (l', bad')) := by
  have := rtext_any b F l bad w h
  rw [hq] at this
  exact this
/-- What is read as a pair, and as a session. -/
def rdPair (l : List UInt8) (bad : Bool) : (ByteArray × (ByteArray × Bool)) × List UInt8 × Bool :=
  let q1 := rText l bad
  let q2 := rText q1.2.1 q1.2.2
  let q3 := rByte q2.2.1 q2.2.2
  ((if 1 < q3.1.toNat then noText else str q1.1, (str q2.1, decide (q3.1.toNat = 1))), q3.2)
def rdSess (l : List UInt8) (bad : Bool) : (Int × (Int × RepV)) × List UInt8 × Bool :=
  let q1 := rNum l bad
  let q2 := rNum q1.2.1 q1.2.2
  let q3 := rNum q2.2.1 q2.2.2
  let q4 := rText q3.2.1 q3.2.2
  ((q1.1, (q2.1, ⟨q3.1, str q4.1⟩)), q4.2)
/-- A call that read something. -/
def ReadP (w : World) (F : Nat → Prop) (b : Nat) (v : Value) (q : List UInt8 × Bool) (e : Ending) (w' : World) : Prop := e = .returned v ∧ Rd w' F b q.1 q.2 ∧ Kept (fun k => k = b) w w'
/-- A pair that is stored at a block. -/
def setP (w : World) (R : Nat) (p : ByteArray × (ByteArray × Bool)) : World := ((w.setCell ⟨R, 0, none⟩ (.string p.1)).setCell ⟨R, 1, none⟩ (.string p.2.1)).setCell ⟨R, 2, none⟩ (.bool p.2.2)

theorem Rdg.endP {w0 w : World} {F : Nat → Prop} {R b B : Nat} {l : List UInt8} {bad : Bool} {cs : Array Value} {x0 x1 x2 : Value} (h : Rdg w0 w F R b B 61 l bad cs #[x0, x1, x2]) (p : ByteArray × (ByteArray × Bool)) :
    (setP w R p).heap[R]? = some (.cells #[.string p.1, .string p.2.1, .bool p.2.2] 61 (0, 0)) ∧ Rd (setP w R p) F b l bad ∧ Kept (fun k => k = b) w0 (setP w R p) := by
  have k : Kept (fun k => k = R) w (setP w R p) := ((Kept.setCell w (by rfl) _).step (Kept.setCell _ (by rfl) _)).step (Kept.setCell _ (by rfl) _)
  refine ⟨?_, h.rd.keep k (fun i hi e => h.nR (e ▸ hi)), h.kept.trans k (fun i hi e => by have := h.lR; omega)⟩
  unfold setP
  have h0 := heap_setCell_same w R 0 _ 61 (.string p.1) h.out
  have h1 := heap_setCell_same _ R 1 _ 61 (.string p.2.1) h0
  have h2 := heap_setCell_same _ R 2 _ 61 (.bool p.2.2) h1
  rw [h2]
  simp
set_option maxRecDepth 100000 in
set_option maxHeartbeats 1000000 in
theorem rpair_any (F : Nat → Prop) (b : Nat) (l : List UInt8) (bad : Bool) (w : World) (h : Rd w F b l bad) :
    Calls Try.prog 51 #[.pointer (some ⟨b, 0, none⟩)] w (ReadP w F b (PR.val (rdPair l bad).1) (rdPair l bad).2) := by
  have hlt := h.lt
  have hfb := h.foot
  obtain ⟨w1, hw1⟩ : ∃ w1, w1 = (w.alloc (.cells #[.string ⟨#[]⟩, .string ⟨#[]⟩, .bool false] 61)).alloc (.cells #[.string ⟨#[]⟩, .string ⟨#[]⟩, .bool false] 61) := ⟨_, rfl⟩
  have k1 : Kept noBlock w w1 := by rw [hw1]; exact (Kept.alloc _ _ _).step (Kept.alloc _ _ _)
  have g0 : Rdg w w1 F w.heap.size b (w.heap.size + 1) 61 l bad #[.string ⟨#[]⟩, .string ⟨#[]⟩, .bool false] #[.string ⟨#[]⟩, .string ⟨#[]⟩, .bool false] :=
    ⟨k1.mono (fun _ _ h => h.elim), h.keep k1 (fun _ _ h => h), by rw [hw1]; exact (Kept.alloc noBlock _ _).blk (heap_alloc_new w _) (fun h => h), by
      rw [hw1]
      have := heap_alloc_new (w.alloc (.cells #[.string ⟨#[]⟩, .string ⟨#[]⟩, .bool false] 61)) (.cells #[.string ⟨#[]⟩, .string ⟨#[]⟩, .bool false] 61)
      simpa using this, fun h => Nat.lt_irrefl _ (hlt _ h), fun h => by have := hlt _ h; omega, by omega, by omega, Nat.le_refl _⟩
  generalize hq1 : rText l bad = q1
  obtain ⟨n1, l1, b1⟩ := q1
  generalize hq2 : rText l1 b1 = q2
  obtain ⟨n2, l2, b2⟩ := q2
  generalize hq3 : rByte l2 b2 = q3
  obtain ⟨n3, l3, b3⟩ := q3
  have HALL : Hid (rdPair l bad = ((if 1 < n3.toNat then noText else str n1, (str n2, decide (n3.toNat = 1))), (l3, b3))) := by unfold Hid rdPair; simp only [hq1, hq2, hq3]
  have H1 := Lib.hid hq1
  have H2 := Lib.hid hq2
  have H3 := Lib.hid hq3
  clear hq1 hq2 hq3 h hlt k1
  go_enter Try.func51, Try.ntmps51
  go_upto_region 2 with (fail)
  rw [← hw1]
  clear hw1
  go_wp2_with fail
  refine (rtext_r g0.rd H1.out).mono ?_
  rintro e v1 ⟨rfl, r1, k1⟩
  have f1 := g0.next r1 k1
  have hf := f1.froz 0
  have hc := f1.cell 0 _ rfl
  have g1 := f1.set 0 (.string (str n1))
  clear g0 f1 r1 k1
  go_wp2_with fail
  refine (rtext_r g1.rd H2.out).mono ?_
  rintro e v2 ⟨rfl, r2, k2⟩
  have f2 := g1.next r2 k2
  clear hf hc
  have hf := f2.froz 1
  have hc := f2.cell 1 _ rfl
  have g2 := f2.set 1 (.string (str n2))
  clear g1 f2 r2 k2
  go_wp2_with fail
  refine (rbyte_r g2.rd H3.out).mono ?_
  rintro e v3 ⟨rfl, r3, k3⟩
  have f3 := g2.next r3 k3
  clear hf hc
  have hf := f3.froz 2
  have hc := f3.cell 2 _ rfl
  have h256 := n3.toNat_lt
  obtain ⟨gb, hgb⟩ : ∃ gb, ((n3.toNat : Int) == 1) = gb := ⟨_, rfl⟩
  have HGB : Hid (decide (n3.toNat = 1) = gb) := by
    unfold Hid
    rw [← hgb]
    by_cases h : n3.toNat = 1
    · rw [decide_eq_true h, h]; rfl
    · rw [decide_eq_false h]
      exact (beq_false_of_ne (by omega)).symm
  have g3 := f3.set 2 (.bool gb)
  clear g2 f3 r3 k3
  go_upto_region 6 with (fail)
  generalize v3.setCell ⟨w.heap.size + 1, 2, none⟩ (.bool gb) = v4 at g3 ⊢
  clear hf hc hgb
  by_cases hg : 1 < n3.toNat
  · have hg' : (1 : Int) < (n3.toNat : Int) := by omega
    have hf := g3.froz 0
    have hc := g3.cell 0 _ rfl
    have gz := g3.set 0 (.string ⟨#[]⟩)
    go_upto_region 8 with (fail)
    generalize v4.setCell ⟨w.heap.size + 1, 0, none⟩ (.string ⟨#[]⟩) = vz at gz ⊢
    clear hf hc g3
    obtain ⟨y0, y1, y2⟩ : vz.cell? ⟨w.heap.size + 1, 0, none⟩ = some (.string ⟨#[]⟩) ∧ vz.cell? ⟨w.heap.size + 1, 1, none⟩ = some (.string (str n2)) ∧ vz.cell? ⟨w.heap.size + 1, 2, none⟩ = some (.bool gb) := ⟨gz.cell 0 _ rfl, gz.cell 1 _ rfl, gz.cell 2 _ rfl⟩
    obtain ⟨r0, r1, r2⟩ : vz.cell? ⟨w.heap.size, 0, none⟩ = some (.string ⟨#[]⟩) ∧ vz.cell? ⟨w.heap.size, 1, none⟩ = some (.string ⟨#[]⟩) ∧ vz.cell? ⟨w.heap.size, 2, none⟩ = some (.bool false) := ⟨cell_of_row _ _ _ _ _ _ gz.out, cell_of_row _ _ _ _ _ _ gz.out, cell_of_row _ _ _ _ _ _ gz.out⟩
    have f0 : vz.frozen? ⟨w.heap.size, 0, none⟩ = false := frozen_of_row _ _ _ _ _ gz.out
    have f1 : vz.frozen? ⟨w.heap.size, 1, none⟩ = false := frozen_of_row _ _ _ _ _ gz.out
    have f2 : vz.frozen? ⟨w.heap.size, 2, none⟩ = false := frozen_of_row _ _ _ _ _ gz.out
    have R := Lib.hid (gz.endP (⟨#[]⟩, (str n2, gb)))
    clear gz
    go_wp2
    change bodyPost _ _ _ _ _ (setP vz w.heap.size (⟨#[]⟩, (str n2, gb)))
    generalize setP vz w.heap.size (⟨#[]⟩, (str n2, gb)) = v9 at R ⊢
    obtain ⟨hb9, rd9, k9⟩ := R.out
    obtain ⟨z0, z1, z2⟩ : v9.cell? ⟨w.heap.size, 0, none⟩ = some (.string ⟨#[]⟩) ∧ v9.cell? ⟨w.heap.size, 1, none⟩ = some (.string (str n2)) ∧ v9.cell? ⟨w.heap.size, 2, none⟩ = some (.bool gb) := ⟨cell_of_row _ _ _ _ _ _ hb9, cell_of_row _ _ _ _ _ _ hb9, cell_of_row _ _ _ _ _ _ hb9⟩
    refine bodyPost_ret (v := PR.val (⟨#[]⟩, (str n2, gb))) (by simp [results, Try.results51, go_sem, PR.val, Try.isAgg61, Try.sizeOf61, z0, z1, z2]) rfl ?_
    rw [HALL.out, HGB.out]
    refine ⟨?_, rd9, k9⟩
    rw [if_pos hg]
    rfl
  · have hg' : ¬ (1 : Int) < (n3.toNat : Int) := by omega
    have gz := g3
    obtain ⟨vz, hvz⟩ : ∃ vz, vz = v4 := ⟨_, rfl⟩
    rw [← hvz] at gz ⊢
    clear g3 hvz
    obtain ⟨y0, y1, y2⟩ : vz.cell? ⟨w.heap.size + 1, 0, none⟩ = some (.string (str n1)) ∧ vz.cell? ⟨w.heap.size + 1, 1, none⟩ = some (.string (str n2)) ∧ vz.cell? ⟨w.heap.size + 1, 2, none⟩ = some (.bool gb) := ⟨gz.cell 0 _ rfl, gz.cell 1 _ rfl, gz.cell 2 _ rfl⟩
    obtain ⟨r0, r1, r2⟩ : vz.cell? ⟨w.heap.size, 0, none⟩ = some (.string ⟨#[]⟩) ∧ vz.cell? ⟨w.heap.size, 1, none⟩ = some (.string ⟨#[]⟩) ∧ vz.cell? ⟨w.heap.size, 2, none⟩ = some (.bool false) := ⟨cell_of_row _ _ _ _ _ _ gz.out, cell_of_row _ _ _ _ _ _ gz.out, cell_of_row _ _ _ _ _ _ gz.out⟩
    have f0 : vz.frozen? ⟨w.heap.size, 0, none⟩ = false := frozen_of_row _ _ _ _ _ gz.out
    have f1 : vz.frozen? ⟨w.heap.size, 1, none⟩ = false := frozen_of_row _ _ _ _ _ gz.out
    have f2 : vz.frozen? ⟨w.heap.size, 2, none⟩ = false := frozen_of_row _ _ _ _ _ gz.out
    have R := Lib.hid (gz.endP ((str n1), (str n2, gb)))
    clear gz
    go_wp2
    change bodyPost _ _ _ _ _ (setP vz w.heap.size ((str n1), (str n2, gb)))
    generalize setP vz w.heap.size ((str n1), (str n2, gb)) = v9 at R ⊢
    obtain ⟨hb9, rd9, k9⟩ := R.out
    obtain ⟨z0, z1, z2⟩ : v9.cell? ⟨w.heap.size, 0, none⟩ = some (.string (str n1)) ∧ v9.cell? ⟨w.heap.size, 1, none⟩ = some (.string (str n2)) ∧ v9.cell? ⟨w.heap.size, 2, none⟩ = some (.bool gb) := ⟨cell_of_row _ _ _ _ _ _ hb9, cell_of_row _ _ _ _ _ _ hb9, cell_of_row _ _ _ _ _ _ hb9⟩
    refine bodyPost_ret (v := PR.val ((str n1), (str n2, gb))) (by simp [results, Try.results51, go_sem, PR.val, Try.isAgg61, Try.sizeOf61, z0, z1, z2]) rfl ?_
    rw [HALL.out, HGB.out]
    refine ⟨?_, rd9, k9⟩
    rw [if_neg hg]
end Go.Proofs.Ytgmjnjbmolalmaa
