/-
  Sessions that are read; rows that are read. No statement is proved here.
-/
import Derived.Test.YtgmjnjbmolalmaaStRead
namespace Go.Proofs.Ytgmjnjbmolalmaa
open Go.RowKit Tot

def setQ (w : World) (R : Nat) (x : Int × (Int × RepV)) : World := (((w.setCell ⟨R, 0, none⟩ (.int .i64 x.1)).setCell ⟨R, 1, none⟩ (.int .i64 x.2.1)).setCell ⟨R, 2, none⟩ (.int .i64 x.2.2.err)).setCell ⟨R, 3, none⟩ (.string x.2.2.value)
theorem Rdg.endQ {w0 w : World} {F : Nat → Prop} {R b B : Nat} {l : List UInt8} {bad : Bool} {cs : Array Value} {x0 x1 x2 x3 : Value} (h : Rdg w0 w F R b B 84 l bad cs #[x0, x1, x2, x3]) (x : Int × (Int × RepV)) :
    (setQ w R x).heap[R]? = some (.cells #[.int .i64 x.1, .int .i64 x.2.1, .int .i64 x.2.2.err, .string x.2.2.value] 84 (0, 0)) ∧ Rd (setQ w R x) F b l bad ∧ Kept (fun k => k = b) w0 (setQ w R x) := by
  have k : Kept (fun k => k = R) w (setQ w R x) := (((Kept.setCell w (by rfl) _).step (Kept.setCell _ (by rfl) _)).step (Kept.setCell _ (by rfl) _)).step (Kept.setCell _ (by rfl) _)
  refine ⟨?_, h.rd.keep k (fun i hi e => h.nR (e ▸ hi)), h.kept.trans k (fun i hi e => by have := h.lR; omega)⟩
  unfold setQ
  have h0 := heap_setCell_same w R 0 _ 84 (.int .i64 x.1) h.out
  have h1 := heap_setCell_same _ R 1 _ 84 (.int .i64 x.2.1) h0
  have h2 := heap_setCell_same _ R 2 _ 84 (.int .i64 x.2.2.err) h1
  have h3 := heap_setCell_same _ R 3 _ 84 (.string x.2.2.value) h2
  rw [h3]
  simp

set_option maxRecDepth 100000 in
set_option maxHeartbeats 1000000 in
theorem rsess_any (F : Nat → Prop) (b : Nat) (l : List UInt8) (bad : Bool) (w : World) (h : Rd w F b l bad) :
    Calls Try.prog 53 #[.pointer (some ⟨b, 0, none⟩)] w (ReadP w F b (SN.val (rdSess l bad).1) (rdSess l bad).2) := by
  have hlt := h.lt
  obtain ⟨w1, hw1⟩ : ∃ w1, w1 = (w.alloc (.cells #[.int .i64 0, .int .i64 0, .int .i64 0, .string ⟨#[]⟩] 84)).alloc (.cells #[.int .i64 0, .int .i64 0, .int .i64 0, .string ⟨#[]⟩] 84) := ⟨_, rfl⟩
  have k1 : Kept noBlock w w1 := by rw [hw1]; exact (Kept.alloc _ _ _).step (Kept.alloc _ _ _)
  have g0 : Rdg w w1 F w.heap.size b (w.heap.size + 1) 84 l bad #[.int .i64 0, .int .i64 0, .int .i64 0, .string ⟨#[]⟩] #[.int .i64 0, .int .i64 0, .int .i64 0, .string ⟨#[]⟩] :=
    ⟨k1.mono (fun _ _ h => h.elim), h.keep k1 (fun _ _ h => h), by rw [hw1]; exact (Kept.alloc noBlock _ _).blk (heap_alloc_new w _) (fun h => h), by
      rw [hw1]
      have := heap_alloc_new (w.alloc (.cells #[.int .i64 0, .int .i64 0, .int .i64 0, .string ⟨#[]⟩] 84)) (.cells #[.int .i64 0, .int .i64 0, .int .i64 0, .string ⟨#[]⟩] 84)
      simpa using this, fun h => Nat.lt_irrefl _ (hlt _ h), fun h => by have := hlt _ h; omega, by omega, by omega, Nat.le_refl _⟩
  generalize hq1 : rNum l bad = q1
  obtain ⟨n1, l1, b1⟩ := q1
  generalize hq2 : rNum l1 b1 = q2
  obtain ⟨n2, l2, b2⟩ := q2
  generalize hq3 : rNum l2 b2 = q3
  obtain ⟨n3, l3, b3⟩ := q3
  generalize hq4 : rText l3 b3 = q4
  obtain ⟨n4, l4, b4⟩ := q4
  have HALL : Hid (rdSess l bad = ((n1, (n2, ⟨n3, str n4⟩)), (l4, b4))) := by unfold Hid rdSess; simp only [hq1, hq2, hq3, hq4]
  have H1 := Lib.hid hq1
  have H2 := Lib.hid hq2
  have H3 := Lib.hid hq3
  have H4 := Lib.hid hq4
  clear hq1 hq2 hq3 hq4 h hlt k1
  go_enter Try.func53, Try.ntmps53
  go_upto_region 2 with (fail)
  rw [← hw1]
  clear hw1
  go_wp2_with fail
  refine (rnum_r g0.rd H1.out).mono ?_
  rintro e v1 ⟨rfl, r1, k1⟩
  have f1 := g0.next r1 k1
  have hf := f1.froz 0
  have hc := f1.cell 0 _ rfl
  have g1 := f1.set 0 (.int .i64 n1)
  clear g0 f1 r1 k1
  go_wp2_with fail
  refine (rnum_r g1.rd H2.out).mono ?_
  rintro e v2 ⟨rfl, r2, k2⟩
  have f2 := g1.next r2 k2
  clear hf hc
  have hf := f2.froz 1
  have hc := f2.cell 1 _ rfl
  have g2 := f2.set 1 (.int .i64 n2)
  clear g1 f2 r2 k2
  go_wp2_with fail
  refine (rnum_r g2.rd H3.out).mono ?_
  rintro e v3 ⟨rfl, r3, k3⟩
  have f3 := g2.next r3 k3
  clear hf hc
  have hf := f3.froz 2
  have hc := f3.cell 2 _ rfl
  have g3 := f3.set 2 (.int .i64 n3)
  clear g2 f3 r3 k3
  go_wp2_with fail
  refine (rtext_r g3.rd H4.out).mono ?_
  rintro e v4 ⟨rfl, r4, k4⟩
  have f4 := g3.next r4 k4
  clear hf hc
  have hf := f4.froz 3
  have hc := f4.cell 3 _ rfl
  have gz := f4.set 3 (.string (str n4))
  clear g3 f4 r4 k4
  go_upto_region 6 with (fail)
  generalize v4.setCell ⟨w.heap.size + 1, 3, none⟩ (.string (str n4)) = vz at gz ⊢
  clear hf hc
  obtain ⟨y0, y1, y2, y3⟩ : vz.cell? ⟨w.heap.size + 1, 0, none⟩ = some (.int .i64 n1) ∧ vz.cell? ⟨w.heap.size + 1, 1, none⟩ = some (.int .i64 n2) ∧ vz.cell? ⟨w.heap.size + 1, 2, none⟩ = some (.int .i64 n3) ∧ vz.cell? ⟨w.heap.size + 1, 3, none⟩ = some (.string (str n4)) := ⟨gz.cell 0 _ rfl, gz.cell 1 _ rfl, gz.cell 2 _ rfl, gz.cell 3 _ rfl⟩
  obtain ⟨r0, r1, r2, r3⟩ := st_cells gz.out
  have hfz : ∀ j, vz.frozen? ⟨w.heap.size, j, none⟩ = false := fun j => frozen_of_row _ _ _ _ _ gz.out
  have f0 := hfz 0
  have f1 := hfz 1
  have f2 := hfz 2
  have f3 := hfz 3
  have R := Lib.hid (gz.endQ (n1, (n2, ⟨n3, str n4⟩)))
  clear gz hfz
  go_wp2
  change bodyPost _ _ _ _ _ (setQ vz w.heap.size (n1, (n2, ⟨n3, str n4⟩)))
  generalize setQ vz w.heap.size (n1, (n2, ⟨n3, str n4⟩)) = v9 at R ⊢
  obtain ⟨hb9, rd9, k9⟩ := R.out
  obtain ⟨z0, z1, z2, z3⟩ := st_cells hb9
  refine bodyPost_ret (v := SN.val (n1, (n2, ⟨n3, str n4⟩))) (by simp [results, Try.results53, go_sem, SN.val, Try.isAgg84, Try.sizeOf84, z0, z1, z2, z3]) rfl ?_
  rw [HALL.out]
  exact ⟨rfl, rd9, k9⟩

/-- What is read as a row. -/
def rdList {α : Type} (rd : List UInt8 → Bool → α × List UInt8 × Bool) : Nat → List UInt8 → Bool → List α × List UInt8 × Bool
  | 0, l, bad => ([], l, bad)
  | n + 1, l, bad => if bad = true then ([], l, bad) else ((rd l bad).1 :: (rdList rd n (rd l bad).2.1 (rd l bad).2.2).1, (rdList rd n (rd l bad).2.1 (rd l bad).2.2).2)
def rdRow {α : Type} (rd : List UInt8 → Bool → α × List UInt8 × Bool) (l : List UInt8) (bad : Bool) : List α × List UInt8 × Bool := rdList rd (rNum l bad).1.toNat (rNum l bad).2.1 (rNum l bad).2.2
theorem rdList_bad {α : Type} (rd : List UInt8 → Bool → α × List UInt8 × Bool) (n : Nat) (l : List UInt8) : rdList rd n l true = ([], l, true) := by cases n <;> simp [rdList]
theorem rdPair_len {l l' : List UInt8} {bad : Bool} {p : ByteArray × (ByteArray × Bool)} (h : rdPair l bad = (p, l', false)) : l'.length + 17 ≤ l.length := by
  revert h
  unfold rdPair
  simp only
  generalize hq1 : rText l bad = q1
  obtain ⟨n1, l1, b1⟩ := q1
  generalize hq2 : rText l1 b1 = q2
  obtain ⟨n2, l2, b2⟩ := q2
  generalize hq3 : rByte l2 b2 = q3
  obtain ⟨n3, l3, b3⟩ := q3
  intro h
  simp only [Prod.mk.injEq] at h
  obtain ⟨_, rfl, rfl⟩ := h
  obtain ⟨rfl, rfl⟩ := rByte_inv hq3
  obtain ⟨rfl, rfl⟩ := rText_inv hq2
  obtain ⟨_, rfl⟩ := rText_inv hq1
  simp only [List.length_append, tx_length, List.length_singleton]
  omega
theorem rdSess_len {l l' : List UInt8} {bad : Bool} {x : Int × (Int × RepV)} (h : rdSess l bad = (x, l', false)) : l'.length + 17 ≤ l.length := by
  revert h
  unfold rdSess
  simp only
  generalize hq1 : rNum l bad = q1
  obtain ⟨n1, l1, b1⟩ := q1
  generalize hq2 : rNum l1 b1 = q2
  obtain ⟨n2, l2, b2⟩ := q2
  generalize hq3 : rNum l2 b2 = q3
  obtain ⟨n3, l3, b3⟩ := q3
  generalize hq4 : rText l3 b3 = q4
  obtain ⟨n4, l4, b4⟩ := q4
  intro h
  simp only [Prod.mk.injEq] at h
  obtain ⟨_, rfl, rfl⟩ := h
  obtain ⟨rfl, rfl⟩ := rText_inv hq4
  obtain ⟨rfl, rfl⟩ := rNum_inv hq3
  obtain ⟨rfl, rfl⟩ := rNum_inv hq2
  obtain ⟨_, rfl⟩ := rNum_inv hq1
  simp only [List.length_append, tx_length, be8_length]
  omega
end Go.Proofs.Ytgmjnjbmolalmaa
