/-
  A file that is read. No statement is proved here.
-/
import Derived.Test.YtjijdkdpmbfdmaaE10LDo
namespace Go.Proofs.Ytjijdkdpmbfdmaa
open Go.RowKit Tot

def setRf (w : World) (R : Nat) (x : RefV) : World := (((w.setCell ⟨R, 0, none⟩ (.string x.name)).setCell ⟨R, 1, none⟩ (.int .i64 x.kind)).setCell ⟨R, 2, none⟩ (.int .i64 x.from_)).setCell ⟨R, 3, none⟩ (.int .i64 x.to_)
theorem Rdg.endRf {w0 w : World} {F : Nat → Prop} {R b B : Nat} {l : List UInt8} {bad : Bool} {cs : Array Value} {x0 x1 x2 x3 : Value} (h : Rdg w0 w F R b B 31 l bad cs #[x0, x1, x2, x3]) (x : RefV) :
    (setRf w R x).heap[R]? = some (.cells #[.string x.name, .int .i64 x.kind, .int .i64 x.from_, .int .i64 x.to_] 31 (0, 0)) ∧ Rd (setRf w R x) F b l bad ∧ Kept (fun k => k = b) w0 (setRf w R x) := by
  have k : Kept (fun k => k = R) w (setRf w R x) := (((Kept.setCell w (by rfl) _).step (Kept.setCell _ (by rfl) _)).step (Kept.setCell _ (by rfl) _)).step (Kept.setCell _ (by rfl) _)
  refine ⟨?_, h.rd.keep k (fun i hi e => h.nR (e ▸ hi)), h.kept.trans k (fun i hi e => by have := h.lR; omega)⟩
  unfold setRf
  have h0 := heap_setCell_same w R 0 _ 31 (.string x.name) h.out
  have h1 := heap_setCell_same _ R 1 _ 31 (.int .i64 x.kind) h0
  have h2 := heap_setCell_same _ R 2 _ 31 (.int .i64 x.from_) h1
  have h3 := heap_setCell_same _ R 3 _ 31 (.int .i64 x.to_) h2
  rw [h3]
  simp

set_option maxRecDepth 100000 in
set_option maxHeartbeats 1000000 in
theorem rref_any (F : Nat → Prop) (b : Nat) (l : List UInt8) (bad : Bool) (w : World) (h : Rd w F b l bad) :
    Calls Try.prog 43 #[.pointer (some ⟨b, 0, none⟩)] w (ReadP w F b (rdRef l bad).1.val (rdRef l bad).2) := by
  have hlt := h.lt
  obtain ⟨w1, hw1⟩ : ∃ w1, w1 = (w.alloc (.cells #[.string ⟨#[]⟩, .int .i64 0, .int .i64 0, .int .i64 0] 31)).alloc (.cells #[.string ⟨#[]⟩, .int .i64 0, .int .i64 0, .int .i64 0] 31) := ⟨_, rfl⟩
  have k1 : Kept noBlock w w1 := by rw [hw1]; exact (Kept.alloc _ _ _).step (Kept.alloc _ _ _)
  have g0 : Rdg w w1 F w.heap.size b (w.heap.size + 1) 31 l bad #[.string ⟨#[]⟩, .int .i64 0, .int .i64 0, .int .i64 0] #[.string ⟨#[]⟩, .int .i64 0, .int .i64 0, .int .i64 0] :=
    ⟨k1.mono (fun _ _ h => h.elim), h.keep k1 (fun _ _ h => h), by rw [hw1]; exact (Kept.alloc noBlock _ _).blk (heap_alloc_new w _) (fun h => h), by
      rw [hw1]
      have := heap_alloc_new (w.alloc (.cells #[.string ⟨#[]⟩, .int .i64 0, .int .i64 0, .int .i64 0] 31)) (.cells #[.string ⟨#[]⟩, .int .i64 0, .int .i64 0, .int .i64 0] 31)
      simpa using this, fun h => Nat.lt_irrefl _ (hlt _ h), fun h => by have := hlt _ h; omega, by omega, by omega, Nat.le_refl _⟩
  generalize hq1 : rText l bad = q1
  obtain ⟨n1, l1, b1⟩ := q1
  generalize hq2 : rByte l1 b1 = q2
  obtain ⟨n2, l2, b2⟩ := q2
  generalize hq3 : rNum l2 b2 = q3
  obtain ⟨n3, l3, b3⟩ := q3
  generalize hq4 : rNum l3 b3 = q4
  obtain ⟨n4, l4, b4⟩ := q4
  have HALL : Hid (rdRef l bad = (⟨str n1, (n2.toNat : Int), n3, n4⟩, (l4, b4))) := by unfold Hid rdRef; simp only [hq1, hq2, hq3, hq4]
  have H1 := Lib.hid hq1
  have H2 := Lib.hid hq2
  have H3 := Lib.hid hq3
  have H4 := Lib.hid hq4
  have h256 := n2.toNat_lt
  obtain ⟨m2, hm2⟩ : ∃ m, m = n2.toNat := ⟨_, rfl⟩
  clear hq1 hq2 hq3 hq4 h hlt k1
  go_enter Try.func43, Try.ntmps43
  go_upto_region 2 with (fail)
  rw [← hw1]
  clear hw1
  go_wp2_with fail
  refine (rtext_r g0.rd H1.out).mono ?_
  rintro e v1 ⟨rfl, r1, k1⟩
  have f1 := g0.next r1 k1
  have hf := f1.froz 0
  have hc := f1.cell 0 _ rfl
  have g1 := f1.set 0 (.string (str n1))
  clear g0 f1 r1 k1
  have HB2 := Lib.hid (rbyte_r g1.rd H2.out)
  rw [← hm2] at HB2 h256
  have HM2 := Lib.hid hm2
  clear hm2
  go_wp2_with fail
  refine HB2.out.mono ?_
  rintro e v2 ⟨rfl, r2, k2⟩
  have f2 := g1.next r2 k2
  clear hf hc HB2
  have hf := f2.froz 1
  have hc := f2.cell 1 _ rfl
  have g2 := f2.set 1 (.int .i64 (m2 : Int))
  clear g1 f2 r2 k2
  go_wp2_with fail
  refine (rnum_r g2.rd H3.out).mono ?_
  rintro e v3 ⟨rfl, r3, k3⟩
  have f3 := g2.next r3 k3
  clear hf hc
  have hf := f3.froz 2
  have hc := f3.cell 2 _ rfl
  have g3 := f3.set 2 (.int .i64 n3)
  clear g2 f3 r3 k3
  go_wp2_with fail
  refine (rnum_r g3.rd H4.out).mono ?_
  rintro e v4 ⟨rfl, r4, k4⟩
  have f4 := g3.next r4 k4
  clear hf hc
  have hf := f4.froz 3
  have hc := f4.cell 3 _ rfl
  have gz := f4.set 3 (.int .i64 n4)
  clear g3 f4 r4 k4
  go_upto_region 6 with (fail)
  generalize v4.setCell ⟨w.heap.size + 1, 3, none⟩ (.int .i64 n4) = vz at gz ⊢
  clear hf hc
  obtain ⟨y0, y1, y2, y3⟩ : vz.cell? ⟨w.heap.size + 1, 0, none⟩ = some (.string (str n1)) ∧ vz.cell? ⟨w.heap.size + 1, 1, none⟩ = some (.int .i64 (m2 : Int)) ∧ vz.cell? ⟨w.heap.size + 1, 2, none⟩ = some (.int .i64 n3) ∧ vz.cell? ⟨w.heap.size + 1, 3, none⟩ = some (.int .i64 n4) := ⟨gz.cell 0 _ rfl, gz.cell 1 _ rfl, gz.cell 2 _ rfl, gz.cell 3 _ rfl⟩
  obtain ⟨r0, r1, r2, r3⟩ := ref_cells gz.out
  have hfz : ∀ j, vz.frozen? ⟨w.heap.size, j, none⟩ = false := fun j => frozen_of_row _ _ _ _ _ gz.out
  have f0 := hfz 0
  have f1 := hfz 1
  have f2 := hfz 2
  have f3 := hfz 3
  have R := Lib.hid (gz.endRf ⟨str n1, (m2 : Int), n3, n4⟩)
  clear gz hfz
  go_wp2
  change bodyPost _ _ _ _ _ (setRf vz w.heap.size ⟨str n1, (m2 : Int), n3, n4⟩)
  generalize setRf vz w.heap.size ⟨str n1, (m2 : Int), n3, n4⟩ = v9 at R ⊢
  obtain ⟨hb9, rd9, k9⟩ := R.out
  obtain ⟨z0, z1, z2, z3⟩ := ref_cells hb9
  refine bodyPost_ret (v := RefV.val ⟨str n1, (m2 : Int), n3, n4⟩) (by simp [results, Try.results43, go_sem, RefV.val, Try.isAgg31, Try.sizeOf31, z0, z1, z2, z3]) rfl ?_
  rw [HALL.out, ← HM2.out]
  exact ⟨rfl, rd9, k9⟩
end Go.Proofs.Ytjijdkdpmbfdmaa
