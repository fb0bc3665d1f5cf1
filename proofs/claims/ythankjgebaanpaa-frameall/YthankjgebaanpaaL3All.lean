/-
  FrameAll: what it does with whatever rows and number. No statement is proved here.
-/
import Derived.Test.YthankjgebaanpaaL3Rows
import Derived.Test.YthankjgebaanpaaIterRegion
namespace Go.Proofs.Ythankjgebaanpaa
open Go.RowKit Go.Shelf
attribute [local go_sem] Oper.semAt_some

theorem Lies.steady {m : Nat} {w w' : World} {F : Nat → Prop} {a : Option Addr} {xs : List Value} (h : Lies w F a xs) (s : Steady m w w') : Lies w' F a xs := fun hx => by
  obtain ⟨ad, e, hf, hc⟩ := h hx
  refine ⟨ad, e, hf, fun j u hu => s.cell (hc j u hu) (fun hs => ?_)⟩
  obtain ⟨o, ho, hco⟩ := cells_of_cell (hc j u hu)
  obtain ⟨_, o', ho', hn⟩ := hs
  rw [ho] at ho'
  injection ho' with e'
  subst e'
  rw [hco] at hn
  cases hn

/-- Where the loop is. -/
structure Going (w : World) (B2 B3 B4 B6 B7 : Nat) (R : Option Addr) (K rc s : Nat) (ys : List Item) (F : Nat → Prop) (pre : List Item) (W : World) : Prop where
  rs : W.heap[B2]? = some (.cells #[.slice R K rc] 32 (0, 0))
  stop : W.heap[B3]? = some (.cells #[.int .u8 (s : Int)] 5 (0, 0))
  res : W.heap[B4]? = some (.cells #[.bool false] 4 (0, 0))
  k : W.heap[B6]? = some (.cells #[.int .i64 (pre.length : Nat)] 3 (0, 0))
  last : W.heap[B7]? = some (.cells #[.int .i64 ((joined (rowsOf pre)).length : Nat)] 3 (0, 0))
  row : W.ownsRow 0 22 1 (.slice R K rc) K (ys.map Item.val)
  lies : ∀ y ∈ ys, Lies W F y.A (y.row.map bv)
  kept : Kept noBlock w W
theorem Going.steady {w : World} {B2 B3 B4 B6 B7 : Nat} {R : Option Addr} {K rc s m : Nat} {ys : List Item} {F : Nat → Prop} {pre : List Item} {A B : World} (hm : w.heap.size ≤ m) (h : Going w B2 B3 B4 B6 B7 R K rc s ys F pre A) (st : Steady m A B) :
    Going w B2 B3 B4 B6 B7 R K rc s ys F pre B :=
  ⟨blk_steady h.rs st, blk_steady h.stop st, blk_steady h.res st, blk_steady h.k st, blk_steady h.last st, own_steady h.row st, fun y hy => (h.lies y hy).steady st, h.kept.trans st (fun i hi h => absurd h.1 (by omega))⟩
/-- One row more. -/
theorem Going.next {w : World} {B2 B3 B4 B6 B7 Bb m : Nat} {R : Option Addr} {K rc s : Nat} {ys : List Item} {F : Nat → Prop} {pre : List Item} {x : Item} {W : World} (hF : ∀ i, F i → i < w.heap.size) (h6 : w.heap.size ≤ B6) (h7 : w.heap.size ≤ B7) (h67 : B6 ≠ B7)
    (n6 : Bb ≠ B6) (n7 : Bb ≠ B7) (h26 : B2 ≠ B6) (h27 : B2 ≠ B7) (h36 : B3 ≠ B6) (h37 : B3 ≠ B7) (h46 : B4 ≠ B6) (h47 : B4 ≠ B7) (hat : x.at_ = (joined (rowsOf (pre ++ [x]))).length) (h : Going w B2 B3 B4 B6 B7 R K rc s ys F pre W) :
    let W' := (W.setCell ⟨B6, 0, none⟩ (.int .i64 ((pre.length : Int) + 1))).setCell ⟨B7, 0, none⟩ (.int .i64 (x.at_ : Int))
    KeepsFrom m W W' ∧ Held Bb W W' ∧ Going w B2 B3 B4 B6 B7 R K rc s ys F (pre ++ [x]) W' := by
  intro W'
  have kk : Kept (fun k => k = B6 ∨ k = B7) W W' := (Kept.setCell W (.inl rfl) _).step (Kept.setCell _ (.inr rfl) _)
  have blk : ∀ {b : Nat} {o : Obj}, W.heap[b]? = some o → b ≠ B6 → b ≠ B7 → W'.heap[b]? = some o := fun hb h1 h2 => kk.blk hb (fun h => h.elim h1 h2)
  refine ⟨keepsFrom_of kk ?_, held_of kk ?_, ⟨blk h.rs h26 h27, blk h.stop h36 h37, blk h.res h46 h47, ?_, ?_, ?_, fun y hy => (h.lies y hy).keep kk (fun i hi hs => ?_), h.kept.trans kk (fun i hi hs => ?_)⟩⟩
  · rintro k (rfl | rfl)
    · exact ⟨_, _, _, h.k⟩
    · exact ⟨_, _, _, h.last⟩
  · rintro k (rfl | rfl)
    · exact ⟨Ne.symm n6, _, _, _, h.k, by decide, by decide⟩
    · exact ⟨Ne.symm n7, _, _, _, h.last, by decide, by decide⟩
  · show ((W.setCell ⟨B6, 0, none⟩ _).setCell ⟨B7, 0, none⟩ _).heap[B6]? = _
    rw [heap_setCell_other _ _ _ _ (by simpa using h67)]
    have := heap_setCell_same W B6 0 _ 3 (.int .i64 ((pre.length : Int) + 1)) h.k
    refine Eq.trans this ?_
    simp
  · have b7 : (W.setCell ⟨B6, 0, none⟩ (.int .i64 ((pre.length : Int) + 1))).heap[B7]? = some (.cells #[.int .i64 ((joined (rowsOf pre)).length : Nat)] 3 (0, 0)) := by
      rw [heap_setCell_other _ _ _ _ (by simpa using Ne.symm h67)]
      exact h.last
    have := heap_setCell_same _ B7 0 _ 3 (.int .i64 (x.at_ : Int)) b7
    rw [← hat]
    refine Eq.trans this ?_
    simp
  · refine own_keep h.row kk (fun i hi hs => ?_)
    rcases hs with rfl | rfl
    · exact own_ne h.row h.k (by decide) hi
    · exact own_ne h.row h.last (by decide) hi
  · have := hF i hi
    rcases hs with rfl | rfl <;> omega
  · rcases hs with rfl | rfl <;> omega

theorem results_bool {fn : Func} (h : fn.results = #[.cell 4 4]) (tmps : Array Value) (w : World) (B : Nat) (v : Value) (hp : tmps.getD 4 undef = .pointer (some ⟨B, 0, none⟩)) (hc : w.cell? ⟨B, 0, none⟩ = some v) : (results fn tmps).run Try.prog w = .ok v w := by
  have hp' : tmps[4]?.getD undef = .pointer (some ⟨B, 0, none⟩) := by simpa using hp
  have hl : (loadVar 4 ⟨B, 0, none⟩).run Try.prog w = .ok v w := by
    simp [loadVar, run_isAgg_plain (P := Try.prog) (t := 4) Try.underlying4 rfl, hc, go_sem]
  simp [results, h, hp', asAddr, hl]

set_option maxRecDepth 100000 in
set_option maxHeartbeats 2000000 in
theorem all_walk (F : Nat → Prop) (a : Option Addr) (n c : Nat) (xs : List Item) (y : UInt8) (w : World) (hF : ∀ i, F i → i < w.heap.size) (h : Lies w F a (xs.map Item.val)) (hx : ∀ x ∈ xs, x.lies F w) (hl : xs.length = n) (hc : n ≤ c) (hm : ∀ x ∈ xs, x.row.length ≤ 9223372036854775807) :
    Calls Try.prog 6 #[.slice a n c, .int .u8 (y.toNat : Int)] w fun e w' => e = .returned (.bool true) ∧ Kept noBlock w w' := by
  obtain ⟨s, hs⟩ : ∃ s, s = y.toNat := ⟨_, rfl⟩
  have hs256 : s < 256 := by rw [hs]; exact y.toNat_lt
  rw [← hs]
  clear hs
  have HM := Lib.hid hm; clear hm
  have HX := Lib.hid hx; clear hx
  have HF := Lib.hid hF; clear hF
  refine (callsIn_wide (n := 3)).1 ?_
  refine callsIn_of_wp_marks Try.func6 rfl trivial ?_ rfl
  simp only [Try.ntmps6, List.size_toArray, List.length_cons, List.length_nil, Nat.reduceAdd, Nat.reduceSub, Array.replicate_succ, Array.replicate_zero, List.push_toArray, List.append_toArray, List.nil_append, List.cons_append]
  refine wpIn_wide.2 ?_
  go_wp2_with fail
  obtain ⟨B2, hB2⟩ : ∃ B, B = w.heap.size := ⟨_, rfl⟩
  obtain ⟨B3, hB3⟩ : ∃ B, B = w.heap.size + 1 := ⟨_, rfl⟩
  obtain ⟨B4, hB4⟩ : ∃ B, B = w.heap.size + 1 + 1 := ⟨_, rfl⟩
  have a2 : (((w.alloc (.cells #[.slice a n c] 32)).alloc (.cells #[.int .u8 (s : Int)] 5)).alloc (.cells #[.bool false] 4)).heap[B2]? = some (.cells #[.slice a n c] 32 (0, 0)) := by
    rw [hB2]; exact (Below.heap_alloc _ _ _ (by simp; omega)).trans (heap_alloc2_old _ _ _)
  have a3 : (((w.alloc (.cells #[.slice a n c] 32)).alloc (.cells #[.int .u8 (s : Int)] 5)).alloc (.cells #[.bool false] 4)).heap[B3]? = some (.cells #[.int .u8 (s : Int)] 5 (0, 0)) := by
    rw [hB3]; exact (Below.heap_alloc _ _ _ (by simp)).trans (heap_alloc2_new _ _ _)
  have a4 : (((w.alloc (.cells #[.slice a n c] 32)).alloc (.cells #[.int .u8 (s : Int)] 5)).alloc (.cells #[.bool false] 4)).heap[B4]? = some (.cells #[.bool false] 4 (0, 0)) := by
    have := heap_alloc_new ((w.alloc (.cells #[.slice a n c] 32)).alloc (.cells #[.int .u8 (s : Int)] 5)) (.cells #[.bool false] 4)
    rw [World.size_alloc, World.size_alloc] at this
    rw [hB4]; exact this
  have k0 : Kept noBlock w (((w.alloc (.cells #[.slice a n c] 32)).alloc (.cells #[.int .u8 (s : Int)] 5)).alloc (.cells #[.bool false] 4)) := ((Kept.alloc _ _ _).step (Kept.alloc _ _ _)).step (Kept.alloc _ _ _)
  have hsz0 : (((w.alloc (.cells #[.slice a n c] 32)).alloc (.cells #[.int .u8 (s : Int)] 5)).alloc (.cells #[.bool false] 4)).heap.size = w.heap.size + 3 := by simp
  rw [← hB4, ← hB3, ← hB2]
  generalize (((w.alloc (.cells #[.slice a n c] 32)).alloc (.cells #[.int .u8 (s : Int)] 5)).alloc (.cells #[.bool false] 4)) = w0 at a2 a3 a4 k0 hsz0 ⊢
  refine (awake_any w0).mono ?_
  rintro e w1 ⟨rfl, k1⟩
  have b2 := k1.blk a2 (fun h => h)
  have b3 := k1.blk a3 (fun h => h)
  have b4 := k1.blk a4 (fun h => h)
  have hc2 : w1.cell? ⟨B2, 0, none⟩ = some (.slice a n c) := cell_of_row _ _ _ _ _ _ b2
  have G2 := Lib.hid b2; clear b2 a2
  have G3 := Lib.hid b3; clear b3 a3
  have G4 := Lib.hid b4; clear b4 a4
  have HB2 := Lib.hid hB2; clear hB2
  have HB3 := Lib.hid hB3; clear hB3
  have HB4 := Lib.hid hB4; clear hB4
  have HSZ := Lib.hid hsz0; clear hsz0
  have K1 := Lib.hid (k0.step k1)
  have HS1 : Hid (w.heap.size + 3 ≤ w1.heap.size) := Lib.hid (by have := k1.size; have := HSZ.out; omega)
  clear k0 k1
  go_wp2_with fail
  refine (few_any F a n c xs w1 (h.keep K1.out (fun _ _ h => h)) (fun x hx => (HX.out x hx).keep K1.out) hl hc HM.out).mono ?_
  rintro e w2 ⟨R, rc, ys, rfl, o2, l2, hy30, hy3, k2⟩
  have HO2 := Lib.hid o2; clear o2
  have HL2 := Lib.hid l2; clear l2
  have HY3 := Lib.hid hy3; clear hy3
  obtain ⟨K, hK⟩ : ∃ K, K = ys.length := ⟨_, rfl⟩
  rw [← hK] at HO2 hy30 ⊢
  have HK := Lib.hid hK; clear hK h HX HM hc2
  have b2 := k2.blk G2.out (fun h => h)
  have hc2 : w2.cell? ⟨B2, 0, none⟩ = some (.slice a n c) := cell_of_row _ _ _ _ _ _ b2
  have hf2 : w2.frozen? ⟨B2, 0, none⟩ = false := frozen_of_row _ _ _ _ _ b2
  have bs2 := heap_setCell_same w2 B2 0 _ _ (.slice R K rc) b2
  have n2 := own_ne HO2.out b2 (by decide)
  have ks : Kept (fun i => i = B2) w2 (w2.setCell ⟨B2, 0, none⟩ (.slice R K rc)) := Kept.setCell (S := fun i => i = B2) w2 (by rfl) _
  have HO3 := Lib.hid (own_keep HO2.out ks (fun i hi e => n2 (e ▸ hi)))
  have HL3 : Hid (∀ y ∈ ys, y.lies F (w2.setCell ⟨B2, 0, none⟩ (.slice R K rc))) := Lib.hid (fun y hy => ⟨(HL2.out y hy).cells.keep ks (fun i hi e => by have := HF.out i hi; have := HB2.out; omega), (HL2.out y hy).cap⟩)
  have G2' : Hid ((w2.setCell ⟨B2, 0, none⟩ (.slice R K rc)).heap[B2]? = some (.cells #[.slice R K rc] 32 (0, 0))) := Lib.hid (by simpa using bs2)
  have hc2' : (w2.setCell ⟨B2, 0, none⟩ (.slice R K rc)).cell? ⟨B2, 0, none⟩ = some (.slice R K rc) := cell_of_row _ _ _ _ _ _ G2'.out
  have k2s : Kept (fun i => i = B2) w1 (w2.setCell ⟨B2, 0, none⟩ (.slice R K rc)) := (k2.mono (fun _ _ h => h.elim)).step ks
  have G3' := Lib.hid (k2s.blk G3.out (by have := HB2.out; have := HB3.out; omega))
  have G4' := Lib.hid (k2s.blk G4.out (by have := HB2.out; have := HB4.out; omega))
  have K3 : Hid (Kept noBlock w (w2.setCell ⟨B2, 0, none⟩ (.slice R K rc))) := Lib.hid (K1.out.trans k2s (fun i hi h => by have := HB2.out; omega))
  have HS3 : Hid (w.heap.size + 3 ≤ (w2.setCell ⟨B2, 0, none⟩ (.slice R K rc)).heap.size) := Lib.hid (by have := k2s.size; have := HS1.out; omega)
  clear b2 bs2 n2 ks k2s k2 HO2 HL2 G2 G3 G4
  go_wp2_with fail
  clear hc2 hf2
  generalize w2.setCell ⟨B2, 0, none⟩ (.slice R K rc) = w3 at HO3 HL3 G2' G3' G4' hc2' K3 HS3 ⊢
  refine (join_any F R K rc ys w3 (Lies.of_own HO3.out (fun _ _ => trivial)) HL3.out HK.out.symm hy30 HY3.out).mono ?_
  rintro e w4 ⟨Rb, bc, N, rfl, hN, o4, k4⟩
  have hNb : N ≤ 9270 := by
    have := joined_le (rowsOf ys) (fun r hr => by obtain ⟨y, hy, rfl⟩ := List.mem_map.1 hr; exact HY3.out y hy)
    rw [rowsOf_length, ← HK.out] at this
    omega
  have HN := Lib.hid hN; clear hN hc2'
  have HO4 := Lib.hid o4; clear o4
  go_wp2_with fail
  obtain ⟨B6, hB6⟩ : ∃ B, B = w4.heap.size := ⟨_, rfl⟩
  obtain ⟨B7, hB7⟩ : ∃ B, B = w4.heap.size + 1 := ⟨_, rfl⟩
  have a6 : ((w4.alloc (.cells #[.int .i64 0] 3)).alloc (.cells #[.int .i64 0] 3)).heap[B6]? = some (.cells #[.int .i64 0] 3 (0, 0)) := by rw [hB6]; exact heap_alloc2_old _ _ _
  have a7 : ((w4.alloc (.cells #[.int .i64 0] 3)).alloc (.cells #[.int .i64 0] 3)).heap[B7]? = some (.cells #[.int .i64 0] 3 (0, 0)) := by rw [hB7]; exact heap_alloc2_new _ _ _
  have k5 : Kept noBlock w4 ((w4.alloc (.cells #[.int .i64 0] 3)).alloc (.cells #[.int .i64 0] 3)) := (Kept.alloc _ _ _).step (Kept.alloc _ _ _)
  have hsz5 : ((w4.alloc (.cells #[.int .i64 0] 3)).alloc (.cells #[.int .i64 0] 3)).heap.size = w4.heap.size + 2 := by simp
  rw [← hB7, ← hB6]
  generalize ((w4.alloc (.cells #[.int .i64 0] 3)).alloc (.cells #[.int .i64 0] 3)) = w5 at a6 a7 k5 hsz5 ⊢
  obtain ⟨b, hb⟩ : ∃ b, b = joined (rowsOf ys) := ⟨_, rfl⟩
  have lb5 : Lies w5 (fun _ => True) Rb (b.map bv) := by rw [hb]; exact (Lies.of_own HO4.out (fun _ _ => trivial)).keep k5 (fun _ _ h => h)
  have hbl : b.length = N := by rw [hb, HN.out]
  refine (all_any _ Rb N bc b w5 lb5 hbl (by omega)).mono ?_
  rintro e w6 ⟨Bb, Ab, cb, rfl, hBb, hbox, hown, k6⟩
  have k36 := (k4.step k5).step k6
  have HS4 : Hid (w.heap.size + 3 ≤ w4.heap.size) := Lib.hid (by have := k4.size; have := HS3.out; omega)
  have e2 := HB2.out
  have e3 := HB3.out
  have e4 := HB4.out
  have e5 := HS4.out
  have hlt6 : w4.heap.size + 2 ≤ w6.heap.size := by have := k6.size; omega
  have n6 : Bb ≠ B6 := by omega
  have n7 : Bb ≠ B7 := by omega
  have h67 : B6 ≠ B7 := by omega
  have h26 : B2 ≠ B6 := by omega
  have h27 : B2 ≠ B7 := by omega
  have h36 : B3 ≠ B6 := by omega
  have h37 : B3 ≠ B7 := by omega
  have h46 : B4 ≠ B6 := by omega
  have h47 : B4 ≠ B7 := by omega
  have hw6 : w.heap.size ≤ w6.heap.size := by omega
  have hwB6 : w.heap.size ≤ B6 := by omega
  have hwB4 : w.heap.size ≤ B4 := by omega
  have hwB7 : w.heap.size ≤ B7 := by omega
  have GO : Hid (Going w B2 B3 B4 B6 B7 R K rc s ys F [] w6) := Lib.hid ⟨k36.blk G2'.out (fun h => h), k36.blk G3'.out (fun h => h), k36.blk G4'.out (fun h => h), k6.blk a6 (fun h => h), k6.blk a7 (fun h => h),
    own_keep (own_base (base' := 0) HO3.out (fun _ _ => Nat.zero_le _)) k36 (fun _ _ h => h), fun y hy => (HL3.out y hy).cells.keep k36 (fun _ _ h => h), K3.out.step k36⟩
  have HBX := Lib.hid hbox
  have HOB := Lib.hid (own_base (base' := 0) hown (fun _ _ => Nat.zero_le _))
  have HBL := Lib.hid hbl
  have HBE := Lib.hid hb
  have hPy : Parted b (rowsOf ys) [] := ⟨by rw [hb, List.append_nil], fun q hq => by obtain ⟨y, hy, rfl⟩ := List.mem_map.1 hq; have := HY3.out y hy; omega⟩
  have HPY := Lib.hid hPy
  have H67 := Lib.hid h67
  clear a6 a7 k5 hsz5 lb5 hbl hb hbox hown k6 k36 k4 HO3 HL3 G2' G3' G4' K3 HS3 HO4 HN e2 e3 e4 e5 hBb hB6 hB7 HSZ K1 HS1 HB2 HB3 HB4 HS4 hPy
  obtain ⟨m, hm⟩ : ∃ m, m = s % 40 := ⟨_, rfl⟩
  have hmod : (s : Int) % 40 = (m : Int) := by omega
  have hm40 : m < 40 := by omega
  clear hm
  go_wp2_with fail
  refine (wpIn_wide (n := 3)).1 ?_
  refine wpIn_goes rfl (by omega) (gf := 25) (lb := #[.pointer (some ⟨Bb, 0, none⟩)]) rfl trivial (enters_of Try.func25 (by kernel_rfl) rfl) (all1_goes Bb Ab N cb b w6 HBX.out HOB.out HBL.out (by omega) 2) (Kept.refl _ _) (fun _ => rfl)
    Held.trans Held.putObj Handed.steady (fun pre W => Hid (Going w B2 B3 B4 B6 B7 R K rc s ys F pre W) ∧ pre.length ≤ m) (fun c pre W => c = .exit 0 ∧ Hid (Going w B2 B3 B4 B6 B7 R K rc s ys F pre W) ∧ pre.length = m + 1 ∧ pre.length ≤ K)
    (fun s A B h k => ⟨Lib.hid (h.1.out.steady hw6 k), h.2⟩) (fun c s A B h k => ⟨h.1, Lib.hid (h.2.1.out.steady hw6 k), h.2.2⟩) ⟨GO, Nat.zero_le _⟩
    (fun x => { tmps := #[Value.slice a n c, Value.int IntKind.u8 (s : Int), Value.pointer (some ⟨B2, 0, none⟩), Value.pointer (some ⟨B3, 0, none⟩), Value.pointer (some ⟨B4, 0, none⟩), Value.slice Rb N bc, Value.pointer (some ⟨B6, 0, none⟩), Value.pointer (some ⟨B7, 0, none⟩),
      .int .i64 (x.at_ : Int), Value.slice x.A x.row.length x.c, Value.bool true, Value.bool false, Value.slice a n c, Value.slice R K rc, Value.slice R K rc, Value.slice Rb N bc, Value.slice Rb N bc, .func (.func 25) #[] #[.pointer (some ⟨Bb, 0, none⟩)], .int .i64 (x.at_ : Int), Value.slice x.A x.row.length x.c, undef, undef, undef, undef, undef, undef, undef, undef, undef, undef, undef, undef, undef, undef, undef, undef, undef, undef, undef, undef, undef, undef, undef, undef, undef, undef, undef, undef, undef, undef, undef, undef, undef, undef, undef, undef, undef, undef, undef, undef], defers := [] }) ?assign ?body ?done ?stop
  case assign =>
    intro l x W K hK
    dsimp only [Item.enc]
    gi_wp2
    exact hK
  case body =>
    intro l pre x W hI hpx
    obtain ⟨hG0, hpm⟩ := hI
    dsimp only
    obtain ⟨k, hk⟩ : ∃ k, k = pre.length := ⟨_, rfl⟩
    obtain ⟨t, hPx⟩ := hpx.is
    obtain ⟨more, hmore, _⟩ := Parted.first (by rw [rd_nil]; simp) HPY.out hPx
    have hyk : (rowsOf ys)[k]? = some x.row := by
      rw [hmore, rowsOf_snoc, List.append_assoc, List.getElem?_append_right (by rw [rowsOf_length, hk]; exact Nat.le_refl _), rowsOf_length, hk, Nat.sub_self]
      rfl
    have hkK : k < K := by
      have := (List.getElem?_eq_some_iff.1 hyk).1
      rw [rowsOf_length, ← HK.out] at this
      exact this
    obtain ⟨z, hz⟩ : ∃ z, ys[k]? = some z := ⟨_, List.getElem?_eq_getElem (by rw [← HK.out]; exact hkK)⟩
    have hrow : z.row = x.row := by
      have e2 : (rowsOf ys)[k]? = some z.row := by simp [rowsOf, hz]
      rw [e2] at hyk
      injection hyk
    have hx3 : x.row.length ≤ 300 := by rw [← hrow]; exact HY3.out z (List.mem_of_getElem? hz)
    have hG := hG0.out
    obtain ⟨p, hp⟩ : ∃ p, p = (joined (rowsOf pre)).length := ⟨_, rfl⟩
    have hat : x.at_ = p + (x.row.length + 9) := by rw [hpx.end_, rowsOf_snoc, joined_snoc, List.length_append, frm_length, ← hp]
    have hpN : p ≤ 9270 := by
      have h1 := hPx.le
      rw [← hpx.end_, HBL.out] at h1
      omega
    have hend := hpx.end_
    have kd := Kept.drew noBlock W
    obtain ⟨g, cap, hv, _, _⟩ := hG.row.form (by omega)
    obtain ⟨rfl, rfl⟩ : R = some ⟨g, 0, none⟩ ∧ rc = cap := by injection hv with a b c; exact ⟨a, c⟩
    have d2 : W.drew.cell? ⟨B2, 0, none⟩ = some (.slice (some ⟨g, 0, none⟩) K rc) := cell_of_row _ _ _ _ _ _ (kd.blk hG.rs (fun h => h))
    have d6 : W.drew.cell? ⟨B6, 0, none⟩ = some (.int .i64 (k : Int)) := by rw [hk]; exact cell_of_row _ _ _ _ _ _ (kd.blk hG.k (fun h => h))
    have d7 : W.drew.cell? ⟨B7, 0, none⟩ = some (.int .i64 (p : Int)) := by rw [hp]; exact cell_of_row _ _ _ _ _ _ (kd.blk hG.last (fun h => h))
    have dz := item_cell ((Lies.of_own (F := fun _ => True) hG.row (fun _ _ => trivial)).keep kd (fun _ _ h => h)) hz
    have v1 := run_str ((Lies.of_own (F := fun _ => True) hpx.there (fun _ _ => trivial)).keep kd (fun _ _ h => h)) rfl
    have v2 := run_str ((hG.lies z (List.mem_of_getElem? hz)).keep kd (fun _ _ h => h)) rfl
    rw [hrow] at dz v2
    rw [Nat.zero_add] at dz
    have HEND := Lib.hid hend
    have HG := Lib.hid hG
    have HKE := Lib.hid hk
    have HPE := Lib.hid hp
    obtain ⟨L, hL⟩ : ∃ L, L = x.row.length := ⟨_, rfl⟩
    obtain ⟨S, hS⟩ : ∃ S, S = str x.row := ⟨_, rfl⟩
    obtain ⟨xA, hxA⟩ : ∃ xA, xA = x.A := ⟨_, rfl⟩
    obtain ⟨xc, hxc⟩ : ∃ xc, xc = x.c := ⟨_, rfl⟩
    obtain ⟨zA, hzA⟩ : ∃ zA, zA = z.A := ⟨_, rfl⟩
    obtain ⟨zc, hzc⟩ : ∃ zc, zc = z.c := ⟨_, rfl⟩
    obtain ⟨q, hq⟩ : ∃ q, q = x.at_ := ⟨_, rfl⟩
    rw [← hL, ← hzA, ← hzc] at dz
    rw [← hL, ← hxA, ← hS] at v1
    rw [← hL, ← hzA, ← hS] at v2
    rw [← hL, ← hq] at hat
    rw [← hL] at hx3
    rw [← hL, ← hxA, ← hxc, ← hq]
    have HQ := Lib.hid hq
    clear hL hS hxA hxc hzA hzc hq hrow hz hyk hmore hPx hend hG hG0 hpx hk hp hv
    have hki : (k : Int) < K := by omega
    have hge : decide ((K : Int) ≤ (k : Int)) = false := decide_eq_false (by omega)
    have hge2 : decide (K ≤ k) = false := decide_eq_false (by omega)
    have hge3 : ¬ K ≤ k := by omega
    have j1 : IntKind.i64.wrap ((p : Int) + (L : Int)) = (p : Int) + (L : Int) := by rw [IntWalk.i64_in _ (by omega)]
    have j2 : IntKind.i64.wrap ((p : Int) + (L : Int) + 9) = (q : Int) := by rw [IntWalk.i64_in _ (by omega)]; omega
    refine wpIn_block ?_
    refine wpIn_seq ?_
    refine wpIn_seq ?_
    refine wpIn_region_round (S := fun w' => w'.cell? ⟨B2, 0, none⟩ = some (.slice (some ⟨g, 0, none⟩) K rc) ∧ w'.cell? ⟨B6, 0, none⟩ = some (.int .i64 (k : Int)) ∧ w'.cell? ⟨B7, 0, none⟩ = some (.int .i64 (p : Int)) ∧ w'.cell? ⟨g, k, none⟩ = some (.slice zA L zc) ∧ (∀ c, (convert 22 9 (.slice xA L c)).run Try.prog w' = .ok (.string S) w') ∧ (∀ c, (convert 22 9 (.slice zA L c)).run Try.prog w' = .ok (.string S) w')) (by kernel_rfl) (by kernel_rfl) ⟨d2, d6, d7, dz, v1, v2⟩ (fun hHeld => ?_)
    refine wpAnyH_take (i := 0) (oi := ⟨some 20, Op.load 3 (Operand.tmp 6), 3, _, _, none⟩) (v := ?v0n1k1) rfl (by kernel_rfl) (by kernel_rfl) (by kernel_rfl) (fun _ _ _ h => h) (Or.inl ⟨by rfl, ?y0n1k1⟩) hHeld ?z0n1k1
    case y0n1k1 => intro w hSw; (try dsimp only at hSw); go_simp <;> rfl
    try simp only [Act.put, List.setIfInBounds_toArray, List.set_cons_zero, List.set_cons_succ]
    refine wpAnyH_take (i := 1) (oi := ⟨some 21, Op.load 32 (Operand.tmp 2), 32, _, _, none⟩) (v := ?v1n1k2) rfl (by kernel_rfl) (by kernel_rfl) (by kernel_rfl) (fun _ _ _ h => h) (Or.inl ⟨by rfl, ?y1n1k2⟩) hHeld ?z1n1k2
    case y1n1k2 => intro w hSw; (try dsimp only at hSw); go_simp <;> rfl
    try simp only [Act.put, List.setIfInBounds_toArray, List.set_cons_zero, List.set_cons_succ]
    refine wpAnyH_take (i := 2) (oi := ⟨some 22, Op.call { callee := Callee.builtin Builtin.len, args := #[Operand.tmp 21], argTypes := #[32] }, 3, _, _, none⟩) (v := ?v2n1k3) rfl (by kernel_rfl) (by kernel_rfl) (by kernel_rfl) (fun _ _ _ h => h) (Or.inl ⟨by rfl, ?y2n1k3⟩) hHeld ?z2n1k3
    case y2n1k3 => intro w hSw; (try dsimp only at hSw); go_simp <;> rfl
    try simp only [Act.put, List.setIfInBounds_toArray, List.set_cons_zero, List.set_cons_succ]
    refine wpAnyH_take (i := 3) (oi := ⟨some 23, Op.binOp BinOp.geq 3 (Operand.tmp 20) (Operand.tmp 22) 3, 4, _, _, none⟩) (v := ?v3n1k4) rfl (by kernel_rfl) (by kernel_rfl) (by kernel_rfl) (fun _ _ _ h => h) (Or.inl ⟨by rfl, ?y3n1k4⟩) hHeld ?z3n1k4
    case y3n1k4 => intro w hSw; (try dsimp only at hSw); go_simp <;> rfl
    try simp only [Act.put, List.setIfInBounds_toArray, List.set_cons_zero, List.set_cons_succ]
    refine wpAnyH_take (i := 4) (oi := ⟨some 24, Op.move (Operand.tmp 23), 4, _, _, none⟩) (v := ?v4n1k5) rfl (by kernel_rfl) (by kernel_rfl) (by kernel_rfl) (fun _ _ _ h => h) (Or.inl ⟨by rfl, ?y4n1k5⟩) hHeld ?z4n1k5
    case y4n1k5 => intro w hSw; (try dsimp only at hSw); go_simp <;> rfl
    try simp only [Act.put, List.setIfInBounds_toArray, List.set_cons_zero, List.set_cons_succ]
    refine wpAnyH_take (i := 5) (oi := ⟨some 25, Op.move (Operand.tmp 9), 22, _, _, some (4, false)⟩) (v := ?v5n1k6) rfl (by kernel_rfl) (by kernel_rfl) (by kernel_rfl) (fun _ _ _ h => h) (Or.inl ⟨by rfl, ?y5n1k6⟩) hHeld ?z5n1k6
    case y5n1k6 => intro w hSw; (try dsimp only at hSw); go_simp <;> rfl
    try simp only [Act.put, List.setIfInBounds_toArray, List.set_cons_zero, List.set_cons_succ]
    refine wpAnyH_take (i := 6) (oi := ⟨some 26, Op.convert 22 9 (Operand.tmp 25), 9, _, _, some (4, false)⟩) (v := ?v6n1k7) rfl (by kernel_rfl) (by kernel_rfl) (by kernel_rfl) (fun _ _ _ h => h) (Or.inl ⟨by rfl, ?y6n1k7⟩) hHeld ?z6n1k7
    case y6n1k7 => intro w hSw; (try dsimp only at hSw); go_simp <;> rfl
    try simp only [Act.put, List.setIfInBounds_toArray, List.set_cons_zero, List.set_cons_succ]
    refine wpAnyH_take (i := 7) (oi := ⟨some 27, Op.load 32 (Operand.tmp 2), 32, _, _, some (4, false)⟩) (v := ?v7n1k8) rfl (by kernel_rfl) (by kernel_rfl) (by kernel_rfl) (fun _ _ _ h => h) (Or.inl ⟨by rfl, ?y7n1k8⟩) hHeld ?z7n1k8
    case y7n1k8 => intro w hSw; (try dsimp only at hSw); go_simp <;> rfl
    try simp only [Act.put, List.setIfInBounds_toArray, List.set_cons_zero, List.set_cons_succ]
    refine wpAnyH_take (i := 8) (oi := ⟨some 28, Op.load 3 (Operand.tmp 6), 3, _, _, some (4, false)⟩) (v := ?v8n1k9) rfl (by kernel_rfl) (by kernel_rfl) (by kernel_rfl) (fun _ _ _ h => h) (Or.inl ⟨by rfl, ?y8n1k9⟩) hHeld ?z8n1k9
    case y8n1k9 => intro w hSw; (try dsimp only at hSw); go_simp <;> rfl
    try simp only [Act.put, List.setIfInBounds_toArray, List.set_cons_zero, List.set_cons_succ]
    refine wpAnyH_take (i := 9) (oi := ⟨some 29, Op.indexAddr 32 (Operand.tmp 27) (Operand.tmp 28), 0, _, _, some (4, false)⟩) (v := ?v9n1k10) rfl (by kernel_rfl) (by kernel_rfl) (by kernel_rfl) (fun _ _ _ h => h) (Or.inl ⟨by rfl, ?y9n1k10⟩) hHeld ?z9n1k10
    case y9n1k10 => intro w hSw; (try dsimp only at hSw); go_simp <;> rfl
    try simp only [Act.put, List.setIfInBounds_toArray, List.set_cons_zero, List.set_cons_succ]
    refine wpAnyH_take (i := 10) (oi := ⟨some 30, Op.load 22 (Operand.tmp 29), 22, _, _, some (4, false)⟩) (v := ?v10n1k11) rfl (by kernel_rfl) (by kernel_rfl) (by kernel_rfl) (fun _ _ _ h => h) (Or.inl ⟨by rfl, ?y10n1k11⟩) hHeld ?z10n1k11
    case y10n1k11 => intro w hSw; (try dsimp only at hSw); go_simp <;> rfl
    try simp only [Act.put, List.setIfInBounds_toArray, List.set_cons_zero, List.set_cons_succ]
    refine wpAnyH_take (i := 11) (oi := ⟨some 31, Op.convert 22 9 (Operand.tmp 30), 9, _, _, some (4, false)⟩) (v := ?v11n1k12) rfl (by kernel_rfl) (by kernel_rfl) (by kernel_rfl) (fun _ _ _ h => h) (Or.inl ⟨by rfl, ?y11n1k12⟩) hHeld ?z11n1k12
    case y11n1k12 => intro w hSw; (try dsimp only at hSw); go_simp <;> rfl
    try simp only [Act.put, List.setIfInBounds_toArray, List.set_cons_zero, List.set_cons_succ]
    refine wpAnyH_take (i := 12) (oi := ⟨some 32, Op.binOp BinOp.neq 9 (Operand.tmp 26) (Operand.tmp 31) 9, 4, _, _, some (4, false)⟩) (v := ?v12n1k13) rfl (by kernel_rfl) (by kernel_rfl) (by kernel_rfl) (fun _ _ _ h => h) (Or.inl ⟨by rfl, ?y12n1k13⟩) hHeld ?z12n1k13
    case y12n1k13 => intro w hSw; (try dsimp only at hSw); go_simp <;> rfl
    try simp only [Act.put, List.setIfInBounds_toArray, List.set_cons_zero, List.set_cons_succ]
    refine wpAnyH_take (i := 13) (oi := ⟨some 33, Op.pick (Operand.tmp 24) (Operand.const (Value.bool true)) (Operand.tmp 32), 4, _, _, none⟩) (v := ?v13n1k14) rfl (by kernel_rfl) (by kernel_rfl) (by kernel_rfl) (fun _ _ _ h => h) (Or.inl ⟨by rfl, ?y13n1k14⟩) hHeld ?z13n1k14
    case y13n1k14 => intro w hSw; (try dsimp only at hSw); go_simp <;> rfl
    try simp only [Act.put, List.setIfInBounds_toArray, List.set_cons_zero, List.set_cons_succ]
    refine wpAnyH_take (i := 14) (oi := ⟨some 34, Op.move (Operand.tmp 33), 4, _, _, none⟩) (v := ?v14n1k15) rfl (by kernel_rfl) (by kernel_rfl) (by kernel_rfl) (fun _ _ _ h => h) (Or.inl ⟨by rfl, ?y14n1k15⟩) hHeld ?z14n1k15
    case y14n1k15 => intro w hSw; (try dsimp only at hSw); go_simp <;> rfl
    try simp only [Act.put, List.setIfInBounds_toArray, List.set_cons_zero, List.set_cons_succ]
    refine wpAnyH_take (i := 15) (oi := ⟨some 35, Op.move (Operand.tmp 8), 3, _, _, some (14, false)⟩) (v := ?v15n1k16) rfl (by kernel_rfl) (by kernel_rfl) (by kernel_rfl) (fun _ _ _ h => h) (Or.inl ⟨by rfl, ?y15n1k16⟩) hHeld ?z15n1k16
    case y15n1k16 => intro w hSw; (try dsimp only at hSw); go_simp <;> rfl
    try simp only [Act.put, List.setIfInBounds_toArray, List.set_cons_zero, List.set_cons_succ]
    refine wpAnyH_take (i := 16) (oi := ⟨some 36, Op.load 3 (Operand.tmp 7), 3, _, _, some (14, false)⟩) (v := ?v16n1k17) rfl (by kernel_rfl) (by kernel_rfl) (by kernel_rfl) (fun _ _ _ h => h) (Or.inl ⟨by rfl, ?y16n1k17⟩) hHeld ?z16n1k17
    case y16n1k17 => intro w hSw; (try dsimp only at hSw); go_simp <;> rfl
    try simp only [Act.put, List.setIfInBounds_toArray, List.set_cons_zero, List.set_cons_succ]
    refine wpAnyH_take (i := 17) (oi := ⟨some 37, Op.move (Operand.tmp 9), 22, _, _, some (14, false)⟩) (v := ?v17n1k18) rfl (by kernel_rfl) (by kernel_rfl) (by kernel_rfl) (fun _ _ _ h => h) (Or.inl ⟨by rfl, ?y17n1k18⟩) hHeld ?z17n1k18
    case y17n1k18 => intro w hSw; (try dsimp only at hSw); go_simp <;> rfl
    try simp only [Act.put, List.setIfInBounds_toArray, List.set_cons_zero, List.set_cons_succ]
    refine wpAnyH_take (i := 18) (oi := ⟨some 38, Op.call { callee := Callee.builtin Builtin.len, args := #[Operand.tmp 37], argTypes := #[22] }, 3, _, _, some (14, false)⟩) (v := ?v18n1k19) rfl (by kernel_rfl) (by kernel_rfl) (by kernel_rfl) (fun _ _ _ h => h) (Or.inl ⟨by rfl, ?y18n1k19⟩) hHeld ?z18n1k19
    case y18n1k19 => intro w hSw; (try dsimp only at hSw); go_simp <;> rfl
    try simp only [Act.put, List.setIfInBounds_toArray, List.set_cons_zero, List.set_cons_succ]
    refine wpAnyH_take (i := 19) (oi := ⟨some 39, Op.binOp BinOp.add 3 (Operand.tmp 36) (Operand.tmp 38) 3, 3, _, _, some (14, false)⟩) (v := ?v19n1k20) rfl (by kernel_rfl) (by kernel_rfl) (by kernel_rfl) (fun _ _ _ h => h) (Or.inl ⟨by rfl, ?y19n1k20⟩) hHeld ?z19n1k20
    case y19n1k20 => intro w hSw; (try dsimp only at hSw); go_simp <;> rfl
    try simp only [Act.put, List.setIfInBounds_toArray, List.set_cons_zero, List.set_cons_succ]
    refine wpAnyH_take (i := 20) (oi := ⟨some 40, Op.binOp BinOp.add 3 (Operand.tmp 39) (Operand.const (Value.int IntKind.i64 9)) 3, 3, _, _, some (14, false)⟩) (v := ?v20n1k21) rfl (by kernel_rfl) (by kernel_rfl) (by kernel_rfl) (fun _ _ _ h => h) (Or.inl ⟨by rfl, ?y20n1k21⟩) hHeld ?z20n1k21
    case y20n1k21 => intro w hSw; (try dsimp only at hSw); go_simp <;> rfl
    try simp only [Act.put, List.setIfInBounds_toArray, List.set_cons_zero, List.set_cons_succ]
    refine wpAnyH_take (i := 21) (oi := ⟨some 41, Op.binOp BinOp.neq 3 (Operand.tmp 35) (Operand.tmp 40) 3, 4, _, _, some (14, false)⟩) (v := ?v21n1k22) rfl (by kernel_rfl) (by kernel_rfl) (by kernel_rfl) (fun _ _ _ h => h) (Or.inl ⟨by rfl, ?y21n1k22⟩) hHeld ?z21n1k22
    case y21n1k22 => intro w hSw; (try dsimp only at hSw); go_simp <;> rfl
    try simp only [Act.put, List.setIfInBounds_toArray, List.set_cons_zero, List.set_cons_succ]
    refine wpAnyH_take (i := 22) (oi := ⟨some 42, Op.pick (Operand.tmp 34) (Operand.const (Value.bool true)) (Operand.tmp 41), 4, _, _, none⟩) (v := ?v22n1k23) rfl (by kernel_rfl) (by kernel_rfl) (by kernel_rfl) (fun _ _ _ h => h) (Or.inl ⟨by rfl, ?y22n1k23⟩) hHeld ?z22n1k23
    case y22n1k23 => intro w hSw; (try dsimp only at hSw); go_simp <;> rfl
    try simp only [Act.put, List.setIfInBounds_toArray, List.set_cons_zero, List.set_cons_succ]
    refine wpAnyH_done (by kernel_rfl) ?_ _
    refine Ends.of ?_
    clear d2 d7 dz v1 v2 hHeld
    generalize W.drew = Wd at kd d6 ⊢
    have GD : Hid (Going w B2 B3 B4 B6 B7 (some ⟨g, 0, none⟩) K rc s ys F pre Wd) := Lib.hid (HG.out.steady (m := w6.heap.size) hw6 (Steady.of_kept kd))
    have R1 := Lib.hid (GD.out.next (x := x) (m := w6.heap.size) HF.out hwB6 hwB7 h67 n6 n7 h26 h27 h36 h37 h46 h47 HEND.out)
    rw [← HKE.out, ← HQ.out] at R1
    have f6 : Wd.frozen? ⟨B6, 0, none⟩ = false := frozen_of_row _ _ _ _ _ GD.out.k
    have b7 : (Wd.setCell ⟨B6, 0, none⟩ (.int .i64 ((k : Int) + 1))).heap[B7]? = some (.cells #[.int .i64 ((joined (rowsOf pre)).length : Nat)] 3 (0, 0)) := by
      rw [heap_setCell_other _ _ _ _ (by simpa using Ne.symm h67)]
      exact GD.out.last
    have c7 : (Wd.setCell ⟨B6, 0, none⟩ (.int .i64 ((k : Int) + 1))).cell? ⟨B7, 0, none⟩ = some (.int .i64 ((joined (rowsOf pre)).length : Nat)) := cell_of_row _ _ _ _ _ _ b7
    have f7 : (Wd.setCell ⟨B6, 0, none⟩ (.int .i64 ((k : Int) + 1))).frozen? ⟨B7, 0, none⟩ = false := frozen_of_row _ _ _ _ _ b7
    obtain ⟨W2, hW2⟩ : ∃ W2, W2 = (Wd.setCell ⟨B6, 0, none⟩ (.int .i64 ((k : Int) + 1))).setCell ⟨B7, 0, none⟩ (.int .i64 (q : Int)) := ⟨_, rfl⟩
    have c6' : W2.cell? ⟨B6, 0, none⟩ = some (.int .i64 ((k : Int) + 1)) := by
      have := cell_of_row _ _ 0 _ _ _ R1.out.2.2.k
      rw [← hW2] at this
      rw [this, List.length_append, ← HKE.out]
      simp
    have c3' : W2.cell? ⟨B3, 0, none⟩ = some (.int .u8 (s : Int)) := by rw [hW2]; exact cell_of_row _ _ 0 _ _ _ R1.out.2.2.stop
    have post : Hid (KeepsFrom w6.heap.size W W2 ∧ Held Bb W W2 ∧ Hid (Going w B2 B3 B4 B6 B7 (some ⟨g, 0, none⟩) K rc s ys F (pre ++ [x]) W2)) := by
      rw [hW2]
      exact Lib.hid ⟨(keepsFrom_of kd (fun _ h => h.elim)).trans R1.out.1, (Held.of_kept kd).trans R1.out.2.1, Lib.hid R1.out.2.2⟩
    have hlen : (pre ++ [x]).length = k + 1 := by rw [List.length_append, ← HKE.out]; rfl
    have HLEN := Lib.hid hlen
    rw [← HKE.out] at hpm
    subst hW2
    clear hlen b7 j1 j2 R1 GD hat
    by_cases hbr : m < k + 1
    · have hbi : (m : Int) < (k : Int) + 1 := by omega
      have hbd : decide ((m : Int) < (k : Int) + 1) = true := decide_eq_true hbi
      gi_wp2
      exact ⟨post.out.1, rfl, post.out.2.2, by rw [HLEN.out]; omega, by rw [HLEN.out]; omega⟩
    · have hbi : ¬ (m : Int) < (k : Int) + 1 := by omega
      have hbd : decide ((m : Int) < (k : Int) + 1) = false := decide_eq_false hbi
      gi_wp2
      exact ⟨post.out.1, post.out.2.1, post.out.2.2, by rw [HLEN.out]; omega⟩
  case done =>
    intro D us W hD hF hI hK
    obtain ⟨t, hPu, hbad⟩ := hF
    have hul : us.length = K := by
      obtain ⟨e1, _⟩ := hPu.only HPY.out hbad (by rw [rd_nil]; simp)
      rw [← rowsOf_length, e1, rowsOf_length, HK.out]
    have hum := hI.2
    rw [hul] at hum
    obtain ⟨kk, hkk⟩ : ∃ kk, kk = us.length := ⟨_, rfl⟩
    have hkK : K = kk := by omega
    subst hkK
    have hG := hI.1.out
    have d2 : W.cell? ⟨B2, 0, none⟩ = some (.slice R K rc) := cell_of_row _ _ _ _ _ _ hG.rs
    have d3 : W.cell? ⟨B3, 0, none⟩ = some (.int .u8 (s : Int)) := cell_of_row _ _ _ _ _ _ hG.stop
    have d4 : W.cell? ⟨B4, 0, none⟩ = some (.bool false) := cell_of_row _ _ _ _ _ _ hG.res
    have f4 : W.frozen? ⟨B4, 0, none⟩ = false := frozen_of_row _ _ _ _ _ hG.res
    have d6 : W.cell? ⟨B6, 0, none⟩ = some (.int .i64 (K : Int)) := by rw [hkk]; exact cell_of_row _ _ _ _ _ _ hG.k
    have HG := Lib.hid hG
    have HK2 := Lib.hid hK
    clear hG hI hK
    clear hul hkk
    go_wp2
    have b4 := heap_setCell_same W B4 0 _ _ (.bool true) HG.out.res
    have hb4 : (W.setCell ⟨B4, 0, none⟩ (.bool true)).heap[B4]? = some (.cells #[.bool true] 4 (0, 0)) := by simpa using b4
    have ks : Kept (fun i => i = B4) W (W.setCell ⟨B4, 0, none⟩ (.bool true)) := Kept.setCell (S := fun i => i = B4) W (by rfl) _
    have hKD := ks.blk HK2.out (by have := lt_of_blk HG.out.res; intro e; subst e; have h1 := HK2.out; rw [HG.out.res] at h1; cases h1)
    have st : Steady w6.heap.size (W.setCell ⟨B4, 0, none⟩ (.bool true)) ((W.setCell ⟨B4, 0, none⟩ (.bool true)).putObj D (.deferred none)) := Steady.putObj _ hD hKD rfl
    refine ⟨by simp, .inl ⟨_, _, rfl, run_takeDeferred (w := W.setCell ⟨B4, 0, none⟩ (.bool true)) hKD, ?_⟩⟩
    refine ⟨.bool true, results_bool rfl _ _ B4 _ rfl (cell_of_row _ _ _ _ _ _ (blk_steady hb4 st)), rfl, ?_⟩
    exact (HG.out.kept.trans ks (fun i hi h => by have := hwB4; omega)).trans st (fun i hi h => absurd h.1 (by omega))
  case stop =>
    intro D c pre W hD _ hIx hK
    obtain ⟨rfl, hG, hul, huK⟩ := hIx
    have hI : Hid (Going w B2 B3 B4 B6 B7 R K rc s ys F pre W) ∧ True := ⟨hG, trivial⟩
    obtain ⟨us, hus⟩ : ∃ us, us = pre := ⟨_, rfl⟩
    rw [← hus] at hI hul huK
    obtain ⟨kk, hkk⟩ : ∃ kk, kk = us.length := ⟨_, rfl⟩
    have hmin : (if (m : Int) + 1 < (K : Int) then (m : Int) + 1 else (K : Int)) = (kk : Int) := by split <;> omega
    clear hG hus
    refine wpIn_wide.2 ?_
    have hG := hI.1.out
    have d2 : W.cell? ⟨B2, 0, none⟩ = some (.slice R K rc) := cell_of_row _ _ _ _ _ _ hG.rs
    have d3 : W.cell? ⟨B3, 0, none⟩ = some (.int .u8 (s : Int)) := cell_of_row _ _ _ _ _ _ hG.stop
    have d4 : W.cell? ⟨B4, 0, none⟩ = some (.bool false) := cell_of_row _ _ _ _ _ _ hG.res
    have f4 : W.frozen? ⟨B4, 0, none⟩ = false := frozen_of_row _ _ _ _ _ hG.res
    have d6 : W.cell? ⟨B6, 0, none⟩ = some (.int .i64 (kk : Int)) := by rw [hkk]; exact cell_of_row _ _ _ _ _ _ hG.k
    have HG := Lib.hid hG
    have HK2 := Lib.hid hK
    clear hG hI hK
    clear hul hkk
    go_wp2
    have b4 := heap_setCell_same W B4 0 _ _ (.bool true) HG.out.res
    have hb4 : (W.setCell ⟨B4, 0, none⟩ (.bool true)).heap[B4]? = some (.cells #[.bool true] 4 (0, 0)) := by simpa using b4
    have ks : Kept (fun i => i = B4) W (W.setCell ⟨B4, 0, none⟩ (.bool true)) := Kept.setCell (S := fun i => i = B4) W (by rfl) _
    have hKD := ks.blk HK2.out (by have := lt_of_blk HG.out.res; intro e; subst e; have h1 := HK2.out; rw [HG.out.res] at h1; cases h1)
    have st : Steady w6.heap.size (W.setCell ⟨B4, 0, none⟩ (.bool true)) ((W.setCell ⟨B4, 0, none⟩ (.bool true)).putObj D (.deferred none)) := Steady.putObj _ hD hKD rfl
    refine ⟨by simp, .inl ⟨_, _, rfl, run_takeDeferred (w := W.setCell ⟨B4, 0, none⟩ (.bool true)) hKD, ?_⟩⟩
    refine ⟨.bool true, results_bool rfl _ _ B4 _ rfl (cell_of_row _ _ _ _ _ _ (blk_steady hb4 st)), rfl, ?_⟩
    exact (HG.out.kept.trans ks (fun i hi h => by have := hwB4; omega)).trans st (fun i hi h => absurd h.1 (by omega))

end Go.Proofs.Ythankjgebaanpaa
