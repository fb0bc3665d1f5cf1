/-
  PackApart: what it does with whatever parts. No statement is proved here.
-/
import Derived.Test.YtnenbohnbojjgaaL1Part
namespace Go.Proofs.Ytnenbohnbojjgaa
open Go.RowKit

/-- The cells of parts, one behind the other. -/
def partCells (ps : List PartV) : List Value := ps.flatMap PartV.cells
theorem partCells_at : ∀ (ps : List PartV) (k : Nat) (p : PartV), ps[k]? = some p →
    (partCells ps)[k * 3]? = some (.int .u8 (p.kind.toNat : Int)) ∧ (partCells ps)[k * 3 + 1]? = some (.int .i64 p.num) ∧ (partCells ps)[k * 3 + 2]? = some (.string p.text)
  | [], k, p, h => by simp at h
  | q :: r, 0, p, h => by
    obtain rfl : q = p := by simpa using h
    simp [partCells, PartV.cells]
  | q :: r, k + 1, p, h => by
    have ih := partCells_at r k p (by simpa using h)
    have e : partCells (q :: r) = PartV.cells q ++ partCells r := by simp [partCells]
    have e1 : (k + 1) * 3 = 3 + k * 3 := by omega
    rw [e, e1]
    have hl : (PartV.cells q).length = 3 := rfl
    refine ⟨?_, ?_, ?_⟩
    · rw [List.getElem?_append_right (by omega), hl, Nat.add_sub_cancel_left]; exact ih.1
    · rw [List.getElem?_append_right (by omega), hl, Nat.add_assoc, Nat.add_sub_cancel_left]; exact ih.2.1
    · rw [List.getElem?_append_right (by omega), hl, Nat.add_assoc, Nat.add_sub_cancel_left]; exact ih.2.2
/-- Parts that came in as a slice. -/
theorem parts_cell {w : World} {F : Nat → Prop} {a : Option Addr} {ps : List PartV} (h : Lies w F a (partCells ps)) {k : Nat} {p : PartV} (hp : ps[k]? = some p) :
    ∃ b o, a = some ⟨b, o, none⟩ ∧ w.cell? ⟨b, o + k * 3, none⟩ = some (.int .u8 (p.kind.toNat : Int)) ∧ w.cell? ⟨b, o + k * 3 + 1, none⟩ = some (.int .i64 p.num) ∧ w.cell? ⟨b, o + k * 3 + 2, none⟩ = some (.string p.text) := by
  obtain ⟨c0, c1, c2⟩ := partCells_at ps k p hp
  obtain ⟨b, o, rfl, _, hc⟩ := h.norm (by intro e; rw [e] at c0; simp at c0)
  exact ⟨b, o, rfl, hc _ _ c0, hc _ _ c1, hc _ _ c2⟩
theorem partCells_take (ps : List PartV) (n : Nat) : partCells (ps.take n) = (partCells ps).take (n * 3) := by
  induction ps generalizing n with
  | nil => simp [partCells]
  | cons p r ih =>
    cases n with
    | zero => simp [partCells]
    | succ n =>
      have e : ∀ l : List PartV, partCells (p :: l) = PartV.cells p ++ partCells l := fun l => by simp [partCells]
      have hl : (PartV.cells p).length = 3 := rfl
      have h3 : (PartV.cells p).take ((n + 1) * 3) = PartV.cells p := List.take_of_length_le (by omega)
      rw [List.take_succ_cons, e, e, ih, List.take_append, hl, h3, show (n + 1) * 3 - 3 = n * 3 by omega]
theorem parts_take {w : World} {F : Nat → Prop} {a : Option Addr} {ps : List PartV} (h : Lies w F a (partCells ps)) (n : Nat) : Lies w F a (partCells (ps.take n)) := by
  rw [partCells_take]
  exact h.take _
/-- The bytes of parts. -/
def laid (ps : List PartV) : List UInt8 := ps.flatMap PartV.bytes
theorem laid_snoc (ps : List PartV) (k : Nat) (p : PartV) (h : ps[k]? = some p) : laid (ps.take (k + 1)) = laid (ps.take k) ++ p.bytes := by
  rw [take_snoc ps k p h]
  simp [laid]
theorem laid_length (ps : List PartV) (h : ∀ p ∈ ps, p.ok) : (laid ps).length ≤ 1048584 * ps.length := by
  induction ps with
  | nil => simp [laid]
  | cons p r ih =>
    have e : laid (p :: r) = p.bytes ++ laid r := by simp [laid]
    have h1 := p.bytes_length (h p (by simp))
    have h2 := ih (fun q hq => h q (by simp [hq]))
    rw [e, List.length_append, List.length_cons]
    omega

/-- Three Writers, apart from one another, in blocks that came behind w1. -/
def Three (w1 w : World) (bx by' bz : Nat) (X Y Z : List UInt8) : Prop :=
  ∃ Fx Fy Fz : Nat → Prop, Wr w Fx bx X ∧ Wr w Fy by' Y ∧ Wr w Fz bz Z ∧ (∀ i, Fx i → ¬ Fy i) ∧ (∀ i, Fx i → ¬ Fz i) ∧ (∀ i, Fy i → ¬ Fz i) ∧ (∀ i, Fx i → w1.heap.size ≤ i) ∧ (∀ i, Fy i → w1.heap.size ≤ i) ∧ (∀ i, Fz i → w1.heap.size ≤ i) ∧ Kept noBlock w1 w
theorem Three.quiet {w1 w w2 : World} {bx by' bz : Nat} {X Y Z : List UInt8} (h : Three w1 w bx by' bz X Y Z) (k : Kept noBlock w w2) : Three w1 w2 bx by' bz X Y Z := by
  obtain ⟨Fx, Fy, Fz, hx, hy, hz, d1, d2, d3, l1, l2, l3, k0⟩ := h
  exact ⟨Fx, Fy, Fz, hx.keep k (fun _ _ h => h), hy.keep k (fun _ _ h => h), hz.keep k (fun _ _ h => h), d1, d2, d3, l1, l2, l3, k0.step k⟩
theorem Three.turn {w1 w : World} {bx by' bz : Nat} {X Y Z : List UInt8} (h : Three w1 w bx by' bz X Y Z) : Three w1 w by' bz bx Y Z X := by
  obtain ⟨Fx, Fy, Fz, hx, hy, hz, d1, d2, d3, l1, l2, l3, k0⟩ := h
  exact ⟨Fy, Fz, Fx, hy, hz, hx, d3, fun i h1 h2 => d1 i h2 h1, fun i h1 h2 => d2 i h2 h1, l2, l3, l1, k0⟩
theorem Three.step {w1 w : World} {bx by' bz : Nat} {X Y Z : List UInt8} (h : Three w1 w bx by' bz X Y Z) :
    ∃ F, Wr w F bx X ∧ ∀ w2 X2, Kept F w w2 ∧ Wr w2 (fun k => F k ∨ fresh w w2 k) bx X2 → Three w1 w2 bx by' bz X2 Y Z := by
  obtain ⟨Fx, Fy, Fz, hx, hy, hz, d1, d2, d3, l1, l2, l3, k0⟩ := h
  refine ⟨Fx, hx, fun w2 X2 r => ⟨_, Fy, Fz, r.2, hy.keep r.1 (fun i h1 h2 => d1 i h2 h1), hz.keep r.1 (fun i h1 h2 => d2 i h2 h1), fun i h1 h2 => ?_, fun i h1 h2 => ?_, d3, fun i h1 => ?_, l2, l3, k0.trans r.1 (fun i hi h => absurd (l1 i h) (by omega))⟩⟩
  · rcases h1 with h1 | h1
    · exact d1 i h1 h2
    · have := hy.lt i h2; have := h1.1; omega
  · rcases h1 with h1 | h1
    · exact d2 i h1 h2
    · have := hz.lt i h2; have := h1.1; omega
  · rcases h1 with h1 | h1
    · exact l1 i h1
    · exact Nat.le_trans k0.size h1.1
theorem Three.new (w1 : World) : Three w1 (((w1.alloc (.cells #[.slice none 0 0] 27)).alloc (.cells #[.slice none 0 0] 27)).alloc (.cells #[.slice none 0 0] 27)) w1.heap.size (w1.heap.size + 1) (w1.heap.size + 1 + 1) [] [] [] := by
  have hx := ((Wr.new w1).keep (Kept.alloc noBlock _ (.cells #[.slice none 0 0] 27)) (fun _ _ h => h)).keep (Kept.alloc noBlock _ (.cells #[.slice none 0 0] 27)) (fun _ _ h => h)
  have hy := (Wr.new (w1.alloc (.cells #[.slice none 0 0] 27))).keep (Kept.alloc noBlock _ (.cells #[.slice none 0 0] 27)) (fun _ _ h => h)
  have hz := Wr.new ((w1.alloc (.cells #[.slice none 0 0] 27)).alloc (.cells #[.slice none 0 0] 27))
  rw [World.size_alloc] at hy hz
  rw [World.size_alloc] at hz
  exact ⟨_, _, _, hx, hy, hz, fun i h1 h2 => by omega, fun i h1 h2 => by omega, fun i h1 h2 => by omega, fun i h => by omega, fun i h => by omega, fun i h => by omega, ((Kept.alloc _ _ _).step (Kept.alloc _ _ _)).step (Kept.alloc _ _ _)⟩

set_option maxHeartbeats 1000000 in
theorem apart_walk (F : Nat → Prop) (a a' : Option Addr) (n c n' c' : Nat) (ps qs : List PartV) (w : World) (h : Lies w F a (partCells ps)) (h' : Lies w F a' (partCells qs)) (hl : ps.length = n) (hl' : qs.length = n') (hnc : n ≤ c) (hnc' : n' ≤ c')
    (hn : n ≤ 1048576) (hn' : n' ≤ 1048576) (hp : ∀ p ∈ ps, p.ok) (hq : ∀ p ∈ qs, p.ok) :
    Calls Try.prog 6 #[.slice a n c, .slice a' n' c'] w fun e w' => e = .returned (.bool true) ∧ Kept noBlock w w' := by
  go_enter Try.func6, Try.ntmps6
  go_wp2_with fail
  refine (awake_any w).mono ?_
  rintro e w1 ⟨rfl, k1⟩
  go_upto_region 4 with (fail)
  have h3 := Three.new w1
  generalize ((w1.alloc (.cells #[.slice none 0 0] 27)).alloc (.cells #[.slice none 0 0] 27)).alloc (.cells #[.slice none 0 0] 27) = w2 at h3 ⊢
  generalize hbx : w1.heap.size = bx at h3 ⊢
  generalize hby : bx + 1 = by' at h3 ⊢
  generalize hbz : by' + 1 = bz at h3 ⊢
  clear hbx hby hbz
  go_cut [24, 25, 26] (fun s t i wc => w2 = wc ∧ s = .slice a (min n 60) c ∧ t = .int .i64 ((min n 60 : Nat) : Int) ∧ i = .int .i64 0)
  case first =>
    go_wp2
    all_goals
      go_meet
      case rel => exact ⟨rfl, by congr 1; omega, by go_num, rfl⟩
  case rest =>
    obtain ⟨rfl, rfl, rfl, rfl⟩ := hcut
    obtain ⟨us, hus⟩ : ∃ us, us = ps.take (min n 60) := ⟨_, rfl⟩
    have hul : min n 60 = us.length := by rw [hus, List.length_take]; omega
    have hu60 : us.length ≤ 60 := by omega
    have huo : ∀ p ∈ us, p.ok := fun p hm => hp p (by rw [hus] at hm; exact List.mem_of_mem_take hm)
    have hu : Lies w1 F a (partCells us) := by rw [hus]; exact (parts_take h _).keep k1 (fun _ _ h => h)
    rw [hul]
    clear hus hul h hp
    go_wp2
    go_loopw [26] (fun i wr => ∃ (k : Nat), k ≤ us.length ∧ i = .int .i64 k ∧ Three w1 wr bx by' bz (laid (us.take k)) [] (laid (us.take k))) (fun i _ => us.length - (intOf i).toNat)
    case atStart => exact ⟨0, by omega, rfl, h3⟩
    case round =>
      obtain ⟨k, hk, rfl, hT⟩ := hrel
      by_cases hlt : k < us.length
      · obtain ⟨p, hpk⟩ : ∃ p, us[k]? = some p := ⟨_, List.getElem?_eq_getElem hlt⟩
        have hkept : Kept noBlock w1 wr := by obtain ⟨_, _, _, _, _, _, _, _, _, _, _, _, k0⟩ := hT; exact k0
        obtain ⟨ba, oa, rfl, c0, c1, c2⟩ := parts_cell (hu.keep hkept (fun _ _ h => h)) hpk
        have hok := huo p (List.mem_of_getElem? hpk)
        have HX := Lib.hid hpk
        clear hpk
        have hbl := laid_length (us.take k) (fun q hq => huo q (List.mem_of_mem_take hq))
        have hbp := p.bytes_length hok
        have hkl : (us.take k).length ≤ 60 := by rw [List.length_take]; omega
        obtain ⟨Fx, hFx, stepx⟩ := hT.step
        have hsx : ∀ i, Fx i → i < wr.heap.size := hFx.lt
        go_wp2_with fail
        refine (lay_any bx Fx _ p _ (hFx.keep (Kept.alloc noBlock wr _) (fun _ _ h => h)) (by omega)).mono ?_
        rintro e w3 ⟨rfl, r3⟩
        have hg3 := r3.1.blk (heap_alloc_new wr _) (fun h => by have := hsx _ h; omega)
        have d0 : w3.cell? ⟨wr.heap.size, 0, none⟩ = some (.int .u8 (p.kind.toNat : Int)) := cell_of_row _ _ _ _ _ _ hg3
        have d1 : w3.cell? ⟨wr.heap.size, 1, none⟩ = some (.int .i64 p.num) := cell_of_row _ _ _ _ _ _ hg3
        have d2 : w3.cell? ⟨wr.heap.size, 2, none⟩ = some (.string p.text) := cell_of_row _ _ _ _ _ _ hg3
        have T3 := stepx w3 _ (Wr.after (Kept.alloc noBlock wr _) hsx r3)
        rw [← laid_snoc us k p HX.out] at T3
        obtain ⟨Fz, hFz, stepz⟩ := T3.turn.turn.step
        clear hg3 r3 stepx hFx hT c0 c1 c2
        go_wp2_with fail
        refine (lay_any bz Fz _ p _ hFz (by omega)).mono ?_
        rintro e w4 ⟨rfl, r4⟩
        have T4 := (stepz w4 _ r4).turn
        rw [← laid_snoc us k p HX.out] at T4
        clear r4 stepz hFz T3 d0 d1 d2
        go_wp2
        go_roundw
        case rel => exact ⟨k + 1, by omega, by go_num, T4⟩
        case measure => simp [intOf]; omega
      · obtain rfl : k = us.length := by omega
        rw [List.take_length] at hT
        have hlu := laid_length us huo
        obtain ⟨X, hX⟩ : ∃ X, X = laid us := ⟨_, rfl⟩
        have hXl : X.length ≤ 62915040 := by rw [hX]; omega
        rw [← hX] at hT
        have hkept1 : Kept noBlock w1 wr := by obtain ⟨_, _, _, _, _, _, _, _, _, _, _, _, k0⟩ := hT; exact k0
        clear hX hlu
        go_upto_region 10 with (fail)
        go_cut [41, 42, 43] (fun s t i wc => wr = wc ∧ s = .slice a' (min n' 60) c' ∧ t = .int .i64 ((min n' 60 : Nat) : Int) ∧ i = .int .i64 0)
        case first =>
          go_wp2
          all_goals
            go_meet
            case rel => exact ⟨rfl, by congr 1; omega, by go_num, rfl⟩
        case rest =>
          obtain ⟨rfl, rfl, rfl, rfl⟩ := hcut
          obtain ⟨vs, hvs⟩ : ∃ vs, vs = qs.take (min n' 60) := ⟨_, rfl⟩
          have hvl : min n' 60 = vs.length := by rw [hvs, List.length_take]; omega
          have hv60 : vs.length ≤ 60 := by omega
          have hvo : ∀ p ∈ vs, p.ok := fun p hm => hq p (by rw [hvs] at hm; exact List.mem_of_mem_take hm)
          have hv : Lies w1 F a' (partCells vs) := by rw [hvs]; exact (parts_take h' _).keep k1 (fun _ _ h => h)
          rw [hvl]
          clear hvs hvl h' hq
          go_wp2
          go_loopw [43] (fun i wr => ∃ (k : Nat), k ≤ vs.length ∧ i = .int .i64 k ∧ Three w1 wr bx by' bz X (laid (vs.take k)) (X ++ laid (vs.take k))) (fun i _ => vs.length - (intOf i).toNat)
          case atStart => exact ⟨0, by omega, rfl, by simpa [laid] using hT⟩
          case round =>
            obtain ⟨k, hk, rfl, hT⟩ := hrel
            by_cases hlt : k < vs.length
            · obtain ⟨p, hpk⟩ : ∃ p, vs[k]? = some p := ⟨_, List.getElem?_eq_getElem hlt⟩
              have hkept : Kept noBlock w1 wr := by obtain ⟨_, _, _, _, _, _, _, _, _, _, _, _, k0⟩ := hT; exact k0
              obtain ⟨ba, oa, rfl, c0, c1, c2⟩ := parts_cell (hv.keep hkept (fun _ _ h => h)) hpk
              have hok := hvo p (List.mem_of_getElem? hpk)
              have HX := Lib.hid hpk
              clear hpk
              have hbl := laid_length (vs.take k) (fun q hq => hvo q (List.mem_of_mem_take hq))
              have hbp := p.bytes_length hok
              have hkl : (vs.take k).length ≤ 60 := by rw [List.length_take]; omega
              obtain ⟨Fx, hFx, stepx⟩ := hT.turn.step
              have hsx : ∀ i, Fx i → i < wr.heap.size := hFx.lt
              go_wp2_with fail
              refine (lay_any by' Fx _ p _ (hFx.keep (Kept.alloc noBlock wr _) (fun _ _ h => h)) (by omega)).mono ?_
              rintro e w3 ⟨rfl, r3⟩
              have hg3 := r3.1.blk (heap_alloc_new wr _) (fun h => by have := hsx _ h; omega)
              have d0 : w3.cell? ⟨wr.heap.size, 0, none⟩ = some (.int .u8 (p.kind.toNat : Int)) := cell_of_row _ _ _ _ _ _ hg3
              have d1 : w3.cell? ⟨wr.heap.size, 1, none⟩ = some (.int .i64 p.num) := cell_of_row _ _ _ _ _ _ hg3
              have d2 : w3.cell? ⟨wr.heap.size, 2, none⟩ = some (.string p.text) := cell_of_row _ _ _ _ _ _ hg3
              have T3 := stepx w3 _ (Wr.after (Kept.alloc noBlock wr _) hsx r3)
              rw [← laid_snoc vs k p HX.out] at T3
              obtain ⟨Fz, hFz, stepz⟩ := T3.turn.step
              clear hg3 r3 stepx hFx hT c0 c1 c2
              go_wp2_with fail
              refine (lay_any bz Fz _ p _ hFz (by rw [List.length_append]; omega)).mono ?_
              rintro e w4 ⟨rfl, r4⟩
              have T4 := (stepz w4 _ r4).turn
              rw [List.append_assoc, ← laid_snoc vs k p HX.out] at T4
              clear r4 stepz hFz T3 d0 d1 d2
              go_wp2
              go_roundw
              case rel => exact ⟨k + 1, by omega, by go_num, T4⟩
              case measure => simp [intOf]; omega
            · obtain rfl : k = vs.length := by omega
              rw [List.take_length] at hT
              have hlv := laid_length vs hvo
              obtain ⟨Y, hY⟩ : ∃ Y, Y = laid vs := ⟨_, rfl⟩
              have hYl : Y.length ≤ 62915040 := by rw [hY]; omega
              rw [← hY] at hT
              clear hY hlv
              go_upto_region 16 with (fail)
              have hTd := hT.quiet (Kept.drew noBlock wr)
              obtain ⟨Z, hZ⟩ : ∃ Z, Z = X ++ Y := ⟨_, rfl⟩
              have hZl : Z.length ≤ 125830080 := by rw [hZ, List.length_append]; omega
              rw [← hZ] at hTd
              obtain ⟨Sx, hSx⟩ : ∃ Sx, Sx = ByteArray.mk X.toArray := ⟨_, rfl⟩
              obtain ⟨Sy, hSy⟩ : ∃ Sy, Sy = ByteArray.mk Y.toArray := ⟨_, rfl⟩
              obtain ⟨Sz, hSz⟩ : ∃ Sz, Sz = ByteArray.mk Z.toArray := ⟨_, rfl⟩
              have hsx : Sx.size ≤ 62915040 := by rw [hSx]; simpa [ByteArray.size] using hXl
              have hsy : Sy.size ≤ 62915040 := by rw [hSy]; simpa [ByteArray.size] using hYl
              have hfin : ((Sx ++ Sy).toList == Sz.toList) = true := by rw [hSx, hSy, hSz, hZ, ByteArray.toList_eq, ByteArray.toList_eq]; simp
              have HFIN := Lib.hid hfin
              have hsum : ¬ (9223372036854775807 < Sx.size + Sy.size) := by omega
              have cvx := fun (A : Option Addr) (G : Nat → Prop) (w' : World) (h : Lies w' G A (X.map bv)) (c : Nat) => run_str_lies (P := Try.prog) (n := X.length) 25 9 5 Try.underlying25 Try.underlying5 Try.underlying9 h rfl c
              have cvy := fun (A : Option Addr) (G : Nat → Prop) (w' : World) (h : Lies w' G A (Y.map bv)) (c : Nat) => run_str_lies (P := Try.prog) (n := Y.length) 25 9 5 Try.underlying25 Try.underlying5 Try.underlying9 h rfl c
              have cvz := fun (A : Option Addr) (G : Nat → Prop) (w' : World) (h : Lies w' G A (Z.map bv)) (c : Nat) => run_str_lies (P := Try.prog) (n := Z.length) 25 9 5 Try.underlying25 Try.underlying5 Try.underlying9 h rfl c
              rw [← hSx] at cvx
              rw [← hSy] at cvy
              rw [← hSz] at cvz
              have CX := Lib.hid cvx
              have CY := Lib.hid cvy
              have CZ := Lib.hid cvz
              clear cvx cvy cvz hSx hSy hSz hfin hT hZ
              obtain ⟨Gx, hGx, _⟩ := hTd.step
              refine wp_region_noPanic ?_
              refine wp_region_held_drew (S := fun _ => True) (by kernel_rfl) trivial (fun hHeld => ?_)
              refine wpAnyH_take (i := 0) (oi := ⟨some 54, Op.move (Operand.tmp 5), 24, _, _, none⟩) (v := ?v0n1) rfl (by kernel_rfl) (by kernel_rfl) (by kernel_rfl) (fun _ _ _ h => h) (Or.inl ⟨by rfl, ?y0n1⟩) hHeld ?z0n1
              case y0n1 => intro w hSw; (try dsimp only at hSw); go_simp <;> rfl
              try simp only [Act.put, List.setIfInBounds_toArray, List.set_cons_zero, List.set_cons_succ]
              refine wpAnyH_take (i := 3) (oi := ⟨some 57, Op.move (Operand.tmp 6), 24, _, _, none⟩) (v := ?v3n1) rfl (by kernel_rfl) (by kernel_rfl) (by kernel_rfl) (fun _ _ _ h => h) (Or.inl ⟨by rfl, ?y3n1⟩) hHeld ?z3n1
              case y3n1 => intro w hSw; (try dsimp only at hSw); go_simp <;> rfl
              try simp only [Act.put, List.setIfInBounds_toArray, List.set_cons_zero, List.set_cons_succ]
              refine wpAnyH_take (i := 7) (oi := ⟨some 61, Op.move (Operand.tmp 7), 24, _, _, none⟩) (v := ?v7n1) rfl (by kernel_rfl) (by kernel_rfl) (by kernel_rfl) (fun _ _ _ h => h) (Or.inl ⟨by rfl, ?y7n1⟩) hHeld ?z7n1
              case y7n1 => intro w hSw; (try dsimp only at hSw); go_simp <;> rfl
              try simp only [Act.put, List.setIfInBounds_toArray, List.set_cons_zero, List.set_cons_succ]
              refine wpAnyH_ready (rs := [1]) (by kernel_rfl) (by simp) ?_
              refine AllReadyH.cons (o := ⟨some 55, Op.call { callee := Callee.value (Operand.func 13), args := #[Operand.tmp 54], argTypes := #[24] }, 25, _, _, none⟩) rfl (fun K hK => ?_) AllReadyH.nil
              go_simp
              refine (wbytes_any bx Gx X _ hGx (by omega)).mono ?_
              rintro e w5 ⟨A5, c5, rfl, h5, k5⟩
              have l5 : Lies w5 (fun _ => True) A5 (X.map bv) := Lies.of_own h5 (fun _ _ => trivial)
              have v5 := CX.out A5 _ w5 l5
              have T5 := hTd.quiet k5
              obtain ⟨Gy, hGy, _⟩ := T5.turn.step
              clear h5
              dsimp only
              refine hK.out _ _ trivial (fun hHeld => ?_)
              clear hK K
              try simp only [Act.put, List.setIfInBounds_toArray, List.set_cons_zero, List.set_cons_succ]
              refine wpAnyH_more (S2 := fun w' => ∀ c, (convert 25 9 (.slice A5 X.length c)).run Try.prog w' = .ok (.string Sx) w') (fun _ _ => trivial) ?_
              clear hHeld
              have hHeld : (fun w' => ∀ c, (convert 25 9 (.slice A5 X.length c)).run Try.prog w' = .ok (.string Sx) w') _ := v5
              refine wpAnyH_take (i := 2) (oi := ⟨some 56, Op.convert 25 9 (Operand.tmp 55), 9, _, _, none⟩) (v := ?v2n1) rfl (by kernel_rfl) (by kernel_rfl) (by kernel_rfl) (fun _ _ _ h => h) (Or.inl ⟨by rfl, ?y2n1⟩) hHeld ?z2n1
              case y2n1 => intro w hSw; (try dsimp only at hSw); go_simp <;> rfl
              try simp only [Act.put, List.setIfInBounds_toArray, List.set_cons_zero, List.set_cons_succ]
              refine wpAnyH_ready (rs := [4]) (by kernel_rfl) (by simp) ?_
              refine AllReadyH.cons (o := ⟨some 58, Op.call { callee := Callee.value (Operand.func 13), args := #[Operand.tmp 57], argTypes := #[24] }, 25, _, _, none⟩) rfl (fun K hK => ?_) AllReadyH.nil
              go_simp
              refine (wbytes_any by' Gy Y _ hGy (by omega)).mono ?_
              rintro e w6 ⟨A6, c6, rfl, h6, k6⟩
              have l6 : Lies w6 (fun _ => True) A6 (Y.map bv) := Lies.of_own h6 (fun _ _ => trivial)
              have v6 := CY.out A6 _ w6 l6
              have v56 := CX.out A5 _ w6 (l5.keep k6 (fun _ _ h => h))
              have T6 := T5.quiet k6
              obtain ⟨Gz, hGz, _⟩ := T6.turn.turn.step
              clear h6
              dsimp only
              refine hK.out _ _ v56 (fun hHeld => ?_)
              clear hK K
              try simp only [Act.put, List.setIfInBounds_toArray, List.set_cons_zero, List.set_cons_succ]
              refine wpAnyH_more (S2 := fun w' => (∀ c, (convert 25 9 (.slice A5 X.length c)).run Try.prog w' = .ok (.string Sx) w') ∧ (∀ c, (convert 25 9 (.slice A6 Y.length c)).run Try.prog w' = .ok (.string Sy) w')) (fun _ h => h.1) ?_
              clear hHeld
              have hHeld : (fun w' => (∀ c, (convert 25 9 (.slice A5 X.length c)).run Try.prog w' = .ok (.string Sx) w') ∧ (∀ c, (convert 25 9 (.slice A6 Y.length c)).run Try.prog w' = .ok (.string Sy) w')) _ := ⟨v56, v6⟩
              refine wpAnyH_take (i := 5) (oi := ⟨some 59, Op.convert 25 9 (Operand.tmp 58), 9, _, _, none⟩) (v := ?v5n1) rfl (by kernel_rfl) (by kernel_rfl) (by kernel_rfl) (fun _ _ _ h => h) (Or.inl ⟨by rfl, ?y5n1⟩) hHeld ?z5n1
              case y5n1 => intro w hSw; (try dsimp only at hSw); go_simp <;> rfl
              try simp only [Act.put, List.setIfInBounds_toArray, List.set_cons_zero, List.set_cons_succ]
              refine wpAnyH_take (i := 6) (oi := ⟨some 60, Op.binOp BinOp.add 9 (Operand.tmp 56) (Operand.tmp 59) 9, 9, _, _, none⟩) (v := ?v6n1) rfl (by kernel_rfl) (by kernel_rfl) (by kernel_rfl) (fun _ _ _ h => h) (Or.inl ⟨by rfl, ?y6n1⟩) hHeld ?z6n1
              case y6n1 => intro w hSw; (try dsimp only at hSw); go_simp <;> rfl
              try simp only [Act.put, List.setIfInBounds_toArray, List.set_cons_zero, List.set_cons_succ]
              refine wpAnyH_ready (rs := [8]) (by kernel_rfl) (by simp) ?_
              refine AllReadyH.cons (o := ⟨some 62, Op.call { callee := Callee.value (Operand.func 13), args := #[Operand.tmp 61], argTypes := #[24] }, 25, _, _, none⟩) rfl (fun K hK => ?_) AllReadyH.nil
              go_simp
              refine (wbytes_any bz Gz Z _ hGz (by omega)).mono ?_
              rintro e w7 ⟨A7, c7, rfl, h7, k7⟩
              have v7 := CZ.out A7 (fun _ => True) w7 (Lies.of_own h7 (fun _ _ => trivial))
              have v57 := CX.out A5 _ w7 ((l5.keep k6 (fun _ _ h => h)).keep k7 (fun _ _ h => h))
              have v67 := CY.out A6 _ w7 (l6.keep k7 (fun _ _ h => h))
              clear h7
              dsimp only
              refine hK.out _ _ ⟨v57, v67⟩ (fun hHeld => ?_)
              clear hK K
              try simp only [Act.put, List.setIfInBounds_toArray, List.set_cons_zero, List.set_cons_succ]
              refine wpAnyH_more (S2 := fun w' => ((∀ c, (convert 25 9 (.slice A5 X.length c)).run Try.prog w' = .ok (.string Sx) w') ∧ (∀ c, (convert 25 9 (.slice A6 Y.length c)).run Try.prog w' = .ok (.string Sy) w')) ∧ (∀ c, (convert 25 9 (.slice A7 Z.length c)).run Try.prog w' = .ok (.string Sz) w')) (fun _ h => h.1) ?_
              clear hHeld
              have hHeld : (fun w' => ((∀ c, (convert 25 9 (.slice A5 X.length c)).run Try.prog w' = .ok (.string Sx) w') ∧ (∀ c, (convert 25 9 (.slice A6 Y.length c)).run Try.prog w' = .ok (.string Sy) w')) ∧ (∀ c, (convert 25 9 (.slice A7 Z.length c)).run Try.prog w' = .ok (.string Sz) w')) _ := ⟨⟨v57, v67⟩, v7⟩
              refine wpAnyH_take (i := 9) (oi := ⟨some 63, Op.convert 25 9 (Operand.tmp 62), 9, _, _, none⟩) (v := ?v9n1) rfl (by kernel_rfl) (by kernel_rfl) (by kernel_rfl) (fun _ _ _ h => h) (Or.inl ⟨by rfl, ?y9n1⟩) hHeld ?z9n1
              case y9n1 => intro w hSw; (try dsimp only at hSw); go_simp <;> rfl
              try simp only [Act.put, List.setIfInBounds_toArray, List.set_cons_zero, List.set_cons_succ]
              refine wpAnyH_take (i := 10) (oi := ⟨some 64, Op.binOp BinOp.eql 9 (Operand.tmp 60) (Operand.tmp 63) 9, 4, _, _, none⟩) (v := ?v10n1) rfl (by kernel_rfl) (by kernel_rfl) (by kernel_rfl) (fun _ _ _ h => h) (Or.inl ⟨by rfl, ?y10n1⟩) hHeld ?z10n1
              case y10n1 => intro w hSw; (try dsimp only at hSw); go_simp <;> rfl
              try simp only [Act.put, List.setIfInBounds_toArray, List.set_cons_zero, List.set_cons_succ]
              refine wpAnyH_take (i := 11) (oi := ⟨some 4, Op.assign (Operand.tmp 64), 4, _, _, none⟩) (v := ?v11n1) rfl (by kernel_rfl) (by kernel_rfl) (by kernel_rfl) (fun _ _ _ h => h) (Or.inl ⟨by rfl, ?y11n1⟩) hHeld ?z11n1
              case y11n1 => intro w hSw; (try dsimp only at hSw); go_simp <;> rfl
              try simp only [Act.put, List.setIfInBounds_toArray, List.set_cons_zero, List.set_cons_succ]
              refine wpAnyH_done (by kernel_rfl) ?_ _
              refine NoPanic.normal ?_
              go_wp2
              go_ret
              refine ⟨?_, ?_⟩
              · show Ending.returned (.bool ((Sx ++ Sy).toList == Sz.toList)) = _
                rw [HFIN.out]
              · obtain ⟨_, _, _, _, _, _, _, _, _, _, _, _, k0⟩ := T6.quiet k7
                exact k1.step k0

end Go.Proofs.Ytnenbohnbojjgaa
