/-
  CmdsRow: what it does with whatever says and entries. No statement is proved here.
-/
import Derived.Test.YtgffdobhdkieaaaL6Step
import Derived.Test.YtgffdobhdkieaaaL6Parts
namespace Go.Proofs.Ytgffdobhdkieaaa
open Go.RowKit

/-- An entry of a row stands as it should. -/
def Good (l : List EntryV) (f : Int) (k : Nat) : Prop := ∀ e, l[k]? = some e → e.Right ∧ e.index = f + k ∧ ∀ p, 0 < k → l[k - 1]? = some p → p.term ≤ e.term
theorem good_cons (e : EntryV) (r : List EntryV) (f : Int) : (∀ k, Good (e :: r) f k) ↔ ((e.Right ∧ e.index = f) ∧ (∀ k, Good r (f + 1) k) ∧ ∀ x, r[0]? = some x → e.term ≤ x.term) := by
  constructor
  · intro h
    refine ⟨⟨(h 0 e rfl).1, by have := (h 0 e rfl).2.1; omega⟩, fun k x hx => ?_, fun x hx => ?_⟩
    · have h1 := h (k + 1) x (by simpa using hx)
      refine ⟨h1.1, by have := h1.2.1; omega, fun p hk hp => ?_⟩
      refine h1.2.2 p (by omega) ?_
      obtain ⟨k', rfl⟩ : ∃ k', k = k' + 1 := ⟨k - 1, by omega⟩
      simpa using hp
    · exact (h 1 x (by simpa using hx)).2.2 e (by omega) rfl
  · rintro ⟨⟨h1, h2⟩, h3, h4⟩ k x hx
    cases k with
    | zero =>
      obtain rfl : e = x := by simpa using hx
      exact ⟨h1, by omega, fun p h0 => absurd h0 (by omega)⟩
    | succ k =>
      have h5 := h3 k x (by simpa using hx)
      refine ⟨h5.1, by have := h5.2.1; omega, fun p _ hp => ?_⟩
      cases k with
      | zero =>
        obtain rfl : e = p := by simpa using hp
        exact h4 x (by simpa using hx)
      | succ k => exact h5.2.2 p (by omega) (by simpa using hp)
theorem rowB_good (l : List EntryV) (f t : Int) : rowB l f t = true ↔ (∀ k, Good l f k) ∧ ∀ x, l[0]? = some x → t ≤ x.term := by
  induction l generalizing f t with
  | nil => exact ⟨fun _ => ⟨fun k e he => by simp at he, fun x hx => by simp at hx⟩, fun _ => rfl⟩
  | cons e r ih =>
    rw [rowB_cons, Bool.and_eq_true, decide_eq_true_eq, ih, good_cons]
    constructor
    · rintro ⟨⟨h1, h2, h3⟩, h4, h5⟩
      exact ⟨⟨⟨h1, h2⟩, h4, h5⟩, fun x hx => by obtain rfl : e = x := by simpa using hx
                                                exact h3⟩
    · rintro ⟨⟨⟨h1, h2⟩, h4, h5⟩, h6⟩
      exact ⟨⟨h1, h2, h6 e rfl⟩, h4, h5⟩
theorem rowB_zero (l : List EntryV) (f : Int) : rowB l f 0 = true ↔ ∀ k, k < l.length → Good l f k := by
  rw [rowB_good]
  constructor
  · intro h k _
    exact h.1 k
  · intro h
    have h1 : ∀ k, Good l f k := fun k e he => h k (List.getElem?_eq_some_iff.1 he).1 e he
    exact ⟨h1, fun x hx => (h1 0 x hx).1.2.2.1⟩
/-- Whether the first k entries stand as they should. -/
def UpTo (l : List EntryV) (f : Int) (k : Nat) (q : Bool) : Prop := q = true ↔ ∀ j, j < k → Good l f j
def OkCell (l : List EntryV) (f : Int) (k : Nat) (s : Value) : Prop := ∃ q, s = .bool q ∧ UpTo l f k q
/-- One more entry. -/
theorem good_more {l : List EntryV} {f : Int} {k : Nat} {q : Bool} (hq : UpTo l f k q) (r : Bool) (hr : r = true ↔ q = true ∧ Good l f k) : UpTo l f (k + 1) r := by
  unfold UpTo at *
  rw [hr, hq]
  constructor
  · rintro ⟨h1, h2⟩ j hj
    rcases Nat.lt_or_ge j k with h | h
    · exact h1 j h
    · obtain rfl : j = k := by omega
      exact h2
  · intro h
    exact ⟨fun j hj => h j (by omega), h k (by omega)⟩

/-- A row of entries that a value is. -/
structure EntsV where
  a : Option Addr
  n : Nat
  c : Nat
  l : List EntryV
def EntsV.val (y : EntsV) : Value := .slice y.a y.n y.c
structure EntsV.Lie (y : EntsV) (w : World) : Prop where
  lies : Lies w (fun _ => True) y.a (entCells y.l)
  len : y.l.length = y.n
  small : y.n ≤ 1600000000000
theorem EntsV.Lie.keep {y : EntsV} {w w' : World} (h : y.Lie w) (k : Kept noBlock w w') : y.Lie w' := ⟨h.lies.keep k (fun _ _ h => h), h.len, h.small⟩
theorem EntsV.three {w : World} {y0 y1 y2 : EntsV} {t : TypeId} (h0 : y0.Lie w) (h1 : y1.Lie w) (h2 : y2.Lie w) (i : Nat) (y : EntsV) (hy : [y0, y1, y2][i]? = some y) :
    (w.alloc (.cells #[y0.val, y1.val, y2.val] t)).cell? ⟨w.heap.size, i, none⟩ = some y.val ∧ y.Lie (w.alloc (.cells #[y0.val, y1.val, y2.val] t)) := by
  have hb := heap_alloc_new w (.cells #[y0.val, y1.val, y2.val] t)
  have k := Kept.alloc noBlock w (.cells #[y0.val, y1.val, y2.val] t)
  match i, hy with
  | 0, hy =>
    obtain rfl : y0 = y := by simpa using hy
    exact ⟨cell_of_row _ _ _ _ _ _ hb, h0.keep k⟩
  | 1, hy =>
    obtain rfl : y1 = y := by simpa using hy
    exact ⟨cell_of_row _ _ _ _ _ _ hb, h1.keep k⟩
  | 2, hy =>
    obtain rfl : y2 = y := by simpa using hy
    exact ⟨cell_of_row _ _ _ _ _ _ hb, h2.keep k⟩
  | i + 3, hy => simp at hy

/-- An entry that is stored within a row. -/
def setEat (w : World) (g o : Nat) (e : EntryV) : World := ((((((((w.setCell ⟨g, o, none⟩ (.int .i64 e.index)).setCell ⟨g, o + 1, none⟩ (.int .i64 e.term)).setCell ⟨g, o + 2, none⟩ (.int .i64 e.cmd.op)).setCell ⟨g, o + 3, none⟩ (.int .i64 e.cmd.client)).setCell ⟨g, o + 4, none⟩ (.int .i64 e.cmd.seq)).setCell ⟨g, o + 5, none⟩ (.string e.cmd.key)).setCell ⟨g, o + 6, none⟩ (.string e.cmd.value)).setCell ⟨g, o + 7, none⟩ (.string e.cmd.old))
theorem setEat_kept (w : World) (g o : Nat) (e : EntryV) : Kept (fun k => k = g) w (setEat w g o e) := by
  unfold setEat
  exact (((((((Kept.setCell w (by rfl) _).step (Kept.setCell _ (by rfl) _)).step (Kept.setCell _ (by rfl) _)).step (Kept.setCell _ (by rfl) _)).step (Kept.setCell _ (by rfl) _)).step (Kept.setCell _ (by rfl) _)).step (Kept.setCell _ (by rfl) _)).step (Kept.setCell _ (by rfl) _)
theorem set_cells (es : List EntryV) (k : Nat) (e : EntryV) (hk : k < es.length) : (((((((((entCells es).set (k * 8) (.int .i64 e.index)).set (k * 8 + 1) (.int .i64 e.term)).set (k * 8 + 2) (.int .i64 e.cmd.op)).set (k * 8 + 3) (.int .i64 e.cmd.client)).set (k * 8 + 4) (.int .i64 e.cmd.seq)).set (k * 8 + 5) (.string e.cmd.key)).set (k * 8 + 6) (.string e.cmd.value)).set (k * 8 + 7) (.string e.cmd.old)) = entCells (es.set k e) := by
  induction es generalizing k with
  | nil => simp at hk
  | cons q r ih =>
    cases k with
    | zero => simp [entCells, EntryV.cells]
    | succ k =>
      have hi := ih k (by simpa using hk)
      have step : ∀ (l : List Value) (j : Nat) (v : Value), (q.cells ++ l).set (8 + j) v = q.cells ++ l.set j v := fun l j v => by
        rw [List.set_append_right _ _ (by rw [ecells_length]; omega), ecells_length, Nat.add_sub_cancel_left]
      rw [List.set_cons_succ, entCells_cons, entCells_cons, ← hi]
      have e0 : (k + 1) * 8 = 8 + k * 8 := by omega
      rw [e0]
      simp only [Nat.add_assoc, step]
theorem setEat_own {w : World} {es : List EntryV} {g m c k : Nat} (h : w.ownsRow 0 32 8 (.slice (some ⟨g, 0, none⟩) m c) m (entCells es)) (hm : es.length = m) (hk : k < m) (e : EntryV) :
    (setEat w g (k * 8) e).ownsRow 0 32 8 (.slice (some ⟨g, 0, none⟩) m c) m (entCells (es.set k e)) := by
  rw [← set_cells es k e (by omega)]
  unfold setEat
  exact (((((((h.stored _ _).1.stored _ _).1.stored _ _).1.stored _ _).1.stored _ _).1.stored _ _).1.stored _ _).1.stored _ _ |>.1
theorem src_ents {w : World} {F : Nat → Prop} {a : Option Addr} {m c : Nat} {es : List EntryV} (h : Lies w F a (entCells es)) (hl : es.length = m) : Src Try.prog 8 37 (.slice a m c) m (entCells es) w := by
  cases a with
  | none =>
    have hnil : entCells es = [] := by
      cases hh : entCells es with
      | nil => rfl
      | cons x r => obtain ⟨ad, h, _⟩ := h (by rw [hh]; simp); cases h
    have h0 : m = 0 := by have := entCells_length es; rw [hnil, hl] at this; simp at this; omega
    subst h0
    rw [hnil]
    exact Src.ofNil w Try.underlying37 c
  | some ad =>
    refine Src.ofSlice w Try.underlying37 ad m c _ (by rw [entCells_length, hl]) (fun j u hu => ?_) (one_ents _)
    obtain ⟨ad', e, _, hc⟩ := h.at_ hu
    injection e with e
    subst e
    exact hc

set_option maxRecDepth 100000 in
set_option maxHeartbeats 4000000 in
theorem row_walk (F : Nat → Prop) (a a2 : Option Addr) (n c n2 c2 : Nat) (ss : List SayV) (raw : List EntryV) (turn : EntryV) (f0 : Nat) (at_ : UInt8) (w : World) (h : Lies w F a (sayCells ss)) (hl : ss.length = n) (hnc : n ≤ c) (hf0 : f0 < 65536)
    (hF : ∀ i, F i → i < w.heap.size) (h2 : Lies w F a2 (entCells raw)) (hl2 : raw.length = n2) (hx2 : n2 ≤ 1600000000000) :
    Calls Try.prog 5 #[.slice a n c, .int .u16 (f0 : Int), .int .u8 (at_.toNat : Int), turn.val, .slice a2 n2 c2] w fun e w' => e = .returned (.bool true) ∧ Kept noBlock w w' := by
  obtain ⟨es, hes⟩ : ∃ es, es = entsOf (ss.take 80) ((f0 : Int) + 1) 2 := ⟨_, rfl⟩
  obtain ⟨m, hm⟩ : ∃ m, es.length = m := ⟨_, rfl⟩
  have hm80 : m ≤ 80 := by rw [← hm, hes, entsOf_length, List.length_take]; omega
  have R1 : Hid (rowB es ((f0 : Int) + 1) 0 = true) := by
    unfold Hid
    rw [hes]
    have := List.length_take_le 80 ss
    exact rowB_ents _ _ _ _ (by omega) (by omega) (by omega) (by omega) (by omega)
  have HE := Lib.hid hes
  have HM := Lib.hid hm
  clear hes hm
  have hat_ := at_.toNat_lt
  obtain ⟨w0, hw0⟩ : ∃ w0, w0 = w.alloc (.cells turn.cells.toArray 32) := ⟨_, rfl⟩
  have K0 : Hid (Kept noBlock w w0) := by unfold Hid; rw [hw0]; exact Kept.alloc _ _ _
  have B0 : Hid (w0.heap[w.heap.size]? = some (.cells turn.cells.toArray 32 (0, 0))) := by unfold Hid; rw [hw0]; exact heap_alloc_new w _
  unfold EntryV.cells at hw0
  unfold EntryV.val
  go_enter Try.func5, Try.ntmps5
  go_wp2_with fail
  rw [← hw0]
  clear hw0
  refine (awake_any w0).mono ?_
  rintro e w1 ⟨rfl, k1⟩
  have K1 := Lib.hid (K0.out.step k1)
  have B1 := Lib.hid (k1.blk B0.out (fun h => h))
  have H1 := Lib.hid (h.keep K1.out (fun _ _ h => h))
  have H2 := Lib.hid (h2.keep K1.out (fun _ _ h => h))
  clear k1 K0 B0 h h2
  go_wp2_with fail
  refine (ents_any F a n c _ _ ss es w1 H1.out hl hnc HE.out (by omega) (by omega) (by omega) (by omega)).mono ?_
  rw [HM.out]
  rintro e w2 ⟨A, cc, rfl, o2, k2⟩
  have hcc : m ≤ cc := by obtain ⟨_, _, e, hle⟩ := own_form o2; injection e with _ _ e; omega
  have O2 := Lib.hid o2
  have L2 := Lib.hid (lies_own (F := fun _ => True) o2 (fun _ _ => trivial))
  have K2 := Lib.hid k2
  clear o2 k2 H1 HE hl
  go_wp2_with fail
  refine (row_any (fun _ => True) A m cc _ es w2 L2.out HM.out (by omega) (by omega)).mono ?_
  rw [R1.out]
  rintro e w3 ⟨rfl, k3⟩
  have O3 := Lib.hid (own_keep O2.out k3 (fun _ _ h => h))
  have L3 := Lib.hid (L2.out.keep k3 (fun _ _ h => h))
  have K3 := Lib.hid (K2.out.step k3)
  clear k3 O2 L2 K2
  go_wp2_with (at_builtin; refine wpList_append_src rfl (.const (.slice none 0 0)) (.tmp 31) 37 37 rfl 32 noEntry.val 8 88 Try.underlying37 Try.infoEntry rfl (.slice none 0 0) 0 [] rfl (World.ownsRow_nil _ _ _ _) _ m (entCells es) rfl ?csrc ?c3 ?c4 ?_)
  case csrc => exact src_ents L3.out HM.out
  case c3 => unfold maxLen; omega
  case c4 => omega
  intro A4 c4 w4 o4 k4 hat
  have k4' : Kept noBlock w3 w4 := k4.mono (fun i _ h => by simp [Value.ownBlock] at h)
  have hf4 : ∀ b, (Value.slice A4 m c4).ownBlock = some b → w3.heap.size ≤ b := fun b hb => by
    rcases hat b hb with h | h
    · simp [Value.ownBlock] at h
    · exact h.1
  clear k4 hat
  have HF4 := Lib.hid hf4
  have O4 := Lib.hid o4
  have K4 := Lib.hid k4'
  clear hf4 k4' o4
  go_upto_region 7 with (fail)
  go_cut [35] (fun s wc => w4 = wc ∧ ∃ p : Bool, s = .bool p ∧ Hid (p = true ↔ 0 < m))
  case first =>
    go_wp2
    go_meet
    case rel => exact ⟨rfl, _, rfl, by unfold Hid; simp⟩
  obtain ⟨rfl, p, rfl, HP⟩ := hcut
  go_upto_if 35 with (fail)
  go_cut [] (fun wc => ∃ l0 : List EntryV, Hid (l0.length = m) ∧ Hid (wc.ownsRow 0 32 8 (.slice A4 m c4) m (entCells l0)) ∧ Hid (Kept noBlock w3 wc))
  case first =>
    cases p
    · go_wp2
      go_meet
      case rel => exact ⟨es, HM, O4, K4⟩
    · have hm0 : 0 < m := HP.out.1 rfl
      obtain ⟨j, hj⟩ : ∃ j, j = at_.toNat % m := ⟨_, rfl⟩
      have hjm : j < m := by rw [hj]; exact Nat.mod_lt _ (by omega)
      have t2 : (IntKind.i64.wrap (at_.toNat : Int)).tmod (m : Int) = (j : Int) := by rw [IntWalk.i64_in _ (by omega), hj]; exact tmod_nat _ m
      have nm : (m = 0) = False := eq_false (by omega)
      have hji : (j : Int) < (m : Int) := by omega
      have o4 := O4.out
      obtain ⟨g, cap, hv, hcp, _⟩ := o4.form (by omega)
      obtain ⟨rfl, rfl⟩ : A4 = some ⟨g, 0, none⟩ ∧ c4 = cap := by injection hv with a b c; exact ⟨a, c⟩
      obtain ⟨x0, hx0⟩ : ∃ x0, es[j]? = some x0 := ⟨_, List.getElem?_eq_getElem (by rw [HM.out]; exact hjm)⟩
      have hcl : ∀ i v, x0.cells[i]? = some v → w4.cell? ⟨g, j * 8 + i, none⟩ = some v := fun i v hv => by
        have hi : i < 8 := by have := (List.getElem?_eq_some_iff.1 hv).1; rw [ecells_length] at this; exact this
        rw [o4.cellAt (j * 8 + i) (by omega)]
        exact entCells_at es j i x0 v hx0 hv
      have d0 : w4.cell? ⟨g, j * 8, none⟩ = some (.int .i64 x0.index) := hcl 0 _ rfl
      have d1 : w4.cell? ⟨g, j * 8 + 1, none⟩ = some (.int .i64 x0.term) := hcl 1 _ rfl
      have d2 : w4.cell? ⟨g, j * 8 + 2, none⟩ = some (.int .i64 x0.cmd.op) := hcl 2 _ rfl
      have d3 : w4.cell? ⟨g, j * 8 + 3, none⟩ = some (.int .i64 x0.cmd.client) := hcl 3 _ rfl
      have d4 : w4.cell? ⟨g, j * 8 + 4, none⟩ = some (.int .i64 x0.cmd.seq) := hcl 4 _ rfl
      have d5 : w4.cell? ⟨g, j * 8 + 5, none⟩ = some (.string x0.cmd.key) := hcl 5 _ rfl
      have d6 : w4.cell? ⟨g, j * 8 + 6, none⟩ = some (.string x0.cmd.value) := hcl 6 _ rfl
      have d7 : w4.cell? ⟨g, j * 8 + 7, none⟩ = some (.string x0.cmd.old) := hcl 7 _ rfl
      have f0 : w4.frozen? ⟨g, j * 8, none⟩ = false := o4.frozenAt _
      have f1 : w4.frozen? ⟨g, j * 8 + 1, none⟩ = false := o4.frozenAt _
      have f2 : w4.frozen? ⟨g, j * 8 + 2, none⟩ = false := o4.frozenAt _
      have f3 : w4.frozen? ⟨g, j * 8 + 3, none⟩ = false := o4.frozenAt _
      have f4 : w4.frozen? ⟨g, j * 8 + 4, none⟩ = false := o4.frozenAt _
      have f5 : w4.frozen? ⟨g, j * 8 + 5, none⟩ = false := o4.frozenAt _
      have f6 : w4.frozen? ⟨g, j * 8 + 6, none⟩ = false := o4.frozenAt _
      have f7 : w4.frozen? ⟨g, j * 8 + 7, none⟩ = false := o4.frozenAt _
      have HST := Lib.hid (setEat_own o4 HM.out hjm turn)
      have HKT := Lib.hid (K4.out.trans (setEat_kept w4 g (j * 8) turn) (fun i hi h => by have := HF4.out g rfl; omega))
      have HTB := Lib.hid ((K3.out.step HKT.out).blk B1.out (fun h => h))
      have HTA := Lib.hid ((K3.out.step K4.out).blk B1.out (fun h => h))
      clear hcl hv hcp hj hx0 hm0 o4
      go_upto_region 8 with (fail)
      refine wp_region_noPanic ?_
      refine wp_region_held_drew (S := fun w' => w'.cell? ⟨w.heap.size, 0, none⟩ = some (.int .i64 turn.index) ∧ w'.cell? ⟨w.heap.size, 1, none⟩ = some (.int .i64 turn.term) ∧ w'.cell? ⟨w.heap.size, 2, none⟩ = some (.int .i64 turn.cmd.op) ∧ w'.cell? ⟨w.heap.size, 3, none⟩ = some (.int .i64 turn.cmd.client) ∧ w'.cell? ⟨w.heap.size, 4, none⟩ = some (.int .i64 turn.cmd.seq) ∧ w'.cell? ⟨w.heap.size, 5, none⟩ = some (.string turn.cmd.key) ∧ w'.cell? ⟨w.heap.size, 6, none⟩ = some (.string turn.cmd.value) ∧ w'.cell? ⟨w.heap.size, 7, none⟩ = some (.string turn.cmd.old)) (by kernel_rfl) (ent_cells (e := turn) ((Kept.drew noBlock _).blk HTA.out (fun h => h))) (fun hHeld => ?_)
      refine wpAnyH_take (i := 0) (oi := ⟨some 36, Op.move (Operand.tmp 12), 37, _, _, none⟩) (v := ?v0n1k1) rfl (by kernel_rfl) (by kernel_rfl) (by kernel_rfl) (fun _ _ _ h => h) (Or.inl ⟨by rfl, ?y0n1k1⟩) hHeld ?z0n1k1
      case y0n1k1 => intro w hSw; (try dsimp only at hSw); go_simp <;> rfl
      try simp only [Act.put, List.setIfInBounds_toArray, List.set_cons_zero, List.set_cons_succ]
      refine wpAnyH_take (i := 1) (oi := ⟨some 37, Op.move (Operand.tmp 2), 5, _, _, none⟩) (v := ?v1n1k2) rfl (by kernel_rfl) (by kernel_rfl) (by kernel_rfl) (fun _ _ _ h => h) (Or.inl ⟨by rfl, ?y1n1k2⟩) hHeld ?z1n1k2
      case y1n1k2 => intro w hSw; (try dsimp only at hSw); go_simp <;> rfl
      try simp only [Act.put, List.setIfInBounds_toArray, List.set_cons_zero, List.set_cons_succ]
      refine wpAnyH_take (i := 2) (oi := ⟨some 38, Op.convert 5 3 (Operand.tmp 37), 3, _, _, none⟩) (v := ?v2n1k3) rfl (by kernel_rfl) (by kernel_rfl) (by kernel_rfl) (fun _ _ _ h => h) (Or.inl ⟨by rfl, ?y2n1k3⟩) hHeld ?z2n1k3
      case y2n1k3 => intro w hSw; (try dsimp only at hSw); go_simp <;> rfl
      try simp only [Act.put, List.setIfInBounds_toArray, List.set_cons_zero, List.set_cons_succ]
      refine wpAnyH_take (i := 3) (oi := ⟨some 39, Op.move (Operand.tmp 12), 37, _, _, none⟩) (v := ?v3n1k4) rfl (by kernel_rfl) (by kernel_rfl) (by kernel_rfl) (fun _ _ _ h => h) (Or.inl ⟨by rfl, ?y3n1k4⟩) hHeld ?z3n1k4
      case y3n1k4 => intro w hSw; (try dsimp only at hSw); go_simp <;> rfl
      try simp only [Act.put, List.setIfInBounds_toArray, List.set_cons_zero, List.set_cons_succ]
      refine wpAnyH_take (i := 4) (oi := ⟨some 40, Op.call { callee := Callee.builtin Builtin.len, args := #[Operand.tmp 39], argTypes := #[37] }, 3, _, _, none⟩) (v := ?v4n1k5) rfl (by kernel_rfl) (by kernel_rfl) (by kernel_rfl) (fun _ _ _ h => h) (Or.inl ⟨by rfl, ?y4n1k5⟩) hHeld ?z4n1k5
      case y4n1k5 => intro w hSw; (try dsimp only at hSw); go_simp <;> rfl
      try simp only [Act.put, List.setIfInBounds_toArray, List.set_cons_zero, List.set_cons_succ]
      refine wpAnyH_take (i := 5) (oi := ⟨some 41, Op.binOp BinOp.rem 3 (Operand.tmp 38) (Operand.tmp 40) 3, 3, _, _, none⟩) (v := ?v5n1k6) rfl (by kernel_rfl) (by kernel_rfl) (by kernel_rfl) (fun _ _ _ h => h) (Or.inl ⟨by rfl, ?y5n1k6⟩) hHeld ?z5n1k6
      case y5n1k6 => intro w hSw; (try dsimp only at hSw); go_simp <;> rfl
      try simp only [Act.put, List.setIfInBounds_toArray, List.set_cons_zero, List.set_cons_succ]
      refine wpAnyH_take (i := 6) (oi := ⟨some 42, Op.load 32 (Operand.tmp 8), 32, _, _, none⟩) (v := ?v6n1k7) rfl (by kernel_rfl) (by kernel_rfl) (by kernel_rfl) (fun _ _ _ h => h) (Or.inl ⟨by rfl, ?y6n1k7⟩) hHeld ?z6n1k7
      case y6n1k7 => intro w hSw; (try dsimp only at hSw); go_simp <;> rfl
      try simp only [Act.put, List.setIfInBounds_toArray, List.set_cons_zero, List.set_cons_succ]
      refine wpAnyH_take (i := 7) (oi := ⟨some 43, Op.indexAddr 37 (Operand.tmp 36) (Operand.tmp 41), 0, _, _, none⟩) (v := ?v7n1k8) rfl (by kernel_rfl) (by kernel_rfl) (by kernel_rfl) (fun _ _ _ h => h) (Or.inl ⟨by rfl, ?y7n1k8⟩) hHeld ?z7n1k8
      case y7n1k8 => intro w hSw; (try dsimp only at hSw); go_simp <;> rfl
      try simp only [Act.put, List.setIfInBounds_toArray, List.set_cons_zero, List.set_cons_succ]
      refine wpAnyH_ready (rs := [8]) (by kernel_rfl) (by simp) ?_
      refine AllReadyH.cons (o := ⟨none, Op.store 32 (Operand.tmp 43) (Operand.tmp 42), 0, _, _, none⟩) rfl (fun K hK => ?_) AllReadyH.nil
      go_simp
      refine hK.out _ _ (ent_cells (e := turn) ((Kept.drew noBlock _).blk HTB.out (fun h => h))) (fun hHeld => ?_)
      clear hK K
      try simp only [Act.put, List.setIfInBounds_toArray, List.set_cons_zero, List.set_cons_succ]
      refine wpAnyH_done (by kernel_rfl) ?_ _
      refine NoPanic.normal ?_
      go_wp2
      go_meet
      case rel => exact ⟨es.set j turn, by unfold Hid; rw [List.length_set]; exact HM.out, own_keep HST.out (Kept.drew noBlock _) (fun _ _ h => h), HKT.out.step (Kept.drew _ _)⟩
  case rest =>
    obtain ⟨l0, HL0, HO, HK⟩ := hcut
    have OE := Lib.hid (own_base (own_keep O3.out HK.out (fun _ _ h => h)) (fun _ _ => Nat.zero_le _) (base' := 0))
    have BT := Lib.hid ((K3.out.step HK.out).blk B1.out (fun h => h))
    have HR := Lib.hid (H2.out.keep (K3.out.step HK.out) (fun _ _ h => h))
    have EB : Hid (∀ b, (Value.slice A m cc).ownBlock = some b → w.heap.size ≤ b ∧ b < w3.heap.size ∧ w.heap.size ≠ b) := fun b hb => by
      have h1 := O3.out.lt b hb
      have h2 := K1.out.size
      have h3 := lt_of_blk B1.out
      exact ⟨by omega, h1.2, by omega⟩
    obtain ⟨d0, d1, d2, d3, d4, d5, d6, d7⟩ := ent_cells (e := turn) BT.out
    have KW := Lib.hid ((K1.out.step K3.out).step HK.out)
    clear HP O4 K4 O3 L3 B1 H2 K1 K3
    go_wp2_with (at_builtin; refine wpList_append_src rfl (.tmp 46) (.tmp 48) 37 37 rfl 32 noEntry.val 8 88 Try.underlying37 Try.infoEntry rfl (.slice A m cc) m (entCells es) rfl (OE.out.alloc _) _ 1 (entCells [turn]) rfl (src_entry turn (heap_alloc_new _ _)) ?c3 ?c4 ?_)
    case c3 => unfold maxLen; omega
    case c4 => omega
    intro A9 c9 w9 o9 k9 hat
    have ka : Kept noBlock wc (wc.alloc (.cells turn.cells.toArray 32)) := Kept.alloc _ _ _
    have k9w : Kept (fun k => (Value.slice A m cc).ownBlock = some k) wc w9 := (ka.mono (fun _ _ h => h.elim)).step k9
    have KW9 := Lib.hid (KW.out.trans k9w (fun i hi h => by have := (EB.out i h).1; omega))
    have y0 : EntsV.Lie ⟨A4, m, c4, l0⟩ w9 := ⟨lies_own (own_keep HO.out k9w (fun i hi h => by have := HF4.out i hi; have := (EB.out i h).2.1; omega)) (fun _ _ => trivial), HL0.out, by show m ≤ 1600000000000; omega⟩
    have y1 : EntsV.Lie ⟨a2, n2, c2, raw⟩ w9 := ⟨(HR.out.keep k9w (fun i hi h => by have := hF i hi; have := (EB.out i h).1; omega)).mono (fun _ _ => trivial), hl2, hx2⟩
    have y2 : EntsV.Lie ⟨A9, m + 1, c9, es ++ [turn]⟩ w9 := ⟨by rw [entCells_append]; exact lies_own o9 (fun _ _ => trivial), by show (es ++ [turn]).length = m + 1; rw [List.length_append, HM.out]; rfl, by show m + 1 ≤ 1600000000000; omega⟩
    have HF : Hid (∀ i y, [(⟨A4, m, c4, l0⟩ : EntsV), ⟨a2, n2, c2, raw⟩, ⟨A9, m + 1, c9, es ++ [turn]⟩][i]? = some y → (w9.alloc (.cells #[.slice A4 m c4, .slice a2 n2 c2, .slice A9 (m + 1) c9] 37)).cell? ⟨w9.heap.size, i, none⟩ = some y.val ∧ y.Lie (w9.alloc (.cells #[.slice A4 m c4, .slice a2 n2 c2, .slice A9 (m + 1) c9] 37))) := Lib.hid (EntsV.three (t := 37) y0 y1 y2)
    have KW10 := Lib.hid (KW9.out.step (Kept.alloc noBlock w9 (.cells #[.slice A4 m c4, .slice a2 n2 c2, .slice A9 (m + 1) c9] 37)))
    clear y0 y1 y2 k9w ka k9 o9 hat d0 d1 d2 d3 d4 d5 d6 d7 KW KW9 EB HR BT OE HO HL0 HK HF4
    obtain ⟨ys, hys⟩ : ∃ ys : List EntsV, ys = [⟨A4, m, c4, l0⟩, ⟨a2, n2, c2, raw⟩, ⟨A9, m + 1, c9, es ++ [turn]⟩] := ⟨_, rfl⟩
    rw [← hys] at HF
    have HY : Hid (ys.length = 3) := by unfold Hid; rw [hys]; rfl
    clear hys
    obtain ⟨G, hG⟩ : ∃ G, G = w9.heap.size := ⟨_, rfl⟩
    go_wp2
    rw [← hG] at HF ⊢
    clear hG
    generalize w9.alloc (.cells #[.slice A4 m c4, .slice a2 n2 c2, .slice A9 (m + 1) c9] 37) = w10 at HF KW10 ⊢
    obtain ⟨f1, hf1⟩ : ∃ f1 : Int, f1 = (f0 : Int) + 1 := ⟨_, rfl⟩
    have HF1 := Lib.hid hf1
    clear hf1
    go_loopw [52] (fun v wr => ∃ (i : Nat), i ≤ 3 ∧ v = .int .i64 (i : Int) ∧ Hid (Kept noBlock w10 wr)) (fun v _ => 3 - (intOf v).toNat)
    case atStart => exact ⟨0, by omega, rfl, Kept.refl _ _⟩
    case round =>
      obtain ⟨i, hi, rfl, HKr⟩ := hrel
      by_cases hlt : i < 3
      · obtain ⟨y, hy⟩ : ∃ y, ys[i]? = some y := ⟨_, List.getElem?_eq_getElem (by rw [HY.out]; exact hlt)⟩
        obtain ⟨hcell, hlie⟩ := HF.out i y hy
        have hc := HKr.out.cell hcell (fun h => h)
        have HL := Lib.hid hlie
        clear hcell hlie hy
        obtain ⟨ya, yn, yc, yl⟩ := y
        simp only [EntsV.val] at hc
        have hyn : yn ≤ 1600000000000 := HL.out.small
        have hdec : decide ((i : Int) < 3) = true := decide_eq_true (by omega)
        go_wp2
        go_loopw [15, 58] (fun s v wv => ∃ (k : Nat), k ≤ yn ∧ v = .int .i64 (k : Int) ∧ Hid (OkCell yl f1 k s) ∧ Hid (Kept noBlock w10 wv)) (fun _ v _ => yn - (intOf v).toNat)
        case atStart => exact ⟨0, by omega, rfl, Lib.hid ⟨true, rfl, fun _ j hj => absurd hj (by omega), fun _ => rfl⟩, HKr⟩
        case round =>
          obtain ⟨k, hk, rfl, HQ0, HKv⟩ := hrel
          obtain ⟨q, rfl, hq0⟩ := HQ0.out
          have HQ := Lib.hid hq0
          clear HQ0 hq0
          by_cases hkn : k < yn
          · obtain ⟨x, hx⟩ : ∃ x, yl[k]? = some x := ⟨_, List.getElem?_eq_getElem (by have := HL.out.len; simp only at this; omega)⟩
            have HLV := Lib.hid (HL.out.keep HKv.out)
            obtain ⟨b, o, hya, _, ea⟩ := ents_cell HLV.out.lies hx
            simp only at hya
            subst hya
            obtain ⟨c0, c1, c2, c3, c4, c5, c6, c7⟩ := ea
            have HX := Lib.hid hx
            clear hx hc
            have hri := ref_right x
            unfold EntryV.val at hri
            go_upto_region 16 with (fail)
            obtain ⟨B, hB⟩ : ∃ B, B = wr.heap.size := ⟨_, rfl⟩
            have B3 : Hid ((wr.alloc (.cells x.cells.toArray 32)).heap[wr.heap.size]? = some (.cells x.cells.toArray 32 (0, 0))) := heap_alloc_new wr (.cells x.cells.toArray 32)
            have K11 : Hid (Kept noBlock w10 (wr.alloc (.cells x.cells.toArray 32))) := HKv.out.step (Kept.alloc noBlock wr _)
            have HLW : Hid (Lies (wr.alloc (.cells x.cells.toArray 32)) (fun _ => True) (some ⟨b, o, none⟩) (entCells yl)) := HLV.out.lies.keep (Kept.alloc noBlock wr (.cells x.cells.toArray 32)) (fun _ _ h => h)
            unfold EntryV.cells at B3 K11 HLW
            rw [← hB] at B3 ⊢
            clear hB
            generalize wr.alloc (.cells [.int .i64 x.index, .int .i64 x.term, .int .i64 x.cmd.op, .int .i64 x.cmd.client, .int .i64 x.cmd.seq, .string x.cmd.key, .string x.cmd.value, .string x.cmd.old].toArray 32) = w11 at B3 K11 HLW ⊢
            have HSS : Hid (∀ w', Kept noBlock w11 w' → w'.cell? ⟨B, 0, none⟩ = some (.int .i64 x.index) ∧ w'.cell? ⟨B, 1, none⟩ = some (.int .i64 x.term) ∧ w'.cell? ⟨B, 2, none⟩ = some (.int .i64 x.cmd.op) ∧ w'.cell? ⟨B, 3, none⟩ = some (.int .i64 x.cmd.client) ∧ w'.cell? ⟨B, 4, none⟩ = some (.int .i64 x.cmd.seq) ∧ w'.cell? ⟨B, 5, none⟩ = some (.string x.cmd.key) ∧ w'.cell? ⟨B, 6, none⟩ = some (.string x.cmd.value) ∧ w'.cell? ⟨B, 7, none⟩ = some (.string x.cmd.old)) := fun w' k => ent_cells (e := x) (k.blk B3.out (fun h => h))
            have h1 : IntKind.i64.wrap (f0 : Int) = (f0 : Int) := IntWalk.i64_in _ (by omega)
            have h2 : IntKind.i64.wrap ((f0 : Int) + 1) = f1 := by rw [HF1.out]; exact IntWalk.i64_in _ (by omega)
            obtain ⟨fk, hfk⟩ : ∃ fk : Int, fk = f1 + (k : Int) := ⟨_, rfl⟩
            have h3 : IntKind.i64.wrap (f1 + (k : Int)) = fk := by rw [hfk, HF1.out]; exact IntWalk.i64_in _ (by omega)
            have HFK := Lib.hid hfk
            clear hfk c0 c1 c2 c3 c4 c5 c6 c7
            cases q
            · skip
              refine wp_region_noPanic ?_
              refine wp_region_held_drew (S := fun w' => w'.cell? ⟨B, 0, none⟩ = some (.int .i64 x.index) ∧ w'.cell? ⟨B, 1, none⟩ = some (.int .i64 x.term) ∧ w'.cell? ⟨B, 2, none⟩ = some (.int .i64 x.cmd.op) ∧ w'.cell? ⟨B, 3, none⟩ = some (.int .i64 x.cmd.client) ∧ w'.cell? ⟨B, 4, none⟩ = some (.int .i64 x.cmd.seq) ∧ w'.cell? ⟨B, 5, none⟩ = some (.string x.cmd.key) ∧ w'.cell? ⟨B, 6, none⟩ = some (.string x.cmd.value) ∧ w'.cell? ⟨B, 7, none⟩ = some (.string x.cmd.old)) (by kernel_rfl) (HSS.out _ (Kept.drew _ _)) (fun hHeld => ?_)
              refine wpAnyH_take (i := 0) (oi := ⟨some 63, Op.move (Operand.tmp 15), 4, _, _, none⟩) (v := ?v0n2k1) rfl (by kernel_rfl) (by kernel_rfl) (by kernel_rfl) (fun _ _ _ h => h) (Or.inl ⟨by rfl, ?y0n2k1⟩) hHeld ?z0n2k1
              case y0n2k1 => intro w hSw; (try dsimp only at hSw); go_simp <;> rfl
              try simp only [Act.put, List.setIfInBounds_toArray, List.set_cons_zero, List.set_cons_succ]
              refine wpAnyH_take (i := 1) (oi := ⟨some 64, Op.move (Operand.tmp 63), 4, _, _, none⟩) (v := ?v1n2k2) rfl (by kernel_rfl) (by kernel_rfl) (by kernel_rfl) (fun _ _ _ h => h) (Or.inl ⟨by rfl, ?y1n2k2⟩) hHeld ?z1n2k2
              case y1n2k2 => intro w hSw; (try dsimp only at hSw); go_simp <;> rfl
              try simp only [Act.put, List.setIfInBounds_toArray, List.set_cons_zero, List.set_cons_succ]
              refine wpAnyH_take (i := 2) (oi := ⟨some 65, Op.load 32 (Operand.tmp 17), 32, _, _, some (1, true)⟩) (v := undef) rfl (by kernel_rfl) (by kernel_rfl) (by kernel_rfl) (fun _ _ _ h => h) (Or.inr ⟨by rfl, rfl⟩) hHeld ?z2n2k3
              try simp only [Act.put, List.setIfInBounds_toArray, List.set_cons_zero, List.set_cons_succ]
              refine wpAnyH_take (i := 3) (oi := ⟨some 66, Op.call { callee := Callee.value (Operand.func 15), args := #[Operand.tmp 65], argTypes := #[32] }, 4, _, _, some (1, true)⟩) (v := undef) rfl (by kernel_rfl) (by kernel_rfl) (by kernel_rfl) (fun _ _ _ h => h) (Or.inr ⟨by rfl, rfl⟩) hHeld ?z3n2k4
              try simp only [Act.put, List.setIfInBounds_toArray, List.set_cons_zero, List.set_cons_succ]
              refine wpAnyH_take (i := 4) (oi := ⟨some 67, Op.pick (Operand.tmp 64) (Operand.tmp 66) (Operand.const (Value.bool false)), 4, _, _, none⟩) (v := ?v4n2k5) rfl (by kernel_rfl) (by kernel_rfl) (by kernel_rfl) (fun _ _ _ h => h) (Or.inl ⟨by rfl, ?y4n2k5⟩) hHeld ?z4n2k5
              case y4n2k5 => intro w hSw; (try dsimp only at hSw); go_simp <;> rfl
              try simp only [Act.put, List.setIfInBounds_toArray, List.set_cons_zero, List.set_cons_succ]
              refine wpAnyH_take (i := 5) (oi := ⟨some 68, Op.move (Operand.tmp 67), 4, _, _, none⟩) (v := ?v5n2k6) rfl (by kernel_rfl) (by kernel_rfl) (by kernel_rfl) (fun _ _ _ h => h) (Or.inl ⟨by rfl, ?y5n2k6⟩) hHeld ?z5n2k6
              case y5n2k6 => intro w hSw; (try dsimp only at hSw); go_simp <;> rfl
              try simp only [Act.put, List.setIfInBounds_toArray, List.set_cons_zero, List.set_cons_succ]
              refine wpAnyH_take (i := 6) (oi := ⟨some 69, Op.fieldAddr 32 (Operand.tmp 17) 0, 0, _, _, some (5, true)⟩) (v := undef) rfl (by kernel_rfl) (by kernel_rfl) (by kernel_rfl) (fun _ _ _ h => h) (Or.inr ⟨by rfl, rfl⟩) hHeld ?z6n2k7
              try simp only [Act.put, List.setIfInBounds_toArray, List.set_cons_zero, List.set_cons_succ]
              refine wpAnyH_take (i := 7) (oi := ⟨some 70, Op.load 3 (Operand.tmp 69), 3, _, _, some (5, true)⟩) (v := undef) rfl (by kernel_rfl) (by kernel_rfl) (by kernel_rfl) (fun _ _ _ h => h) (Or.inr ⟨by rfl, rfl⟩) hHeld ?z7n2k8
              try simp only [Act.put, List.setIfInBounds_toArray, List.set_cons_zero, List.set_cons_succ]
              refine wpAnyH_take (i := 8) (oi := ⟨some 71, Op.move (Operand.tmp 1), 36, _, _, some (5, true)⟩) (v := undef) rfl (by kernel_rfl) (by kernel_rfl) (by kernel_rfl) (fun _ _ _ h => h) (Or.inr ⟨by rfl, rfl⟩) hHeld ?z8n2k9
              try simp only [Act.put, List.setIfInBounds_toArray, List.set_cons_zero, List.set_cons_succ]
              refine wpAnyH_take (i := 9) (oi := ⟨some 72, Op.convert 36 3 (Operand.tmp 71), 3, _, _, some (5, true)⟩) (v := undef) rfl (by kernel_rfl) (by kernel_rfl) (by kernel_rfl) (fun _ _ _ h => h) (Or.inr ⟨by rfl, rfl⟩) hHeld ?z9n2k10
              try simp only [Act.put, List.setIfInBounds_toArray, List.set_cons_zero, List.set_cons_succ]
              refine wpAnyH_take (i := 10) (oi := ⟨some 73, Op.binOp BinOp.add 3 (Operand.tmp 72) (Operand.const (Value.int IntKind.i64 1)) 3, 3, _, _, some (5, true)⟩) (v := undef) rfl (by kernel_rfl) (by kernel_rfl) (by kernel_rfl) (fun _ _ _ h => h) (Or.inr ⟨by rfl, rfl⟩) hHeld ?z10n2k11
              try simp only [Act.put, List.setIfInBounds_toArray, List.set_cons_zero, List.set_cons_succ]
              refine wpAnyH_take (i := 11) (oi := ⟨some 74, Op.move (Operand.tmp 16), 3, _, _, some (5, true)⟩) (v := undef) rfl (by kernel_rfl) (by kernel_rfl) (by kernel_rfl) (fun _ _ _ h => h) (Or.inr ⟨by rfl, rfl⟩) hHeld ?z11n2k12
              try simp only [Act.put, List.setIfInBounds_toArray, List.set_cons_zero, List.set_cons_succ]
              refine wpAnyH_take (i := 12) (oi := ⟨some 75, Op.binOp BinOp.add 3 (Operand.tmp 73) (Operand.tmp 74) 3, 3, _, _, some (5, true)⟩) (v := undef) rfl (by kernel_rfl) (by kernel_rfl) (by kernel_rfl) (fun _ _ _ h => h) (Or.inr ⟨by rfl, rfl⟩) hHeld ?z12n2k13
              try simp only [Act.put, List.setIfInBounds_toArray, List.set_cons_zero, List.set_cons_succ]
              refine wpAnyH_take (i := 13) (oi := ⟨some 76, Op.binOp BinOp.eql 3 (Operand.tmp 70) (Operand.tmp 75) 3, 4, _, _, some (5, true)⟩) (v := undef) rfl (by kernel_rfl) (by kernel_rfl) (by kernel_rfl) (fun _ _ _ h => h) (Or.inr ⟨by rfl, rfl⟩) hHeld ?z13n2k14
              try simp only [Act.put, List.setIfInBounds_toArray, List.set_cons_zero, List.set_cons_succ]
              refine wpAnyH_take (i := 14) (oi := ⟨some 77, Op.pick (Operand.tmp 68) (Operand.tmp 76) (Operand.const (Value.bool false)), 4, _, _, none⟩) (v := ?v14n2k15) rfl (by kernel_rfl) (by kernel_rfl) (by kernel_rfl) (fun _ _ _ h => h) (Or.inl ⟨by rfl, ?y14n2k15⟩) hHeld ?z14n2k15
              case y14n2k15 => intro w hSw; (try dsimp only at hSw); go_simp <;> rfl
              try simp only [Act.put, List.setIfInBounds_toArray, List.set_cons_zero, List.set_cons_succ]
              refine wpAnyH_take (i := 15) (oi := ⟨some 78, Op.move (Operand.tmp 77), 4, _, _, none⟩) (v := ?v15n2k16) rfl (by kernel_rfl) (by kernel_rfl) (by kernel_rfl) (fun _ _ _ h => h) (Or.inl ⟨by rfl, ?y15n2k16⟩) hHeld ?z15n2k16
              case y15n2k16 => intro w hSw; (try dsimp only at hSw); go_simp <;> rfl
              try simp only [Act.put, List.setIfInBounds_toArray, List.set_cons_zero, List.set_cons_succ]
              refine wpAnyH_take (i := 16) (oi := ⟨some 79, Op.move (Operand.tmp 16), 3, _, _, some (15, true)⟩) (v := undef) rfl (by kernel_rfl) (by kernel_rfl) (by kernel_rfl) (fun _ _ _ h => h) (Or.inr ⟨by rfl, rfl⟩) hHeld ?z16n2k17
              try simp only [Act.put, List.setIfInBounds_toArray, List.set_cons_zero, List.set_cons_succ]
              refine wpAnyH_take (i := 17) (oi := ⟨some 80, Op.binOp BinOp.eql 3 (Operand.tmp 79) (Operand.const (Value.int IntKind.i64 0)) 3, 4, _, _, some (15, true)⟩) (v := undef) rfl (by kernel_rfl) (by kernel_rfl) (by kernel_rfl) (fun _ _ _ h => h) (Or.inr ⟨by rfl, rfl⟩) hHeld ?z17n2k18
              try simp only [Act.put, List.setIfInBounds_toArray, List.set_cons_zero, List.set_cons_succ]
              refine wpAnyH_take (i := 18) (oi := ⟨some 81, Op.move (Operand.tmp 80), 4, _, _, some (15, true)⟩) (v := undef) rfl (by kernel_rfl) (by kernel_rfl) (by kernel_rfl) (fun _ _ _ h => h) (Or.inr ⟨by rfl, rfl⟩) hHeld ?z18n2k19
              try simp only [Act.put, List.setIfInBounds_toArray, List.set_cons_zero, List.set_cons_succ]
              refine wpAnyH_take (i := 19) (oi := ⟨some 82, Op.fieldAddr 32 (Operand.tmp 17) 1, 0, _, _, some (18, false)⟩) (v := undef) rfl (by kernel_rfl) (by kernel_rfl) (by kernel_rfl) (fun _ _ _ h => h) (Or.inr ⟨by rfl, rfl⟩) hHeld ?z19n2k20
              try simp only [Act.put, List.setIfInBounds_toArray, List.set_cons_zero, List.set_cons_succ]
              refine wpAnyH_take (i := 20) (oi := ⟨some 83, Op.load 3 (Operand.tmp 82), 3, _, _, some (18, false)⟩) (v := undef) rfl (by kernel_rfl) (by kernel_rfl) (by kernel_rfl) (fun _ _ _ h => h) (Or.inr ⟨by rfl, rfl⟩) hHeld ?z20n2k21
              try simp only [Act.put, List.setIfInBounds_toArray, List.set_cons_zero, List.set_cons_succ]
              refine wpAnyH_take (i := 21) (oi := ⟨some 84, Op.move (Operand.tmp 14), 37, _, _, some (18, false)⟩) (v := undef) rfl (by kernel_rfl) (by kernel_rfl) (by kernel_rfl) (fun _ _ _ h => h) (Or.inr ⟨by rfl, rfl⟩) hHeld ?z21n2k22
              try simp only [Act.put, List.setIfInBounds_toArray, List.set_cons_zero, List.set_cons_succ]
              refine wpAnyH_take (i := 22) (oi := ⟨some 85, Op.move (Operand.tmp 16), 3, _, _, some (18, false)⟩) (v := undef) rfl (by kernel_rfl) (by kernel_rfl) (by kernel_rfl) (fun _ _ _ h => h) (Or.inr ⟨by rfl, rfl⟩) hHeld ?z22n2k23
              try simp only [Act.put, List.setIfInBounds_toArray, List.set_cons_zero, List.set_cons_succ]
              refine wpAnyH_take (i := 23) (oi := ⟨some 86, Op.binOp BinOp.sub 3 (Operand.tmp 85) (Operand.const (Value.int IntKind.i64 1)) 3, 3, _, _, some (18, false)⟩) (v := undef) rfl (by kernel_rfl) (by kernel_rfl) (by kernel_rfl) (fun _ _ _ h => h) (Or.inr ⟨by rfl, rfl⟩) hHeld ?z23n2k24
              try simp only [Act.put, List.setIfInBounds_toArray, List.set_cons_zero, List.set_cons_succ]
              refine wpAnyH_take (i := 24) (oi := ⟨some 87, Op.indexAddr 37 (Operand.tmp 84) (Operand.tmp 86), 0, _, _, some (18, false)⟩) (v := undef) rfl (by kernel_rfl) (by kernel_rfl) (by kernel_rfl) (fun _ _ _ h => h) (Or.inr ⟨by rfl, rfl⟩) hHeld ?z24n2k25
              try simp only [Act.put, List.setIfInBounds_toArray, List.set_cons_zero, List.set_cons_succ]
              refine wpAnyH_take (i := 25) (oi := ⟨some 88, Op.fieldAddr 32 (Operand.tmp 87) 1, 0, _, _, some (18, false)⟩) (v := undef) rfl (by kernel_rfl) (by kernel_rfl) (by kernel_rfl) (fun _ _ _ h => h) (Or.inr ⟨by rfl, rfl⟩) hHeld ?z25n2k26
              try simp only [Act.put, List.setIfInBounds_toArray, List.set_cons_zero, List.set_cons_succ]
              refine wpAnyH_take (i := 26) (oi := ⟨some 89, Op.load 3 (Operand.tmp 88), 3, _, _, some (18, false)⟩) (v := undef) rfl (by kernel_rfl) (by kernel_rfl) (by kernel_rfl) (fun _ _ _ h => h) (Or.inr ⟨by rfl, rfl⟩) hHeld ?z26n2k27
              try simp only [Act.put, List.setIfInBounds_toArray, List.set_cons_zero, List.set_cons_succ]
              refine wpAnyH_take (i := 27) (oi := ⟨some 90, Op.binOp BinOp.geq 3 (Operand.tmp 83) (Operand.tmp 89) 3, 4, _, _, some (18, false)⟩) (v := undef) rfl (by kernel_rfl) (by kernel_rfl) (by kernel_rfl) (fun _ _ _ h => h) (Or.inr ⟨by rfl, rfl⟩) hHeld ?z27n2k28
              try simp only [Act.put, List.setIfInBounds_toArray, List.set_cons_zero, List.set_cons_succ]
              refine wpAnyH_take (i := 28) (oi := ⟨some 91, Op.pick (Operand.tmp 81) (Operand.const (Value.bool true)) (Operand.tmp 90), 4, _, _, some (15, true)⟩) (v := undef) rfl (by kernel_rfl) (by kernel_rfl) (by kernel_rfl) (fun _ _ _ h => h) (Or.inr ⟨by rfl, rfl⟩) hHeld ?z28n2k29
              try simp only [Act.put, List.setIfInBounds_toArray, List.set_cons_zero, List.set_cons_succ]
              refine wpAnyH_take (i := 29) (oi := ⟨some 92, Op.pick (Operand.tmp 78) (Operand.tmp 91) (Operand.const (Value.bool false)), 4, _, _, none⟩) (v := ?v29n2k30) rfl (by kernel_rfl) (by kernel_rfl) (by kernel_rfl) (fun _ _ _ h => h) (Or.inl ⟨by rfl, ?y29n2k30⟩) hHeld ?z29n2k30
              case y29n2k30 => intro w hSw; (try dsimp only at hSw); go_simp <;> rfl
              try simp only [Act.put, List.setIfInBounds_toArray, List.set_cons_zero, List.set_cons_succ]
              refine wpAnyH_take (i := 30) (oi := ⟨some 15, Op.assign (Operand.tmp 92), 4, _, _, none⟩) (v := ?v30n2k31) rfl (by kernel_rfl) (by kernel_rfl) (by kernel_rfl) (fun _ _ _ h => h) (Or.inl ⟨by rfl, ?y30n2k31⟩) hHeld ?z30n2k31
              case y30n2k31 => intro w hSw; (try dsimp only at hSw); go_simp <;> rfl
              try simp only [Act.put, List.setIfInBounds_toArray, List.set_cons_zero, List.set_cons_succ]
              refine wpAnyH_done (by kernel_rfl) ?_ _
              refine NoPanic.normal ?_
              go_wp2
              go_roundw
              case rel =>
                refine ⟨k + 1, by omega, by go_num, Lib.hid ⟨_, rfl, good_more HQ.out _ ?_⟩, Lib.hid (K11.out.step (Kept.drew _ _))⟩
                constructor
                · intro h; cases h
                · rintro ⟨h, hg⟩
                  cases h
              case measure => simp [intOf]; omega
            · by_cases hR : x.Right
              · rw [decide_eq_true hR] at hri
                have HRR := Lib.hid hR
                clear hR
                by_cases hI : x.index = fk
                · have hI' : (x.index == fk) = true := by simpa using hI
                  have HIX := Lib.hid hI
                  clear hI
                  by_cases hk0 : k = 0
                  · have kz : ((k : Int) == 0) = true := by simpa using hk0
                    have HK0 := Lib.hid hk0
                    clear hk0
                    refine wp_region_noPanic ?_
                    refine wp_region_held_drew (S := fun w' => w'.cell? ⟨B, 0, none⟩ = some (.int .i64 x.index) ∧ w'.cell? ⟨B, 1, none⟩ = some (.int .i64 x.term) ∧ w'.cell? ⟨B, 2, none⟩ = some (.int .i64 x.cmd.op) ∧ w'.cell? ⟨B, 3, none⟩ = some (.int .i64 x.cmd.client) ∧ w'.cell? ⟨B, 4, none⟩ = some (.int .i64 x.cmd.seq) ∧ w'.cell? ⟨B, 5, none⟩ = some (.string x.cmd.key) ∧ w'.cell? ⟨B, 6, none⟩ = some (.string x.cmd.value) ∧ w'.cell? ⟨B, 7, none⟩ = some (.string x.cmd.old)) (by kernel_rfl) (HSS.out _ (Kept.drew _ _)) (fun hHeld => ?_)
                    refine wpAnyH_take (i := 0) (oi := ⟨some 63, Op.move (Operand.tmp 15), 4, _, _, none⟩) (v := ?v0n3k1) rfl (by kernel_rfl) (by kernel_rfl) (by kernel_rfl) (fun _ _ _ h => h) (Or.inl ⟨by rfl, ?y0n3k1⟩) hHeld ?z0n3k1
                    case y0n3k1 => intro w hSw; (try dsimp only at hSw); go_simp <;> rfl
                    try simp only [Act.put, List.setIfInBounds_toArray, List.set_cons_zero, List.set_cons_succ]
                    refine wpAnyH_take (i := 1) (oi := ⟨some 64, Op.move (Operand.tmp 63), 4, _, _, none⟩) (v := ?v1n3k2) rfl (by kernel_rfl) (by kernel_rfl) (by kernel_rfl) (fun _ _ _ h => h) (Or.inl ⟨by rfl, ?y1n3k2⟩) hHeld ?z1n3k2
                    case y1n3k2 => intro w hSw; (try dsimp only at hSw); go_simp <;> rfl
                    try simp only [Act.put, List.setIfInBounds_toArray, List.set_cons_zero, List.set_cons_succ]
                    refine wpAnyH_take (i := 2) (oi := ⟨some 65, Op.load 32 (Operand.tmp 17), 32, _, _, some (1, true)⟩) (v := ?v2n3k3) rfl (by kernel_rfl) (by kernel_rfl) (by kernel_rfl) (fun _ _ _ h => h) (Or.inl ⟨by rfl, ?y2n3k3⟩) hHeld ?z2n3k3
                    case y2n3k3 => intro w hSw; (try dsimp only at hSw); go_simp <;> rfl
                    try simp only [Act.put, List.setIfInBounds_toArray, List.set_cons_zero, List.set_cons_succ]
                    refine wpAnyH_ready (rs := [3]) (by kernel_rfl) (by simp) ?_
                    refine AllReadyH.cons (o := ⟨some 66, Op.call { callee := Callee.value (Operand.func 15), args := #[Operand.tmp 65], argTypes := #[32] }, 4, _, _, some (1, true)⟩) rfl (fun K hK => ?_) AllReadyH.nil
                    go_simp
                    refine (hri _).mono ?_
                    rintro e w12 ⟨rfl, k12⟩
                    have K12 := Lib.hid ((Kept.drew noBlock w11).step k12)
                    clear k12
                    dsimp only
                    refine hK.out _ _ (HSS.out _ K12.out) (fun hHeld => ?_)
                    clear hK K
                    try simp only [Act.put, List.setIfInBounds_toArray, List.set_cons_zero, List.set_cons_succ]
                    refine wpAnyH_take (i := 4) (oi := ⟨some 67, Op.pick (Operand.tmp 64) (Operand.tmp 66) (Operand.const (Value.bool false)), 4, _, _, none⟩) (v := ?v4n3k4) rfl (by kernel_rfl) (by kernel_rfl) (by kernel_rfl) (fun _ _ _ h => h) (Or.inl ⟨by rfl, ?y4n3k4⟩) hHeld ?z4n3k4
                    case y4n3k4 => intro w hSw; (try dsimp only at hSw); go_simp <;> rfl
                    try simp only [Act.put, List.setIfInBounds_toArray, List.set_cons_zero, List.set_cons_succ]
                    refine wpAnyH_take (i := 5) (oi := ⟨some 68, Op.move (Operand.tmp 67), 4, _, _, none⟩) (v := ?v5n3k5) rfl (by kernel_rfl) (by kernel_rfl) (by kernel_rfl) (fun _ _ _ h => h) (Or.inl ⟨by rfl, ?y5n3k5⟩) hHeld ?z5n3k5
                    case y5n3k5 => intro w hSw; (try dsimp only at hSw); go_simp <;> rfl
                    try simp only [Act.put, List.setIfInBounds_toArray, List.set_cons_zero, List.set_cons_succ]
                    refine wpAnyH_take (i := 6) (oi := ⟨some 69, Op.fieldAddr 32 (Operand.tmp 17) 0, 0, _, _, some (5, true)⟩) (v := ?v6n3k6) rfl (by kernel_rfl) (by kernel_rfl) (by kernel_rfl) (fun _ _ _ h => h) (Or.inl ⟨by rfl, ?y6n3k6⟩) hHeld ?z6n3k6
                    case y6n3k6 => intro w hSw; (try dsimp only at hSw); go_simp <;> rfl
                    try simp only [Act.put, List.setIfInBounds_toArray, List.set_cons_zero, List.set_cons_succ]
                    refine wpAnyH_take (i := 7) (oi := ⟨some 70, Op.load 3 (Operand.tmp 69), 3, _, _, some (5, true)⟩) (v := ?v7n3k7) rfl (by kernel_rfl) (by kernel_rfl) (by kernel_rfl) (fun _ _ _ h => h) (Or.inl ⟨by rfl, ?y7n3k7⟩) hHeld ?z7n3k7
                    case y7n3k7 => intro w hSw; (try dsimp only at hSw); go_simp <;> rfl
                    try simp only [Act.put, List.setIfInBounds_toArray, List.set_cons_zero, List.set_cons_succ]
                    refine wpAnyH_take (i := 8) (oi := ⟨some 71, Op.move (Operand.tmp 1), 36, _, _, some (5, true)⟩) (v := ?v8n3k8) rfl (by kernel_rfl) (by kernel_rfl) (by kernel_rfl) (fun _ _ _ h => h) (Or.inl ⟨by rfl, ?y8n3k8⟩) hHeld ?z8n3k8
                    case y8n3k8 => intro w hSw; (try dsimp only at hSw); go_simp <;> rfl
                    try simp only [Act.put, List.setIfInBounds_toArray, List.set_cons_zero, List.set_cons_succ]
                    refine wpAnyH_take (i := 9) (oi := ⟨some 72, Op.convert 36 3 (Operand.tmp 71), 3, _, _, some (5, true)⟩) (v := ?v9n3k9) rfl (by kernel_rfl) (by kernel_rfl) (by kernel_rfl) (fun _ _ _ h => h) (Or.inl ⟨by rfl, ?y9n3k9⟩) hHeld ?z9n3k9
                    case y9n3k9 => intro w hSw; (try dsimp only at hSw); go_simp <;> rfl
                    try simp only [Act.put, List.setIfInBounds_toArray, List.set_cons_zero, List.set_cons_succ]
                    refine wpAnyH_take (i := 10) (oi := ⟨some 73, Op.binOp BinOp.add 3 (Operand.tmp 72) (Operand.const (Value.int IntKind.i64 1)) 3, 3, _, _, some (5, true)⟩) (v := ?v10n3k10) rfl (by kernel_rfl) (by kernel_rfl) (by kernel_rfl) (fun _ _ _ h => h) (Or.inl ⟨by rfl, ?y10n3k10⟩) hHeld ?z10n3k10
                    case y10n3k10 => intro w hSw; (try dsimp only at hSw); go_simp <;> rfl
                    try simp only [Act.put, List.setIfInBounds_toArray, List.set_cons_zero, List.set_cons_succ]
                    refine wpAnyH_take (i := 11) (oi := ⟨some 74, Op.move (Operand.tmp 16), 3, _, _, some (5, true)⟩) (v := ?v11n3k11) rfl (by kernel_rfl) (by kernel_rfl) (by kernel_rfl) (fun _ _ _ h => h) (Or.inl ⟨by rfl, ?y11n3k11⟩) hHeld ?z11n3k11
                    case y11n3k11 => intro w hSw; (try dsimp only at hSw); go_simp <;> rfl
                    try simp only [Act.put, List.setIfInBounds_toArray, List.set_cons_zero, List.set_cons_succ]
                    refine wpAnyH_take (i := 12) (oi := ⟨some 75, Op.binOp BinOp.add 3 (Operand.tmp 73) (Operand.tmp 74) 3, 3, _, _, some (5, true)⟩) (v := ?v12n3k12) rfl (by kernel_rfl) (by kernel_rfl) (by kernel_rfl) (fun _ _ _ h => h) (Or.inl ⟨by rfl, ?y12n3k12⟩) hHeld ?z12n3k12
                    case y12n3k12 => intro w hSw; (try dsimp only at hSw); go_simp <;> rfl
                    try simp only [Act.put, List.setIfInBounds_toArray, List.set_cons_zero, List.set_cons_succ]
                    refine wpAnyH_take (i := 13) (oi := ⟨some 76, Op.binOp BinOp.eql 3 (Operand.tmp 70) (Operand.tmp 75) 3, 4, _, _, some (5, true)⟩) (v := ?v13n3k13) rfl (by kernel_rfl) (by kernel_rfl) (by kernel_rfl) (fun _ _ _ h => h) (Or.inl ⟨by rfl, ?y13n3k13⟩) hHeld ?z13n3k13
                    case y13n3k13 => intro w hSw; (try dsimp only at hSw); go_simp <;> rfl
                    try simp only [Act.put, List.setIfInBounds_toArray, List.set_cons_zero, List.set_cons_succ]
                    refine wpAnyH_take (i := 14) (oi := ⟨some 77, Op.pick (Operand.tmp 68) (Operand.tmp 76) (Operand.const (Value.bool false)), 4, _, _, none⟩) (v := ?v14n3k14) rfl (by kernel_rfl) (by kernel_rfl) (by kernel_rfl) (fun _ _ _ h => h) (Or.inl ⟨by rfl, ?y14n3k14⟩) hHeld ?z14n3k14
                    case y14n3k14 => intro w hSw; (try dsimp only at hSw); go_simp <;> rfl
                    try simp only [Act.put, List.setIfInBounds_toArray, List.set_cons_zero, List.set_cons_succ]
                    refine wpAnyH_take (i := 15) (oi := ⟨some 78, Op.move (Operand.tmp 77), 4, _, _, none⟩) (v := ?v15n3k15) rfl (by kernel_rfl) (by kernel_rfl) (by kernel_rfl) (fun _ _ _ h => h) (Or.inl ⟨by rfl, ?y15n3k15⟩) hHeld ?z15n3k15
                    case y15n3k15 => intro w hSw; (try dsimp only at hSw); go_simp <;> rfl
                    try simp only [Act.put, List.setIfInBounds_toArray, List.set_cons_zero, List.set_cons_succ]
                    refine wpAnyH_take (i := 16) (oi := ⟨some 79, Op.move (Operand.tmp 16), 3, _, _, some (15, true)⟩) (v := ?v16n3k16) rfl (by kernel_rfl) (by kernel_rfl) (by kernel_rfl) (fun _ _ _ h => h) (Or.inl ⟨by rfl, ?y16n3k16⟩) hHeld ?z16n3k16
                    case y16n3k16 => intro w hSw; (try dsimp only at hSw); go_simp <;> rfl
                    try simp only [Act.put, List.setIfInBounds_toArray, List.set_cons_zero, List.set_cons_succ]
                    refine wpAnyH_take (i := 17) (oi := ⟨some 80, Op.binOp BinOp.eql 3 (Operand.tmp 79) (Operand.const (Value.int IntKind.i64 0)) 3, 4, _, _, some (15, true)⟩) (v := ?v17n3k17) rfl (by kernel_rfl) (by kernel_rfl) (by kernel_rfl) (fun _ _ _ h => h) (Or.inl ⟨by rfl, ?y17n3k17⟩) hHeld ?z17n3k17
                    case y17n3k17 => intro w hSw; (try dsimp only at hSw); go_simp <;> rfl
                    try simp only [Act.put, List.setIfInBounds_toArray, List.set_cons_zero, List.set_cons_succ]
                    refine wpAnyH_take (i := 18) (oi := ⟨some 81, Op.move (Operand.tmp 80), 4, _, _, some (15, true)⟩) (v := ?v18n3k18) rfl (by kernel_rfl) (by kernel_rfl) (by kernel_rfl) (fun _ _ _ h => h) (Or.inl ⟨by rfl, ?y18n3k18⟩) hHeld ?z18n3k18
                    case y18n3k18 => intro w hSw; (try dsimp only at hSw); go_simp <;> rfl
                    try simp only [Act.put, List.setIfInBounds_toArray, List.set_cons_zero, List.set_cons_succ]
                    refine wpAnyH_take (i := 19) (oi := ⟨some 82, Op.fieldAddr 32 (Operand.tmp 17) 1, 0, _, _, some (18, false)⟩) (v := undef) rfl (by kernel_rfl) (by kernel_rfl) (by kernel_rfl) (fun _ _ _ h => h) (Or.inr ⟨by rfl, rfl⟩) hHeld ?z19n3k19
                    try simp only [Act.put, List.setIfInBounds_toArray, List.set_cons_zero, List.set_cons_succ]
                    refine wpAnyH_take (i := 20) (oi := ⟨some 83, Op.load 3 (Operand.tmp 82), 3, _, _, some (18, false)⟩) (v := undef) rfl (by kernel_rfl) (by kernel_rfl) (by kernel_rfl) (fun _ _ _ h => h) (Or.inr ⟨by rfl, rfl⟩) hHeld ?z20n3k20
                    try simp only [Act.put, List.setIfInBounds_toArray, List.set_cons_zero, List.set_cons_succ]
                    refine wpAnyH_take (i := 21) (oi := ⟨some 84, Op.move (Operand.tmp 14), 37, _, _, some (18, false)⟩) (v := undef) rfl (by kernel_rfl) (by kernel_rfl) (by kernel_rfl) (fun _ _ _ h => h) (Or.inr ⟨by rfl, rfl⟩) hHeld ?z21n3k21
                    try simp only [Act.put, List.setIfInBounds_toArray, List.set_cons_zero, List.set_cons_succ]
                    refine wpAnyH_take (i := 22) (oi := ⟨some 85, Op.move (Operand.tmp 16), 3, _, _, some (18, false)⟩) (v := undef) rfl (by kernel_rfl) (by kernel_rfl) (by kernel_rfl) (fun _ _ _ h => h) (Or.inr ⟨by rfl, rfl⟩) hHeld ?z22n3k22
                    try simp only [Act.put, List.setIfInBounds_toArray, List.set_cons_zero, List.set_cons_succ]
                    refine wpAnyH_take (i := 23) (oi := ⟨some 86, Op.binOp BinOp.sub 3 (Operand.tmp 85) (Operand.const (Value.int IntKind.i64 1)) 3, 3, _, _, some (18, false)⟩) (v := undef) rfl (by kernel_rfl) (by kernel_rfl) (by kernel_rfl) (fun _ _ _ h => h) (Or.inr ⟨by rfl, rfl⟩) hHeld ?z23n3k23
                    try simp only [Act.put, List.setIfInBounds_toArray, List.set_cons_zero, List.set_cons_succ]
                    refine wpAnyH_take (i := 24) (oi := ⟨some 87, Op.indexAddr 37 (Operand.tmp 84) (Operand.tmp 86), 0, _, _, some (18, false)⟩) (v := undef) rfl (by kernel_rfl) (by kernel_rfl) (by kernel_rfl) (fun _ _ _ h => h) (Or.inr ⟨by rfl, rfl⟩) hHeld ?z24n3k24
                    try simp only [Act.put, List.setIfInBounds_toArray, List.set_cons_zero, List.set_cons_succ]
                    refine wpAnyH_take (i := 25) (oi := ⟨some 88, Op.fieldAddr 32 (Operand.tmp 87) 1, 0, _, _, some (18, false)⟩) (v := undef) rfl (by kernel_rfl) (by kernel_rfl) (by kernel_rfl) (fun _ _ _ h => h) (Or.inr ⟨by rfl, rfl⟩) hHeld ?z25n3k25
                    try simp only [Act.put, List.setIfInBounds_toArray, List.set_cons_zero, List.set_cons_succ]
                    refine wpAnyH_take (i := 26) (oi := ⟨some 89, Op.load 3 (Operand.tmp 88), 3, _, _, some (18, false)⟩) (v := undef) rfl (by kernel_rfl) (by kernel_rfl) (by kernel_rfl) (fun _ _ _ h => h) (Or.inr ⟨by rfl, rfl⟩) hHeld ?z26n3k26
                    try simp only [Act.put, List.setIfInBounds_toArray, List.set_cons_zero, List.set_cons_succ]
                    refine wpAnyH_take (i := 27) (oi := ⟨some 90, Op.binOp BinOp.geq 3 (Operand.tmp 83) (Operand.tmp 89) 3, 4, _, _, some (18, false)⟩) (v := undef) rfl (by kernel_rfl) (by kernel_rfl) (by kernel_rfl) (fun _ _ _ h => h) (Or.inr ⟨by rfl, rfl⟩) hHeld ?z27n3k27
                    try simp only [Act.put, List.setIfInBounds_toArray, List.set_cons_zero, List.set_cons_succ]
                    refine wpAnyH_take (i := 28) (oi := ⟨some 91, Op.pick (Operand.tmp 81) (Operand.const (Value.bool true)) (Operand.tmp 90), 4, _, _, some (15, true)⟩) (v := ?v28n3k28) rfl (by kernel_rfl) (by kernel_rfl) (by kernel_rfl) (fun _ _ _ h => h) (Or.inl ⟨by rfl, ?y28n3k28⟩) hHeld ?z28n3k28
                    case y28n3k28 => intro w hSw; (try dsimp only at hSw); go_simp <;> rfl
                    try simp only [Act.put, List.setIfInBounds_toArray, List.set_cons_zero, List.set_cons_succ]
                    refine wpAnyH_take (i := 29) (oi := ⟨some 92, Op.pick (Operand.tmp 78) (Operand.tmp 91) (Operand.const (Value.bool false)), 4, _, _, none⟩) (v := ?v29n3k29) rfl (by kernel_rfl) (by kernel_rfl) (by kernel_rfl) (fun _ _ _ h => h) (Or.inl ⟨by rfl, ?y29n3k29⟩) hHeld ?z29n3k29
                    case y29n3k29 => intro w hSw; (try dsimp only at hSw); go_simp <;> rfl
                    try simp only [Act.put, List.setIfInBounds_toArray, List.set_cons_zero, List.set_cons_succ]
                    refine wpAnyH_take (i := 30) (oi := ⟨some 15, Op.assign (Operand.tmp 92), 4, _, _, none⟩) (v := ?v30n3k30) rfl (by kernel_rfl) (by kernel_rfl) (by kernel_rfl) (fun _ _ _ h => h) (Or.inl ⟨by rfl, ?y30n3k30⟩) hHeld ?z30n3k30
                    case y30n3k30 => intro w hSw; (try dsimp only at hSw); go_simp <;> rfl
                    try simp only [Act.put, List.setIfInBounds_toArray, List.set_cons_zero, List.set_cons_succ]
                    refine wpAnyH_done (by kernel_rfl) ?_ _
                    refine NoPanic.normal ?_
                    go_wp2
                    go_roundw
                    case rel =>
                      refine ⟨k + 1, by omega, by go_num, Lib.hid ⟨_, rfl, good_more HQ.out _ ?_⟩, Lib.hid (K11.out.step K12.out)⟩
                      constructor
                      · intro _
                        refine ⟨rfl, fun e he => ?_⟩
                        obtain rfl : x = e := by have := HX.out; rw [this] at he; injection he
                        exact ⟨HRR.out, by rw [← HFK.out]; exact HIX.out, fun p h0 => absurd h0 (by have := HK0.out; omega)⟩
                      · intro _; rfl
                    case measure => simp [intOf]; omega
                  · have kz : ((k : Int) == 0) = false := by simpa using hk0
                    obtain ⟨k1, hk1⟩ : ∃ k1, k = k1 + 1 := ⟨k - 1, by omega⟩
                    have hk1n : (k1 : Int) < (yn : Int) := by omega
                    have h4 : IntKind.i64.wrap ((k : Int) - 1) = (k1 : Int) := by rw [IntWalk.i64_in _ (by omega)]; omega
                    have hk1p : (0 : Int) ≤ (k1 : Int) := by omega
                    obtain ⟨p, hp⟩ : ∃ p, yl[k1]? = some p := ⟨_, List.getElem?_eq_getElem (by have := HL.out.len; simp only at this; omega)⟩
                    have HPX := Lib.hid hp
                    have HK1 := Lib.hid hk1
                    have HSP : Hid (∀ w', Kept noBlock w11 w' → (w'.cell? ⟨B, 0, none⟩ = some (.int .i64 x.index) ∧ w'.cell? ⟨B, 1, none⟩ = some (.int .i64 x.term) ∧ w'.cell? ⟨B, 2, none⟩ = some (.int .i64 x.cmd.op) ∧ w'.cell? ⟨B, 3, none⟩ = some (.int .i64 x.cmd.client) ∧ w'.cell? ⟨B, 4, none⟩ = some (.int .i64 x.cmd.seq) ∧ w'.cell? ⟨B, 5, none⟩ = some (.string x.cmd.key) ∧ w'.cell? ⟨B, 6, none⟩ = some (.string x.cmd.value) ∧ w'.cell? ⟨B, 7, none⟩ = some (.string x.cmd.old)) ∧ w'.cell? ⟨b, o + k1 * 8 + 1, none⟩ = some (.int .i64 p.term)) := fun w' kk => by
                      obtain ⟨b', o', hya', _, ea'⟩ := ents_cell (HLW.out.keep kk (fun _ _ h => h)) HPX.out
                      obtain ⟨rfl, rfl⟩ : b = b' ∧ o = o' := by injection hya' with hya'; injection hya' with h1 h2; exact ⟨h1, h2⟩
                      exact ⟨HSS.out w' kk, ea'.c1⟩
                    clear hk0 hk1 hp
                    refine wp_region_noPanic ?_
                    refine wp_region_held_drew (S := fun w' => (w'.cell? ⟨B, 0, none⟩ = some (.int .i64 x.index) ∧ w'.cell? ⟨B, 1, none⟩ = some (.int .i64 x.term) ∧ w'.cell? ⟨B, 2, none⟩ = some (.int .i64 x.cmd.op) ∧ w'.cell? ⟨B, 3, none⟩ = some (.int .i64 x.cmd.client) ∧ w'.cell? ⟨B, 4, none⟩ = some (.int .i64 x.cmd.seq) ∧ w'.cell? ⟨B, 5, none⟩ = some (.string x.cmd.key) ∧ w'.cell? ⟨B, 6, none⟩ = some (.string x.cmd.value) ∧ w'.cell? ⟨B, 7, none⟩ = some (.string x.cmd.old)) ∧ w'.cell? ⟨b, o + k1 * 8 + 1, none⟩ = some (.int .i64 p.term)) (by kernel_rfl) (HSP.out _ (Kept.drew _ _)) (fun hHeld => ?_)
                    refine wpAnyH_take (i := 0) (oi := ⟨some 63, Op.move (Operand.tmp 15), 4, _, _, none⟩) (v := ?v0n4k1) rfl (by kernel_rfl) (by kernel_rfl) (by kernel_rfl) (fun _ _ _ h => h) (Or.inl ⟨by rfl, ?y0n4k1⟩) hHeld ?z0n4k1
                    case y0n4k1 => intro w hSw; (try dsimp only at hSw); go_simp <;> rfl
                    try simp only [Act.put, List.setIfInBounds_toArray, List.set_cons_zero, List.set_cons_succ]
                    refine wpAnyH_take (i := 1) (oi := ⟨some 64, Op.move (Operand.tmp 63), 4, _, _, none⟩) (v := ?v1n4k2) rfl (by kernel_rfl) (by kernel_rfl) (by kernel_rfl) (fun _ _ _ h => h) (Or.inl ⟨by rfl, ?y1n4k2⟩) hHeld ?z1n4k2
                    case y1n4k2 => intro w hSw; (try dsimp only at hSw); go_simp <;> rfl
                    try simp only [Act.put, List.setIfInBounds_toArray, List.set_cons_zero, List.set_cons_succ]
                    refine wpAnyH_take (i := 2) (oi := ⟨some 65, Op.load 32 (Operand.tmp 17), 32, _, _, some (1, true)⟩) (v := ?v2n4k3) rfl (by kernel_rfl) (by kernel_rfl) (by kernel_rfl) (fun _ _ _ h => h) (Or.inl ⟨by rfl, ?y2n4k3⟩) hHeld ?z2n4k3
                    case y2n4k3 => intro w hSw; (try dsimp only at hSw); go_simp <;> rfl
                    try simp only [Act.put, List.setIfInBounds_toArray, List.set_cons_zero, List.set_cons_succ]
                    refine wpAnyH_ready (rs := [3]) (by kernel_rfl) (by simp) ?_
                    refine AllReadyH.cons (o := ⟨some 66, Op.call { callee := Callee.value (Operand.func 15), args := #[Operand.tmp 65], argTypes := #[32] }, 4, _, _, some (1, true)⟩) rfl (fun K hK => ?_) AllReadyH.nil
                    go_simp
                    refine (hri _).mono ?_
                    rintro e w12 ⟨rfl, k12⟩
                    have K12 := Lib.hid ((Kept.drew noBlock w11).step k12)
                    clear k12
                    dsimp only
                    refine hK.out _ _ (HSP.out _ K12.out) (fun hHeld => ?_)
                    clear hK K
                    try simp only [Act.put, List.setIfInBounds_toArray, List.set_cons_zero, List.set_cons_succ]
                    refine wpAnyH_take (i := 4) (oi := ⟨some 67, Op.pick (Operand.tmp 64) (Operand.tmp 66) (Operand.const (Value.bool false)), 4, _, _, none⟩) (v := ?v4n4k4) rfl (by kernel_rfl) (by kernel_rfl) (by kernel_rfl) (fun _ _ _ h => h) (Or.inl ⟨by rfl, ?y4n4k4⟩) hHeld ?z4n4k4
                    case y4n4k4 => intro w hSw; (try dsimp only at hSw); go_simp <;> rfl
                    try simp only [Act.put, List.setIfInBounds_toArray, List.set_cons_zero, List.set_cons_succ]
                    refine wpAnyH_take (i := 5) (oi := ⟨some 68, Op.move (Operand.tmp 67), 4, _, _, none⟩) (v := ?v5n4k5) rfl (by kernel_rfl) (by kernel_rfl) (by kernel_rfl) (fun _ _ _ h => h) (Or.inl ⟨by rfl, ?y5n4k5⟩) hHeld ?z5n4k5
                    case y5n4k5 => intro w hSw; (try dsimp only at hSw); go_simp <;> rfl
                    try simp only [Act.put, List.setIfInBounds_toArray, List.set_cons_zero, List.set_cons_succ]
                    refine wpAnyH_take (i := 6) (oi := ⟨some 69, Op.fieldAddr 32 (Operand.tmp 17) 0, 0, _, _, some (5, true)⟩) (v := ?v6n4k6) rfl (by kernel_rfl) (by kernel_rfl) (by kernel_rfl) (fun _ _ _ h => h) (Or.inl ⟨by rfl, ?y6n4k6⟩) hHeld ?z6n4k6
                    case y6n4k6 => intro w hSw; (try dsimp only at hSw); go_simp <;> rfl
                    try simp only [Act.put, List.setIfInBounds_toArray, List.set_cons_zero, List.set_cons_succ]
                    refine wpAnyH_take (i := 7) (oi := ⟨some 70, Op.load 3 (Operand.tmp 69), 3, _, _, some (5, true)⟩) (v := ?v7n4k7) rfl (by kernel_rfl) (by kernel_rfl) (by kernel_rfl) (fun _ _ _ h => h) (Or.inl ⟨by rfl, ?y7n4k7⟩) hHeld ?z7n4k7
                    case y7n4k7 => intro w hSw; (try dsimp only at hSw); go_simp <;> rfl
                    try simp only [Act.put, List.setIfInBounds_toArray, List.set_cons_zero, List.set_cons_succ]
                    refine wpAnyH_take (i := 8) (oi := ⟨some 71, Op.move (Operand.tmp 1), 36, _, _, some (5, true)⟩) (v := ?v8n4k8) rfl (by kernel_rfl) (by kernel_rfl) (by kernel_rfl) (fun _ _ _ h => h) (Or.inl ⟨by rfl, ?y8n4k8⟩) hHeld ?z8n4k8
                    case y8n4k8 => intro w hSw; (try dsimp only at hSw); go_simp <;> rfl
                    try simp only [Act.put, List.setIfInBounds_toArray, List.set_cons_zero, List.set_cons_succ]
                    refine wpAnyH_take (i := 9) (oi := ⟨some 72, Op.convert 36 3 (Operand.tmp 71), 3, _, _, some (5, true)⟩) (v := ?v9n4k9) rfl (by kernel_rfl) (by kernel_rfl) (by kernel_rfl) (fun _ _ _ h => h) (Or.inl ⟨by rfl, ?y9n4k9⟩) hHeld ?z9n4k9
                    case y9n4k9 => intro w hSw; (try dsimp only at hSw); go_simp <;> rfl
                    try simp only [Act.put, List.setIfInBounds_toArray, List.set_cons_zero, List.set_cons_succ]
                    refine wpAnyH_take (i := 10) (oi := ⟨some 73, Op.binOp BinOp.add 3 (Operand.tmp 72) (Operand.const (Value.int IntKind.i64 1)) 3, 3, _, _, some (5, true)⟩) (v := ?v10n4k10) rfl (by kernel_rfl) (by kernel_rfl) (by kernel_rfl) (fun _ _ _ h => h) (Or.inl ⟨by rfl, ?y10n4k10⟩) hHeld ?z10n4k10
                    case y10n4k10 => intro w hSw; (try dsimp only at hSw); go_simp <;> rfl
                    try simp only [Act.put, List.setIfInBounds_toArray, List.set_cons_zero, List.set_cons_succ]
                    refine wpAnyH_take (i := 11) (oi := ⟨some 74, Op.move (Operand.tmp 16), 3, _, _, some (5, true)⟩) (v := ?v11n4k11) rfl (by kernel_rfl) (by kernel_rfl) (by kernel_rfl) (fun _ _ _ h => h) (Or.inl ⟨by rfl, ?y11n4k11⟩) hHeld ?z11n4k11
                    case y11n4k11 => intro w hSw; (try dsimp only at hSw); go_simp <;> rfl
                    try simp only [Act.put, List.setIfInBounds_toArray, List.set_cons_zero, List.set_cons_succ]
                    refine wpAnyH_take (i := 12) (oi := ⟨some 75, Op.binOp BinOp.add 3 (Operand.tmp 73) (Operand.tmp 74) 3, 3, _, _, some (5, true)⟩) (v := ?v12n4k12) rfl (by kernel_rfl) (by kernel_rfl) (by kernel_rfl) (fun _ _ _ h => h) (Or.inl ⟨by rfl, ?y12n4k12⟩) hHeld ?z12n4k12
                    case y12n4k12 => intro w hSw; (try dsimp only at hSw); go_simp <;> rfl
                    try simp only [Act.put, List.setIfInBounds_toArray, List.set_cons_zero, List.set_cons_succ]
                    refine wpAnyH_take (i := 13) (oi := ⟨some 76, Op.binOp BinOp.eql 3 (Operand.tmp 70) (Operand.tmp 75) 3, 4, _, _, some (5, true)⟩) (v := ?v13n4k13) rfl (by kernel_rfl) (by kernel_rfl) (by kernel_rfl) (fun _ _ _ h => h) (Or.inl ⟨by rfl, ?y13n4k13⟩) hHeld ?z13n4k13
                    case y13n4k13 => intro w hSw; (try dsimp only at hSw); go_simp <;> rfl
                    try simp only [Act.put, List.setIfInBounds_toArray, List.set_cons_zero, List.set_cons_succ]
                    refine wpAnyH_take (i := 14) (oi := ⟨some 77, Op.pick (Operand.tmp 68) (Operand.tmp 76) (Operand.const (Value.bool false)), 4, _, _, none⟩) (v := ?v14n4k14) rfl (by kernel_rfl) (by kernel_rfl) (by kernel_rfl) (fun _ _ _ h => h) (Or.inl ⟨by rfl, ?y14n4k14⟩) hHeld ?z14n4k14
                    case y14n4k14 => intro w hSw; (try dsimp only at hSw); go_simp <;> rfl
                    try simp only [Act.put, List.setIfInBounds_toArray, List.set_cons_zero, List.set_cons_succ]
                    refine wpAnyH_take (i := 15) (oi := ⟨some 78, Op.move (Operand.tmp 77), 4, _, _, none⟩) (v := ?v15n4k15) rfl (by kernel_rfl) (by kernel_rfl) (by kernel_rfl) (fun _ _ _ h => h) (Or.inl ⟨by rfl, ?y15n4k15⟩) hHeld ?z15n4k15
                    case y15n4k15 => intro w hSw; (try dsimp only at hSw); go_simp <;> rfl
                    try simp only [Act.put, List.setIfInBounds_toArray, List.set_cons_zero, List.set_cons_succ]
                    refine wpAnyH_take (i := 16) (oi := ⟨some 79, Op.move (Operand.tmp 16), 3, _, _, some (15, true)⟩) (v := ?v16n4k16) rfl (by kernel_rfl) (by kernel_rfl) (by kernel_rfl) (fun _ _ _ h => h) (Or.inl ⟨by rfl, ?y16n4k16⟩) hHeld ?z16n4k16
                    case y16n4k16 => intro w hSw; (try dsimp only at hSw); go_simp <;> rfl
                    try simp only [Act.put, List.setIfInBounds_toArray, List.set_cons_zero, List.set_cons_succ]
                    refine wpAnyH_take (i := 17) (oi := ⟨some 80, Op.binOp BinOp.eql 3 (Operand.tmp 79) (Operand.const (Value.int IntKind.i64 0)) 3, 4, _, _, some (15, true)⟩) (v := ?v17n4k17) rfl (by kernel_rfl) (by kernel_rfl) (by kernel_rfl) (fun _ _ _ h => h) (Or.inl ⟨by rfl, ?y17n4k17⟩) hHeld ?z17n4k17
                    case y17n4k17 => intro w hSw; (try dsimp only at hSw); go_simp <;> rfl
                    try simp only [Act.put, List.setIfInBounds_toArray, List.set_cons_zero, List.set_cons_succ]
                    refine wpAnyH_take (i := 18) (oi := ⟨some 81, Op.move (Operand.tmp 80), 4, _, _, some (15, true)⟩) (v := ?v18n4k18) rfl (by kernel_rfl) (by kernel_rfl) (by kernel_rfl) (fun _ _ _ h => h) (Or.inl ⟨by rfl, ?y18n4k18⟩) hHeld ?z18n4k18
                    case y18n4k18 => intro w hSw; (try dsimp only at hSw); go_simp <;> rfl
                    try simp only [Act.put, List.setIfInBounds_toArray, List.set_cons_zero, List.set_cons_succ]
                    refine wpAnyH_take (i := 19) (oi := ⟨some 82, Op.fieldAddr 32 (Operand.tmp 17) 1, 0, _, _, some (18, false)⟩) (v := ?v19n4k19) rfl (by kernel_rfl) (by kernel_rfl) (by kernel_rfl) (fun _ _ _ h => h) (Or.inl ⟨by rfl, ?y19n4k19⟩) hHeld ?z19n4k19
                    case y19n4k19 => intro w hSw; (try dsimp only at hSw); go_simp <;> rfl
                    try simp only [Act.put, List.setIfInBounds_toArray, List.set_cons_zero, List.set_cons_succ]
                    refine wpAnyH_take (i := 20) (oi := ⟨some 83, Op.load 3 (Operand.tmp 82), 3, _, _, some (18, false)⟩) (v := ?v20n4k20) rfl (by kernel_rfl) (by kernel_rfl) (by kernel_rfl) (fun _ _ _ h => h) (Or.inl ⟨by rfl, ?y20n4k20⟩) hHeld ?z20n4k20
                    case y20n4k20 => intro w hSw; (try dsimp only at hSw); go_simp <;> rfl
                    try simp only [Act.put, List.setIfInBounds_toArray, List.set_cons_zero, List.set_cons_succ]
                    refine wpAnyH_take (i := 21) (oi := ⟨some 84, Op.move (Operand.tmp 14), 37, _, _, some (18, false)⟩) (v := ?v21n4k21) rfl (by kernel_rfl) (by kernel_rfl) (by kernel_rfl) (fun _ _ _ h => h) (Or.inl ⟨by rfl, ?y21n4k21⟩) hHeld ?z21n4k21
                    case y21n4k21 => intro w hSw; (try dsimp only at hSw); go_simp <;> rfl
                    try simp only [Act.put, List.setIfInBounds_toArray, List.set_cons_zero, List.set_cons_succ]
                    refine wpAnyH_take (i := 22) (oi := ⟨some 85, Op.move (Operand.tmp 16), 3, _, _, some (18, false)⟩) (v := ?v22n4k22) rfl (by kernel_rfl) (by kernel_rfl) (by kernel_rfl) (fun _ _ _ h => h) (Or.inl ⟨by rfl, ?y22n4k22⟩) hHeld ?z22n4k22
                    case y22n4k22 => intro w hSw; (try dsimp only at hSw); go_simp <;> rfl
                    try simp only [Act.put, List.setIfInBounds_toArray, List.set_cons_zero, List.set_cons_succ]
                    refine wpAnyH_take (i := 23) (oi := ⟨some 86, Op.binOp BinOp.sub 3 (Operand.tmp 85) (Operand.const (Value.int IntKind.i64 1)) 3, 3, _, _, some (18, false)⟩) (v := ?v23n4k23) rfl (by kernel_rfl) (by kernel_rfl) (by kernel_rfl) (fun _ _ _ h => h) (Or.inl ⟨by rfl, ?y23n4k23⟩) hHeld ?z23n4k23
                    case y23n4k23 => intro w hSw; (try dsimp only at hSw); go_simp <;> rfl
                    try simp only [Act.put, List.setIfInBounds_toArray, List.set_cons_zero, List.set_cons_succ]
                    refine wpAnyH_take (i := 24) (oi := ⟨some 87, Op.indexAddr 37 (Operand.tmp 84) (Operand.tmp 86), 0, _, _, some (18, false)⟩) (v := ?v24n4k24) rfl (by kernel_rfl) (by kernel_rfl) (by kernel_rfl) (fun _ _ _ h => h) (Or.inl ⟨by rfl, ?y24n4k24⟩) hHeld ?z24n4k24
                    case y24n4k24 => intro w hSw; (try dsimp only at hSw); go_simp <;> rfl
                    try simp only [Act.put, List.setIfInBounds_toArray, List.set_cons_zero, List.set_cons_succ]
                    refine wpAnyH_take (i := 25) (oi := ⟨some 88, Op.fieldAddr 32 (Operand.tmp 87) 1, 0, _, _, some (18, false)⟩) (v := ?v25n4k25) rfl (by kernel_rfl) (by kernel_rfl) (by kernel_rfl) (fun _ _ _ h => h) (Or.inl ⟨by rfl, ?y25n4k25⟩) hHeld ?z25n4k25
                    case y25n4k25 => intro w hSw; (try dsimp only at hSw); go_simp <;> rfl
                    try simp only [Act.put, List.setIfInBounds_toArray, List.set_cons_zero, List.set_cons_succ]
                    refine wpAnyH_take (i := 26) (oi := ⟨some 89, Op.load 3 (Operand.tmp 88), 3, _, _, some (18, false)⟩) (v := ?v26n4k26) rfl (by kernel_rfl) (by kernel_rfl) (by kernel_rfl) (fun _ _ _ h => h) (Or.inl ⟨by rfl, ?y26n4k26⟩) hHeld ?z26n4k26
                    case y26n4k26 => intro w hSw; (try dsimp only at hSw); go_simp <;> rfl
                    try simp only [Act.put, List.setIfInBounds_toArray, List.set_cons_zero, List.set_cons_succ]
                    refine wpAnyH_take (i := 27) (oi := ⟨some 90, Op.binOp BinOp.geq 3 (Operand.tmp 83) (Operand.tmp 89) 3, 4, _, _, some (18, false)⟩) (v := ?v27n4k27) rfl (by kernel_rfl) (by kernel_rfl) (by kernel_rfl) (fun _ _ _ h => h) (Or.inl ⟨by rfl, ?y27n4k27⟩) hHeld ?z27n4k27
                    case y27n4k27 => intro w hSw; (try dsimp only at hSw); go_simp <;> rfl
                    try simp only [Act.put, List.setIfInBounds_toArray, List.set_cons_zero, List.set_cons_succ]
                    refine wpAnyH_take (i := 28) (oi := ⟨some 91, Op.pick (Operand.tmp 81) (Operand.const (Value.bool true)) (Operand.tmp 90), 4, _, _, some (15, true)⟩) (v := ?v28n4k28) rfl (by kernel_rfl) (by kernel_rfl) (by kernel_rfl) (fun _ _ _ h => h) (Or.inl ⟨by rfl, ?y28n4k28⟩) hHeld ?z28n4k28
                    case y28n4k28 => intro w hSw; (try dsimp only at hSw); go_simp <;> rfl
                    try simp only [Act.put, List.setIfInBounds_toArray, List.set_cons_zero, List.set_cons_succ]
                    refine wpAnyH_take (i := 29) (oi := ⟨some 92, Op.pick (Operand.tmp 78) (Operand.tmp 91) (Operand.const (Value.bool false)), 4, _, _, none⟩) (v := ?v29n4k29) rfl (by kernel_rfl) (by kernel_rfl) (by kernel_rfl) (fun _ _ _ h => h) (Or.inl ⟨by rfl, ?y29n4k29⟩) hHeld ?z29n4k29
                    case y29n4k29 => intro w hSw; (try dsimp only at hSw); go_simp <;> rfl
                    try simp only [Act.put, List.setIfInBounds_toArray, List.set_cons_zero, List.set_cons_succ]
                    refine wpAnyH_take (i := 30) (oi := ⟨some 15, Op.assign (Operand.tmp 92), 4, _, _, none⟩) (v := ?v30n4k30) rfl (by kernel_rfl) (by kernel_rfl) (by kernel_rfl) (fun _ _ _ h => h) (Or.inl ⟨by rfl, ?y30n4k30⟩) hHeld ?z30n4k30
                    case y30n4k30 => intro w hSw; (try dsimp only at hSw); go_simp <;> rfl
                    try simp only [Act.put, List.setIfInBounds_toArray, List.set_cons_zero, List.set_cons_succ]
                    refine wpAnyH_done (by kernel_rfl) ?_ _
                    refine NoPanic.normal ?_
                    go_wp2
                    go_roundw
                    case rel =>
                      refine ⟨k + 1, by omega, by go_num, Lib.hid ⟨_, rfl, good_more HQ.out _ ?_⟩, Lib.hid (K11.out.step K12.out)⟩
                      rw [decide_eq_true_eq]
                      constructor
                      · intro hle
                        refine ⟨rfl, fun e he => ?_⟩
                        obtain rfl : x = e := by have := HX.out; rw [this] at he; injection he
                        refine ⟨HRR.out, by rw [← HFK.out]; exact HIX.out, fun p' _ hp' => ?_⟩
                        have h9 := HPX.out
                        rw [show k - 1 = k1 by have := HK1.out; omega, h9] at hp'
                        injection hp' with hp'
                        rw [← hp']
                        exact hle
                      · rintro ⟨_, hg⟩
                        exact (hg x HX.out).2.2 p (by have := HK1.out; omega) (by rw [show k - 1 = k1 by have := HK1.out; omega]; exact HPX.out)
                    case measure => simp [intOf]; omega
                · have hI' : (x.index == fk) = false := by simpa using hI
                  have HNI := Lib.hid hI
                  clear hI
                  refine wp_region_noPanic ?_
                  refine wp_region_held_drew (S := fun w' => w'.cell? ⟨B, 0, none⟩ = some (.int .i64 x.index) ∧ w'.cell? ⟨B, 1, none⟩ = some (.int .i64 x.term) ∧ w'.cell? ⟨B, 2, none⟩ = some (.int .i64 x.cmd.op) ∧ w'.cell? ⟨B, 3, none⟩ = some (.int .i64 x.cmd.client) ∧ w'.cell? ⟨B, 4, none⟩ = some (.int .i64 x.cmd.seq) ∧ w'.cell? ⟨B, 5, none⟩ = some (.string x.cmd.key) ∧ w'.cell? ⟨B, 6, none⟩ = some (.string x.cmd.value) ∧ w'.cell? ⟨B, 7, none⟩ = some (.string x.cmd.old)) (by kernel_rfl) (HSS.out _ (Kept.drew _ _)) (fun hHeld => ?_)
                  refine wpAnyH_take (i := 0) (oi := ⟨some 63, Op.move (Operand.tmp 15), 4, _, _, none⟩) (v := ?v0n5k1) rfl (by kernel_rfl) (by kernel_rfl) (by kernel_rfl) (fun _ _ _ h => h) (Or.inl ⟨by rfl, ?y0n5k1⟩) hHeld ?z0n5k1
                  case y0n5k1 => intro w hSw; (try dsimp only at hSw); go_simp <;> rfl
                  try simp only [Act.put, List.setIfInBounds_toArray, List.set_cons_zero, List.set_cons_succ]
                  refine wpAnyH_take (i := 1) (oi := ⟨some 64, Op.move (Operand.tmp 63), 4, _, _, none⟩) (v := ?v1n5k2) rfl (by kernel_rfl) (by kernel_rfl) (by kernel_rfl) (fun _ _ _ h => h) (Or.inl ⟨by rfl, ?y1n5k2⟩) hHeld ?z1n5k2
                  case y1n5k2 => intro w hSw; (try dsimp only at hSw); go_simp <;> rfl
                  try simp only [Act.put, List.setIfInBounds_toArray, List.set_cons_zero, List.set_cons_succ]
                  refine wpAnyH_take (i := 2) (oi := ⟨some 65, Op.load 32 (Operand.tmp 17), 32, _, _, some (1, true)⟩) (v := ?v2n5k3) rfl (by kernel_rfl) (by kernel_rfl) (by kernel_rfl) (fun _ _ _ h => h) (Or.inl ⟨by rfl, ?y2n5k3⟩) hHeld ?z2n5k3
                  case y2n5k3 => intro w hSw; (try dsimp only at hSw); go_simp <;> rfl
                  try simp only [Act.put, List.setIfInBounds_toArray, List.set_cons_zero, List.set_cons_succ]
                  refine wpAnyH_ready (rs := [3]) (by kernel_rfl) (by simp) ?_
                  refine AllReadyH.cons (o := ⟨some 66, Op.call { callee := Callee.value (Operand.func 15), args := #[Operand.tmp 65], argTypes := #[32] }, 4, _, _, some (1, true)⟩) rfl (fun K hK => ?_) AllReadyH.nil
                  go_simp
                  refine (hri _).mono ?_
                  rintro e w12 ⟨rfl, k12⟩
                  have K12 := Lib.hid ((Kept.drew noBlock w11).step k12)
                  clear k12
                  dsimp only
                  refine hK.out _ _ (HSS.out _ K12.out) (fun hHeld => ?_)
                  clear hK K
                  try simp only [Act.put, List.setIfInBounds_toArray, List.set_cons_zero, List.set_cons_succ]
                  refine wpAnyH_take (i := 4) (oi := ⟨some 67, Op.pick (Operand.tmp 64) (Operand.tmp 66) (Operand.const (Value.bool false)), 4, _, _, none⟩) (v := ?v4n5k4) rfl (by kernel_rfl) (by kernel_rfl) (by kernel_rfl) (fun _ _ _ h => h) (Or.inl ⟨by rfl, ?y4n5k4⟩) hHeld ?z4n5k4
                  case y4n5k4 => intro w hSw; (try dsimp only at hSw); go_simp <;> rfl
                  try simp only [Act.put, List.setIfInBounds_toArray, List.set_cons_zero, List.set_cons_succ]
                  refine wpAnyH_take (i := 5) (oi := ⟨some 68, Op.move (Operand.tmp 67), 4, _, _, none⟩) (v := ?v5n5k5) rfl (by kernel_rfl) (by kernel_rfl) (by kernel_rfl) (fun _ _ _ h => h) (Or.inl ⟨by rfl, ?y5n5k5⟩) hHeld ?z5n5k5
                  case y5n5k5 => intro w hSw; (try dsimp only at hSw); go_simp <;> rfl
                  try simp only [Act.put, List.setIfInBounds_toArray, List.set_cons_zero, List.set_cons_succ]
                  refine wpAnyH_take (i := 6) (oi := ⟨some 69, Op.fieldAddr 32 (Operand.tmp 17) 0, 0, _, _, some (5, true)⟩) (v := ?v6n5k6) rfl (by kernel_rfl) (by kernel_rfl) (by kernel_rfl) (fun _ _ _ h => h) (Or.inl ⟨by rfl, ?y6n5k6⟩) hHeld ?z6n5k6
                  case y6n5k6 => intro w hSw; (try dsimp only at hSw); go_simp <;> rfl
                  try simp only [Act.put, List.setIfInBounds_toArray, List.set_cons_zero, List.set_cons_succ]
                  refine wpAnyH_take (i := 7) (oi := ⟨some 70, Op.load 3 (Operand.tmp 69), 3, _, _, some (5, true)⟩) (v := ?v7n5k7) rfl (by kernel_rfl) (by kernel_rfl) (by kernel_rfl) (fun _ _ _ h => h) (Or.inl ⟨by rfl, ?y7n5k7⟩) hHeld ?z7n5k7
                  case y7n5k7 => intro w hSw; (try dsimp only at hSw); go_simp <;> rfl
                  try simp only [Act.put, List.setIfInBounds_toArray, List.set_cons_zero, List.set_cons_succ]
                  refine wpAnyH_take (i := 8) (oi := ⟨some 71, Op.move (Operand.tmp 1), 36, _, _, some (5, true)⟩) (v := ?v8n5k8) rfl (by kernel_rfl) (by kernel_rfl) (by kernel_rfl) (fun _ _ _ h => h) (Or.inl ⟨by rfl, ?y8n5k8⟩) hHeld ?z8n5k8
                  case y8n5k8 => intro w hSw; (try dsimp only at hSw); go_simp <;> rfl
                  try simp only [Act.put, List.setIfInBounds_toArray, List.set_cons_zero, List.set_cons_succ]
                  refine wpAnyH_take (i := 9) (oi := ⟨some 72, Op.convert 36 3 (Operand.tmp 71), 3, _, _, some (5, true)⟩) (v := ?v9n5k9) rfl (by kernel_rfl) (by kernel_rfl) (by kernel_rfl) (fun _ _ _ h => h) (Or.inl ⟨by rfl, ?y9n5k9⟩) hHeld ?z9n5k9
                  case y9n5k9 => intro w hSw; (try dsimp only at hSw); go_simp <;> rfl
                  try simp only [Act.put, List.setIfInBounds_toArray, List.set_cons_zero, List.set_cons_succ]
                  refine wpAnyH_take (i := 10) (oi := ⟨some 73, Op.binOp BinOp.add 3 (Operand.tmp 72) (Operand.const (Value.int IntKind.i64 1)) 3, 3, _, _, some (5, true)⟩) (v := ?v10n5k10) rfl (by kernel_rfl) (by kernel_rfl) (by kernel_rfl) (fun _ _ _ h => h) (Or.inl ⟨by rfl, ?y10n5k10⟩) hHeld ?z10n5k10
                  case y10n5k10 => intro w hSw; (try dsimp only at hSw); go_simp <;> rfl
                  try simp only [Act.put, List.setIfInBounds_toArray, List.set_cons_zero, List.set_cons_succ]
                  refine wpAnyH_take (i := 11) (oi := ⟨some 74, Op.move (Operand.tmp 16), 3, _, _, some (5, true)⟩) (v := ?v11n5k11) rfl (by kernel_rfl) (by kernel_rfl) (by kernel_rfl) (fun _ _ _ h => h) (Or.inl ⟨by rfl, ?y11n5k11⟩) hHeld ?z11n5k11
                  case y11n5k11 => intro w hSw; (try dsimp only at hSw); go_simp <;> rfl
                  try simp only [Act.put, List.setIfInBounds_toArray, List.set_cons_zero, List.set_cons_succ]
                  refine wpAnyH_take (i := 12) (oi := ⟨some 75, Op.binOp BinOp.add 3 (Operand.tmp 73) (Operand.tmp 74) 3, 3, _, _, some (5, true)⟩) (v := ?v12n5k12) rfl (by kernel_rfl) (by kernel_rfl) (by kernel_rfl) (fun _ _ _ h => h) (Or.inl ⟨by rfl, ?y12n5k12⟩) hHeld ?z12n5k12
                  case y12n5k12 => intro w hSw; (try dsimp only at hSw); go_simp <;> rfl
                  try simp only [Act.put, List.setIfInBounds_toArray, List.set_cons_zero, List.set_cons_succ]
                  refine wpAnyH_take (i := 13) (oi := ⟨some 76, Op.binOp BinOp.eql 3 (Operand.tmp 70) (Operand.tmp 75) 3, 4, _, _, some (5, true)⟩) (v := ?v13n5k13) rfl (by kernel_rfl) (by kernel_rfl) (by kernel_rfl) (fun _ _ _ h => h) (Or.inl ⟨by rfl, ?y13n5k13⟩) hHeld ?z13n5k13
                  case y13n5k13 => intro w hSw; (try dsimp only at hSw); go_simp <;> rfl
                  try simp only [Act.put, List.setIfInBounds_toArray, List.set_cons_zero, List.set_cons_succ]
                  refine wpAnyH_take (i := 14) (oi := ⟨some 77, Op.pick (Operand.tmp 68) (Operand.tmp 76) (Operand.const (Value.bool false)), 4, _, _, none⟩) (v := ?v14n5k14) rfl (by kernel_rfl) (by kernel_rfl) (by kernel_rfl) (fun _ _ _ h => h) (Or.inl ⟨by rfl, ?y14n5k14⟩) hHeld ?z14n5k14
                  case y14n5k14 => intro w hSw; (try dsimp only at hSw); go_simp <;> rfl
                  try simp only [Act.put, List.setIfInBounds_toArray, List.set_cons_zero, List.set_cons_succ]
                  refine wpAnyH_take (i := 15) (oi := ⟨some 78, Op.move (Operand.tmp 77), 4, _, _, none⟩) (v := ?v15n5k15) rfl (by kernel_rfl) (by kernel_rfl) (by kernel_rfl) (fun _ _ _ h => h) (Or.inl ⟨by rfl, ?y15n5k15⟩) hHeld ?z15n5k15
                  case y15n5k15 => intro w hSw; (try dsimp only at hSw); go_simp <;> rfl
                  try simp only [Act.put, List.setIfInBounds_toArray, List.set_cons_zero, List.set_cons_succ]
                  refine wpAnyH_take (i := 16) (oi := ⟨some 79, Op.move (Operand.tmp 16), 3, _, _, some (15, true)⟩) (v := undef) rfl (by kernel_rfl) (by kernel_rfl) (by kernel_rfl) (fun _ _ _ h => h) (Or.inr ⟨by rfl, rfl⟩) hHeld ?z16n5k16
                  try simp only [Act.put, List.setIfInBounds_toArray, List.set_cons_zero, List.set_cons_succ]
                  refine wpAnyH_take (i := 17) (oi := ⟨some 80, Op.binOp BinOp.eql 3 (Operand.tmp 79) (Operand.const (Value.int IntKind.i64 0)) 3, 4, _, _, some (15, true)⟩) (v := undef) rfl (by kernel_rfl) (by kernel_rfl) (by kernel_rfl) (fun _ _ _ h => h) (Or.inr ⟨by rfl, rfl⟩) hHeld ?z17n5k17
                  try simp only [Act.put, List.setIfInBounds_toArray, List.set_cons_zero, List.set_cons_succ]
                  refine wpAnyH_take (i := 18) (oi := ⟨some 81, Op.move (Operand.tmp 80), 4, _, _, some (15, true)⟩) (v := undef) rfl (by kernel_rfl) (by kernel_rfl) (by kernel_rfl) (fun _ _ _ h => h) (Or.inr ⟨by rfl, rfl⟩) hHeld ?z18n5k18
                  try simp only [Act.put, List.setIfInBounds_toArray, List.set_cons_zero, List.set_cons_succ]
                  refine wpAnyH_take (i := 19) (oi := ⟨some 82, Op.fieldAddr 32 (Operand.tmp 17) 1, 0, _, _, some (18, false)⟩) (v := undef) rfl (by kernel_rfl) (by kernel_rfl) (by kernel_rfl) (fun _ _ _ h => h) (Or.inr ⟨by rfl, rfl⟩) hHeld ?z19n5k19
                  try simp only [Act.put, List.setIfInBounds_toArray, List.set_cons_zero, List.set_cons_succ]
                  refine wpAnyH_take (i := 20) (oi := ⟨some 83, Op.load 3 (Operand.tmp 82), 3, _, _, some (18, false)⟩) (v := undef) rfl (by kernel_rfl) (by kernel_rfl) (by kernel_rfl) (fun _ _ _ h => h) (Or.inr ⟨by rfl, rfl⟩) hHeld ?z20n5k20
                  try simp only [Act.put, List.setIfInBounds_toArray, List.set_cons_zero, List.set_cons_succ]
                  refine wpAnyH_take (i := 21) (oi := ⟨some 84, Op.move (Operand.tmp 14), 37, _, _, some (18, false)⟩) (v := undef) rfl (by kernel_rfl) (by kernel_rfl) (by kernel_rfl) (fun _ _ _ h => h) (Or.inr ⟨by rfl, rfl⟩) hHeld ?z21n5k21
                  try simp only [Act.put, List.setIfInBounds_toArray, List.set_cons_zero, List.set_cons_succ]
                  refine wpAnyH_take (i := 22) (oi := ⟨some 85, Op.move (Operand.tmp 16), 3, _, _, some (18, false)⟩) (v := undef) rfl (by kernel_rfl) (by kernel_rfl) (by kernel_rfl) (fun _ _ _ h => h) (Or.inr ⟨by rfl, rfl⟩) hHeld ?z22n5k22
                  try simp only [Act.put, List.setIfInBounds_toArray, List.set_cons_zero, List.set_cons_succ]
                  refine wpAnyH_take (i := 23) (oi := ⟨some 86, Op.binOp BinOp.sub 3 (Operand.tmp 85) (Operand.const (Value.int IntKind.i64 1)) 3, 3, _, _, some (18, false)⟩) (v := undef) rfl (by kernel_rfl) (by kernel_rfl) (by kernel_rfl) (fun _ _ _ h => h) (Or.inr ⟨by rfl, rfl⟩) hHeld ?z23n5k23
                  try simp only [Act.put, List.setIfInBounds_toArray, List.set_cons_zero, List.set_cons_succ]
                  refine wpAnyH_take (i := 24) (oi := ⟨some 87, Op.indexAddr 37 (Operand.tmp 84) (Operand.tmp 86), 0, _, _, some (18, false)⟩) (v := undef) rfl (by kernel_rfl) (by kernel_rfl) (by kernel_rfl) (fun _ _ _ h => h) (Or.inr ⟨by rfl, rfl⟩) hHeld ?z24n5k24
                  try simp only [Act.put, List.setIfInBounds_toArray, List.set_cons_zero, List.set_cons_succ]
                  refine wpAnyH_take (i := 25) (oi := ⟨some 88, Op.fieldAddr 32 (Operand.tmp 87) 1, 0, _, _, some (18, false)⟩) (v := undef) rfl (by kernel_rfl) (by kernel_rfl) (by kernel_rfl) (fun _ _ _ h => h) (Or.inr ⟨by rfl, rfl⟩) hHeld ?z25n5k25
                  try simp only [Act.put, List.setIfInBounds_toArray, List.set_cons_zero, List.set_cons_succ]
                  refine wpAnyH_take (i := 26) (oi := ⟨some 89, Op.load 3 (Operand.tmp 88), 3, _, _, some (18, false)⟩) (v := undef) rfl (by kernel_rfl) (by kernel_rfl) (by kernel_rfl) (fun _ _ _ h => h) (Or.inr ⟨by rfl, rfl⟩) hHeld ?z26n5k26
                  try simp only [Act.put, List.setIfInBounds_toArray, List.set_cons_zero, List.set_cons_succ]
                  refine wpAnyH_take (i := 27) (oi := ⟨some 90, Op.binOp BinOp.geq 3 (Operand.tmp 83) (Operand.tmp 89) 3, 4, _, _, some (18, false)⟩) (v := undef) rfl (by kernel_rfl) (by kernel_rfl) (by kernel_rfl) (fun _ _ _ h => h) (Or.inr ⟨by rfl, rfl⟩) hHeld ?z27n5k27
                  try simp only [Act.put, List.setIfInBounds_toArray, List.set_cons_zero, List.set_cons_succ]
                  refine wpAnyH_take (i := 28) (oi := ⟨some 91, Op.pick (Operand.tmp 81) (Operand.const (Value.bool true)) (Operand.tmp 90), 4, _, _, some (15, true)⟩) (v := undef) rfl (by kernel_rfl) (by kernel_rfl) (by kernel_rfl) (fun _ _ _ h => h) (Or.inr ⟨by rfl, rfl⟩) hHeld ?z28n5k28
                  try simp only [Act.put, List.setIfInBounds_toArray, List.set_cons_zero, List.set_cons_succ]
                  refine wpAnyH_take (i := 29) (oi := ⟨some 92, Op.pick (Operand.tmp 78) (Operand.tmp 91) (Operand.const (Value.bool false)), 4, _, _, none⟩) (v := ?v29n5k29) rfl (by kernel_rfl) (by kernel_rfl) (by kernel_rfl) (fun _ _ _ h => h) (Or.inl ⟨by rfl, ?y29n5k29⟩) hHeld ?z29n5k29
                  case y29n5k29 => intro w hSw; (try dsimp only at hSw); go_simp <;> rfl
                  try simp only [Act.put, List.setIfInBounds_toArray, List.set_cons_zero, List.set_cons_succ]
                  refine wpAnyH_take (i := 30) (oi := ⟨some 15, Op.assign (Operand.tmp 92), 4, _, _, none⟩) (v := ?v30n5k30) rfl (by kernel_rfl) (by kernel_rfl) (by kernel_rfl) (fun _ _ _ h => h) (Or.inl ⟨by rfl, ?y30n5k30⟩) hHeld ?z30n5k30
                  case y30n5k30 => intro w hSw; (try dsimp only at hSw); go_simp <;> rfl
                  try simp only [Act.put, List.setIfInBounds_toArray, List.set_cons_zero, List.set_cons_succ]
                  refine wpAnyH_done (by kernel_rfl) ?_ _
                  refine NoPanic.normal ?_
                  go_wp2
                  go_roundw
                  case rel =>
                    refine ⟨k + 1, by omega, by go_num, Lib.hid ⟨_, rfl, good_more HQ.out _ ?_⟩, Lib.hid (K11.out.step K12.out)⟩
                    constructor
                    · intro h; cases h
                    · rintro ⟨h, hg⟩
                      exact absurd (by rw [HFK.out]; exact (hg x HX.out).2.1) HNI.out
                  case measure => simp [intOf]; omega
              · rw [decide_eq_false hR] at hri
                have HNR := Lib.hid hR
                clear hR
                refine wp_region_noPanic ?_
                refine wp_region_held_drew (S := fun w' => w'.cell? ⟨B, 0, none⟩ = some (.int .i64 x.index) ∧ w'.cell? ⟨B, 1, none⟩ = some (.int .i64 x.term) ∧ w'.cell? ⟨B, 2, none⟩ = some (.int .i64 x.cmd.op) ∧ w'.cell? ⟨B, 3, none⟩ = some (.int .i64 x.cmd.client) ∧ w'.cell? ⟨B, 4, none⟩ = some (.int .i64 x.cmd.seq) ∧ w'.cell? ⟨B, 5, none⟩ = some (.string x.cmd.key) ∧ w'.cell? ⟨B, 6, none⟩ = some (.string x.cmd.value) ∧ w'.cell? ⟨B, 7, none⟩ = some (.string x.cmd.old)) (by kernel_rfl) (HSS.out _ (Kept.drew _ _)) (fun hHeld => ?_)
                refine wpAnyH_take (i := 0) (oi := ⟨some 63, Op.move (Operand.tmp 15), 4, _, _, none⟩) (v := ?v0n6k1) rfl (by kernel_rfl) (by kernel_rfl) (by kernel_rfl) (fun _ _ _ h => h) (Or.inl ⟨by rfl, ?y0n6k1⟩) hHeld ?z0n6k1
                case y0n6k1 => intro w hSw; (try dsimp only at hSw); go_simp <;> rfl
                try simp only [Act.put, List.setIfInBounds_toArray, List.set_cons_zero, List.set_cons_succ]
                refine wpAnyH_take (i := 1) (oi := ⟨some 64, Op.move (Operand.tmp 63), 4, _, _, none⟩) (v := ?v1n6k2) rfl (by kernel_rfl) (by kernel_rfl) (by kernel_rfl) (fun _ _ _ h => h) (Or.inl ⟨by rfl, ?y1n6k2⟩) hHeld ?z1n6k2
                case y1n6k2 => intro w hSw; (try dsimp only at hSw); go_simp <;> rfl
                try simp only [Act.put, List.setIfInBounds_toArray, List.set_cons_zero, List.set_cons_succ]
                refine wpAnyH_take (i := 2) (oi := ⟨some 65, Op.load 32 (Operand.tmp 17), 32, _, _, some (1, true)⟩) (v := ?v2n6k3) rfl (by kernel_rfl) (by kernel_rfl) (by kernel_rfl) (fun _ _ _ h => h) (Or.inl ⟨by rfl, ?y2n6k3⟩) hHeld ?z2n6k3
                case y2n6k3 => intro w hSw; (try dsimp only at hSw); go_simp <;> rfl
                try simp only [Act.put, List.setIfInBounds_toArray, List.set_cons_zero, List.set_cons_succ]
                refine wpAnyH_ready (rs := [3]) (by kernel_rfl) (by simp) ?_
                refine AllReadyH.cons (o := ⟨some 66, Op.call { callee := Callee.value (Operand.func 15), args := #[Operand.tmp 65], argTypes := #[32] }, 4, _, _, some (1, true)⟩) rfl (fun K hK => ?_) AllReadyH.nil
                go_simp
                refine (hri _).mono ?_
                rintro e w12 ⟨rfl, k12⟩
                have K12 := Lib.hid ((Kept.drew noBlock w11).step k12)
                clear k12
                dsimp only
                refine hK.out _ _ (HSS.out _ K12.out) (fun hHeld => ?_)
                clear hK K
                try simp only [Act.put, List.setIfInBounds_toArray, List.set_cons_zero, List.set_cons_succ]
                refine wpAnyH_take (i := 4) (oi := ⟨some 67, Op.pick (Operand.tmp 64) (Operand.tmp 66) (Operand.const (Value.bool false)), 4, _, _, none⟩) (v := ?v4n6k4) rfl (by kernel_rfl) (by kernel_rfl) (by kernel_rfl) (fun _ _ _ h => h) (Or.inl ⟨by rfl, ?y4n6k4⟩) hHeld ?z4n6k4
                case y4n6k4 => intro w hSw; (try dsimp only at hSw); go_simp <;> rfl
                try simp only [Act.put, List.setIfInBounds_toArray, List.set_cons_zero, List.set_cons_succ]
                refine wpAnyH_take (i := 5) (oi := ⟨some 68, Op.move (Operand.tmp 67), 4, _, _, none⟩) (v := ?v5n6k5) rfl (by kernel_rfl) (by kernel_rfl) (by kernel_rfl) (fun _ _ _ h => h) (Or.inl ⟨by rfl, ?y5n6k5⟩) hHeld ?z5n6k5
                case y5n6k5 => intro w hSw; (try dsimp only at hSw); go_simp <;> rfl
                try simp only [Act.put, List.setIfInBounds_toArray, List.set_cons_zero, List.set_cons_succ]
                refine wpAnyH_take (i := 6) (oi := ⟨some 69, Op.fieldAddr 32 (Operand.tmp 17) 0, 0, _, _, some (5, true)⟩) (v := undef) rfl (by kernel_rfl) (by kernel_rfl) (by kernel_rfl) (fun _ _ _ h => h) (Or.inr ⟨by rfl, rfl⟩) hHeld ?z6n6k6
                try simp only [Act.put, List.setIfInBounds_toArray, List.set_cons_zero, List.set_cons_succ]
                refine wpAnyH_take (i := 7) (oi := ⟨some 70, Op.load 3 (Operand.tmp 69), 3, _, _, some (5, true)⟩) (v := undef) rfl (by kernel_rfl) (by kernel_rfl) (by kernel_rfl) (fun _ _ _ h => h) (Or.inr ⟨by rfl, rfl⟩) hHeld ?z7n6k7
                try simp only [Act.put, List.setIfInBounds_toArray, List.set_cons_zero, List.set_cons_succ]
                refine wpAnyH_take (i := 8) (oi := ⟨some 71, Op.move (Operand.tmp 1), 36, _, _, some (5, true)⟩) (v := undef) rfl (by kernel_rfl) (by kernel_rfl) (by kernel_rfl) (fun _ _ _ h => h) (Or.inr ⟨by rfl, rfl⟩) hHeld ?z8n6k8
                try simp only [Act.put, List.setIfInBounds_toArray, List.set_cons_zero, List.set_cons_succ]
                refine wpAnyH_take (i := 9) (oi := ⟨some 72, Op.convert 36 3 (Operand.tmp 71), 3, _, _, some (5, true)⟩) (v := undef) rfl (by kernel_rfl) (by kernel_rfl) (by kernel_rfl) (fun _ _ _ h => h) (Or.inr ⟨by rfl, rfl⟩) hHeld ?z9n6k9
                try simp only [Act.put, List.setIfInBounds_toArray, List.set_cons_zero, List.set_cons_succ]
                refine wpAnyH_take (i := 10) (oi := ⟨some 73, Op.binOp BinOp.add 3 (Operand.tmp 72) (Operand.const (Value.int IntKind.i64 1)) 3, 3, _, _, some (5, true)⟩) (v := undef) rfl (by kernel_rfl) (by kernel_rfl) (by kernel_rfl) (fun _ _ _ h => h) (Or.inr ⟨by rfl, rfl⟩) hHeld ?z10n6k10
                try simp only [Act.put, List.setIfInBounds_toArray, List.set_cons_zero, List.set_cons_succ]
                refine wpAnyH_take (i := 11) (oi := ⟨some 74, Op.move (Operand.tmp 16), 3, _, _, some (5, true)⟩) (v := undef) rfl (by kernel_rfl) (by kernel_rfl) (by kernel_rfl) (fun _ _ _ h => h) (Or.inr ⟨by rfl, rfl⟩) hHeld ?z11n6k11
                try simp only [Act.put, List.setIfInBounds_toArray, List.set_cons_zero, List.set_cons_succ]
                refine wpAnyH_take (i := 12) (oi := ⟨some 75, Op.binOp BinOp.add 3 (Operand.tmp 73) (Operand.tmp 74) 3, 3, _, _, some (5, true)⟩) (v := undef) rfl (by kernel_rfl) (by kernel_rfl) (by kernel_rfl) (fun _ _ _ h => h) (Or.inr ⟨by rfl, rfl⟩) hHeld ?z12n6k12
                try simp only [Act.put, List.setIfInBounds_toArray, List.set_cons_zero, List.set_cons_succ]
                refine wpAnyH_take (i := 13) (oi := ⟨some 76, Op.binOp BinOp.eql 3 (Operand.tmp 70) (Operand.tmp 75) 3, 4, _, _, some (5, true)⟩) (v := undef) rfl (by kernel_rfl) (by kernel_rfl) (by kernel_rfl) (fun _ _ _ h => h) (Or.inr ⟨by rfl, rfl⟩) hHeld ?z13n6k13
                try simp only [Act.put, List.setIfInBounds_toArray, List.set_cons_zero, List.set_cons_succ]
                refine wpAnyH_take (i := 14) (oi := ⟨some 77, Op.pick (Operand.tmp 68) (Operand.tmp 76) (Operand.const (Value.bool false)), 4, _, _, none⟩) (v := ?v14n6k14) rfl (by kernel_rfl) (by kernel_rfl) (by kernel_rfl) (fun _ _ _ h => h) (Or.inl ⟨by rfl, ?y14n6k14⟩) hHeld ?z14n6k14
                case y14n6k14 => intro w hSw; (try dsimp only at hSw); go_simp <;> rfl
                try simp only [Act.put, List.setIfInBounds_toArray, List.set_cons_zero, List.set_cons_succ]
                refine wpAnyH_take (i := 15) (oi := ⟨some 78, Op.move (Operand.tmp 77), 4, _, _, none⟩) (v := ?v15n6k15) rfl (by kernel_rfl) (by kernel_rfl) (by kernel_rfl) (fun _ _ _ h => h) (Or.inl ⟨by rfl, ?y15n6k15⟩) hHeld ?z15n6k15
                case y15n6k15 => intro w hSw; (try dsimp only at hSw); go_simp <;> rfl
                try simp only [Act.put, List.setIfInBounds_toArray, List.set_cons_zero, List.set_cons_succ]
                refine wpAnyH_take (i := 16) (oi := ⟨some 79, Op.move (Operand.tmp 16), 3, _, _, some (15, true)⟩) (v := undef) rfl (by kernel_rfl) (by kernel_rfl) (by kernel_rfl) (fun _ _ _ h => h) (Or.inr ⟨by rfl, rfl⟩) hHeld ?z16n6k16
                try simp only [Act.put, List.setIfInBounds_toArray, List.set_cons_zero, List.set_cons_succ]
                refine wpAnyH_take (i := 17) (oi := ⟨some 80, Op.binOp BinOp.eql 3 (Operand.tmp 79) (Operand.const (Value.int IntKind.i64 0)) 3, 4, _, _, some (15, true)⟩) (v := undef) rfl (by kernel_rfl) (by kernel_rfl) (by kernel_rfl) (fun _ _ _ h => h) (Or.inr ⟨by rfl, rfl⟩) hHeld ?z17n6k17
                try simp only [Act.put, List.setIfInBounds_toArray, List.set_cons_zero, List.set_cons_succ]
                refine wpAnyH_take (i := 18) (oi := ⟨some 81, Op.move (Operand.tmp 80), 4, _, _, some (15, true)⟩) (v := undef) rfl (by kernel_rfl) (by kernel_rfl) (by kernel_rfl) (fun _ _ _ h => h) (Or.inr ⟨by rfl, rfl⟩) hHeld ?z18n6k18
                try simp only [Act.put, List.setIfInBounds_toArray, List.set_cons_zero, List.set_cons_succ]
                refine wpAnyH_take (i := 19) (oi := ⟨some 82, Op.fieldAddr 32 (Operand.tmp 17) 1, 0, _, _, some (18, false)⟩) (v := undef) rfl (by kernel_rfl) (by kernel_rfl) (by kernel_rfl) (fun _ _ _ h => h) (Or.inr ⟨by rfl, rfl⟩) hHeld ?z19n6k19
                try simp only [Act.put, List.setIfInBounds_toArray, List.set_cons_zero, List.set_cons_succ]
                refine wpAnyH_take (i := 20) (oi := ⟨some 83, Op.load 3 (Operand.tmp 82), 3, _, _, some (18, false)⟩) (v := undef) rfl (by kernel_rfl) (by kernel_rfl) (by kernel_rfl) (fun _ _ _ h => h) (Or.inr ⟨by rfl, rfl⟩) hHeld ?z20n6k20
                try simp only [Act.put, List.setIfInBounds_toArray, List.set_cons_zero, List.set_cons_succ]
                refine wpAnyH_take (i := 21) (oi := ⟨some 84, Op.move (Operand.tmp 14), 37, _, _, some (18, false)⟩) (v := undef) rfl (by kernel_rfl) (by kernel_rfl) (by kernel_rfl) (fun _ _ _ h => h) (Or.inr ⟨by rfl, rfl⟩) hHeld ?z21n6k21
                try simp only [Act.put, List.setIfInBounds_toArray, List.set_cons_zero, List.set_cons_succ]
                refine wpAnyH_take (i := 22) (oi := ⟨some 85, Op.move (Operand.tmp 16), 3, _, _, some (18, false)⟩) (v := undef) rfl (by kernel_rfl) (by kernel_rfl) (by kernel_rfl) (fun _ _ _ h => h) (Or.inr ⟨by rfl, rfl⟩) hHeld ?z22n6k22
                try simp only [Act.put, List.setIfInBounds_toArray, List.set_cons_zero, List.set_cons_succ]
                refine wpAnyH_take (i := 23) (oi := ⟨some 86, Op.binOp BinOp.sub 3 (Operand.tmp 85) (Operand.const (Value.int IntKind.i64 1)) 3, 3, _, _, some (18, false)⟩) (v := undef) rfl (by kernel_rfl) (by kernel_rfl) (by kernel_rfl) (fun _ _ _ h => h) (Or.inr ⟨by rfl, rfl⟩) hHeld ?z23n6k23
                try simp only [Act.put, List.setIfInBounds_toArray, List.set_cons_zero, List.set_cons_succ]
                refine wpAnyH_take (i := 24) (oi := ⟨some 87, Op.indexAddr 37 (Operand.tmp 84) (Operand.tmp 86), 0, _, _, some (18, false)⟩) (v := undef) rfl (by kernel_rfl) (by kernel_rfl) (by kernel_rfl) (fun _ _ _ h => h) (Or.inr ⟨by rfl, rfl⟩) hHeld ?z24n6k24
                try simp only [Act.put, List.setIfInBounds_toArray, List.set_cons_zero, List.set_cons_succ]
                refine wpAnyH_take (i := 25) (oi := ⟨some 88, Op.fieldAddr 32 (Operand.tmp 87) 1, 0, _, _, some (18, false)⟩) (v := undef) rfl (by kernel_rfl) (by kernel_rfl) (by kernel_rfl) (fun _ _ _ h => h) (Or.inr ⟨by rfl, rfl⟩) hHeld ?z25n6k25
                try simp only [Act.put, List.setIfInBounds_toArray, List.set_cons_zero, List.set_cons_succ]
                refine wpAnyH_take (i := 26) (oi := ⟨some 89, Op.load 3 (Operand.tmp 88), 3, _, _, some (18, false)⟩) (v := undef) rfl (by kernel_rfl) (by kernel_rfl) (by kernel_rfl) (fun _ _ _ h => h) (Or.inr ⟨by rfl, rfl⟩) hHeld ?z26n6k26
                try simp only [Act.put, List.setIfInBounds_toArray, List.set_cons_zero, List.set_cons_succ]
                refine wpAnyH_take (i := 27) (oi := ⟨some 90, Op.binOp BinOp.geq 3 (Operand.tmp 83) (Operand.tmp 89) 3, 4, _, _, some (18, false)⟩) (v := undef) rfl (by kernel_rfl) (by kernel_rfl) (by kernel_rfl) (fun _ _ _ h => h) (Or.inr ⟨by rfl, rfl⟩) hHeld ?z27n6k27
                try simp only [Act.put, List.setIfInBounds_toArray, List.set_cons_zero, List.set_cons_succ]
                refine wpAnyH_take (i := 28) (oi := ⟨some 91, Op.pick (Operand.tmp 81) (Operand.const (Value.bool true)) (Operand.tmp 90), 4, _, _, some (15, true)⟩) (v := undef) rfl (by kernel_rfl) (by kernel_rfl) (by kernel_rfl) (fun _ _ _ h => h) (Or.inr ⟨by rfl, rfl⟩) hHeld ?z28n6k28
                try simp only [Act.put, List.setIfInBounds_toArray, List.set_cons_zero, List.set_cons_succ]
                refine wpAnyH_take (i := 29) (oi := ⟨some 92, Op.pick (Operand.tmp 78) (Operand.tmp 91) (Operand.const (Value.bool false)), 4, _, _, none⟩) (v := ?v29n6k29) rfl (by kernel_rfl) (by kernel_rfl) (by kernel_rfl) (fun _ _ _ h => h) (Or.inl ⟨by rfl, ?y29n6k29⟩) hHeld ?z29n6k29
                case y29n6k29 => intro w hSw; (try dsimp only at hSw); go_simp <;> rfl
                try simp only [Act.put, List.setIfInBounds_toArray, List.set_cons_zero, List.set_cons_succ]
                refine wpAnyH_take (i := 30) (oi := ⟨some 15, Op.assign (Operand.tmp 92), 4, _, _, none⟩) (v := ?v30n6k30) rfl (by kernel_rfl) (by kernel_rfl) (by kernel_rfl) (fun _ _ _ h => h) (Or.inl ⟨by rfl, ?y30n6k30⟩) hHeld ?z30n6k30
                case y30n6k30 => intro w hSw; (try dsimp only at hSw); go_simp <;> rfl
                try simp only [Act.put, List.setIfInBounds_toArray, List.set_cons_zero, List.set_cons_succ]
                refine wpAnyH_done (by kernel_rfl) ?_ _
                refine NoPanic.normal ?_
                go_wp2
                go_roundw
                case rel =>
                  refine ⟨k + 1, by omega, by go_num, Lib.hid ⟨_, rfl, good_more HQ.out _ ?_⟩, Lib.hid (K11.out.step K12.out)⟩
                  constructor
                  · intro h; cases h
                  · rintro ⟨h, hg⟩
                    exact absurd (hg x HX.out).1 HNR.out
                case measure => simp [intOf]; omega
          · obtain rfl : k = yn := by omega
            have HLV := Lib.hid (HL.out.keep HKv.out)
            have hrow := row_any (fun _ => True) ya k yc f1 yl wr HLV.out.lies HLV.out.len (by have := HF1.out; omega) (by have := HF1.out; omega)
            have hqr : rowB yl f1 0 = q := by
              have h1 := rowB_zero yl f1
              have h2 : yl.length = k := HLV.out.len
              have h3 : q = true ↔ ∀ j, j < k → Good yl f1 j := HQ.out
              rw [h2, ← h3] at h1
              clear h3
              cases hb : rowB yl f1 0 <;> cases q <;> simp_all
            rw [hqr] at hrow
            rw [HF1.out] at hrow
            clear hqr hc
            go_wp2_with fail
            refine hrow.mono ?_
            rintro e w12 ⟨rfl, k12⟩
            have K12 := Lib.hid (HKv.out.step k12)
            clear k12 hrow
            cases q
            · go_wp2
              go_roundw
              case rel => exact ⟨i + 1, by omega, by go_num, K12⟩
              case measure => simp [intOf]; omega
            · go_wp2
              go_roundw
              case rel => exact ⟨i + 1, by omega, by go_num, K12⟩
              case measure => simp [intOf]; omega
      · obtain rfl : i = 3 := by omega
        go_wp2
        go_ret
        exact ⟨rfl, KW10.out.step HKr.out⟩

end Go.Proofs.Ytgffdobhdkieaaa
