/-
  Edits that came in, cut short, and edits one behind the other. No statement is proved here.
-/
import Derived.Test.YtjijdkdpmbfdmaaL10ReadPl
import Derived.Test.YtjijdkdpmbfdmaaL10Open
import Derived.Test.YtjijdkdpmbfdmaaL10DoPl
namespace Go.Proofs.Ytjijdkdpmbfdmaa
open Go.RowKit Tot Go.ChangeShapes Go.WideShapes Go.ChangeAt

/-- A file whose name is cut to sixty bytes, and whose kind is a byte. -/
def cut60 (s : ByteArray) : ByteArray := s.extract 0 (min s.size 60)
theorem cut60_size (s : ByteArray) : (cut60 s).size ≤ 60 := by
  unfold cut60
  rw [ByteArray.size_extract]
  omega
theorem cut60_run (w : World) (s : ByteArray) (m : Nat) (hm : m = min s.size 60) : (Instr.slice 9 (.string s) none (some (.int .i64 (m : Int))) none).run Try.prog w = .ok (.string (cut60 s)) w := by
  have := run_slice_string_h (P := Try.prog) w 9 s Try.underlying9 .i64 (m : Int) (by omega) (by omega)
  rw [this]
  unfold cut60
  rw [hm]
  rfl
theorem and255 (n : Int) : bits .and .i64 n 255 = n % 256 := by
  have h255 : (BitVec.ofInt 64 255).toNat = 2 ^ 8 - 1 := by decide
  have e : ((BitVec.ofInt 64 n) &&& (BitVec.ofInt 64 255)).toNat = (n % 256).toNat := by
    rw [BitVec.toNat_and, BitVec.toNat_ofInt, h255, Nat.and_two_pow_sub_one_eq_mod]
    omega
  show IntKind.i64.wrap (((BitVec.ofInt 64 n) &&& (BitVec.ofInt 64 255)).toNat : Int) = n % 256
  rw [e, IntWalk.i64_in _ (by omega)]
  omega
def cutR (r : RefV) : RefV := ⟨cut60 r.name, r.kind % 256, r.from_, r.to_⟩
theorem cutR_fit {r : RefV} (h1 : Fit r.from_) (h2 : Fit r.to_) : (cutR r).Fit := by
  have := cut60_size r.name
  exact ⟨by show (cut60 r.name).size ≤ _; omega, by show 0 ≤ r.kind % 256; omega, by show r.kind % 256 < 256; omega, h1, h2⟩

theorem refCells_set (L : List RefV) (j : Nat) (x : RefV) (s : ByteArray) (k : Int) (h : L[j]? = some x) : ((refCells L).set (j * 4) (.string s)).set (j * 4 + 1) (.int .i64 k) = refCells (L.set j ⟨s, k, x.from_, x.to_⟩) := by
  induction L generalizing j with
  | nil => simp at h
  | cons a l ih =>
    cases j with
    | zero =>
      simp only [List.getElem?_cons_zero, Option.some.injEq] at h
      subst h
      rfl
    | succ j =>
      have h' := ih j (by simpa using h)
      have e : refCells (a :: l) = .string a.name :: .int .i64 a.kind :: .int .i64 a.from_ :: .int .i64 a.to_ :: refCells l := rfl
      rw [e, show (j + 1) * 4 = j * 4 + 1 + 1 + 1 + 1 by omega, show j * 4 + 1 + 1 + 1 + 1 + 1 = (j * 4 + 1) + 1 + 1 + 1 + 1 by omega]
      simp only [List.set_cons_succ]
      rw [h']
      rfl
/-- While files are cut, one behind the other. -/
def CutTo (L C : List RefV) (j : Nat) : Prop := ∀ i, C[i]? = if i < j then (L[i]?).map cutR else L[i]?
theorem CutTo.start (L : List RefV) : CutTo L L 0 := fun i => by simp
theorem CutTo.len {L C : List RefV} {j : Nat} (h : CutTo L C j) : C.length = L.length := by
  have h1 := h C.length
  have h2 := h L.length
  rw [List.getElem?_eq_none (Nat.le_refl _)] at h1
  rcases Nat.lt_trichotomy C.length L.length with hl | hl | hl
  · rw [List.getElem?_eq_getElem hl] at h1
    split at h1 <;> simp at h1
  · exact hl
  · rw [List.getElem?_eq_getElem hl, List.getElem?_eq_none (Nat.le_refl _)] at h2
    split at h2 <;> simp at h2
theorem CutTo.at_ {L C : List RefV} {j : Nat} (h : CutTo L C j) {x : RefV} (hx : L[j]? = some x) : C[j]? = some x := by rw [h j, if_neg (by omega), hx]
theorem CutTo.next {L C : List RefV} {j : Nat} (h : CutTo L C j) {x : RefV} (hx : L[j]? = some x) : CutTo L (C.set j (cutR x)) (j + 1) := fun i => by
  have hj : j < C.length := by rw [h.len]; exact (List.getElem?_eq_some_iff.1 hx).1
  rw [List.getElem?_set]
  by_cases hij : j = i
  · subst hij
    rw [if_pos rfl, if_pos hj, if_pos (by omega), hx]
    rfl
  · rw [if_neg hij, h i]
    by_cases hlt : i < j
    · rw [if_pos hlt, if_pos (by omega)]
    · rw [if_neg hlt, if_neg (by omega)]
theorem CutTo.done {L C : List RefV} (h : CutTo L C L.length) : C = L.map cutR := by
  refine List.ext_getElem? fun i => ?_
  rw [h i, List.getElem?_map]
  by_cases hi : i < L.length
  · rw [if_pos hi]
  · rw [if_neg hi, List.getElem?_eq_none (by omega)]
    rfl
/-- An edit with its slices. -/
structure EdV where
  e : EditV
  A : Option Addr
  a : Nat
  D : Option Addr
  d : Nat
def EdV.cells (x : EdV) : List Value := [.slice x.A x.e.add.length x.a, .slice x.D x.e.drop.length x.d, .int .i64 x.e.floor]
theorem ed_len (x : EdV) : x.cells.length = 3 := rfl
theorem Try.infoEd : (Try.prog.info? 36).map (fun i => (i.zero, i.size, i.bytes)) = some (some (.agg #[.slice none 0 0, .slice none 0 0, .int .i64 0]), 3, 56) := by kernel_rfl
theorem src_ed {w : World} {B : Nat} {t : TypeId} {fr : Nat × Nat} {c : Nat} (x : EdV) (hb : w.heap[B]? = some (.cells x.cells.toArray t fr)) : Src Try.prog 3 55 (.slice (some ⟨B, 0, none⟩) 1 c) 1 x.cells w := by
  refine Src.ofSlice w Try.underlying55 _ _ _ _ rfl ?_ (fun u hu => ?_)
  · intro j u hu
    have := World.news_of_block hb j u (by simpa using hu)
    exact this
  · unfold EdV.cells at hu
    simp only [List.mem_cons, List.not_mem_nil, or_false] at hu
    rcases hu with rfl | rfl | rfl <;> rfl
/-- Edits that come one behind the other. -/
structure AllE (w wr : World) (P : Option Addr) (m pc : Nat) (es : List EdV) : Prop where
  own : wr.ownsRow 0 36 3 (.slice P m pc) m (es.flatMap EdV.cells)
  ev : ∀ x ∈ es, Ev wr (fun i => ¬ (Value.slice P m pc).ownBlock = some i) x.e x.A x.a x.D x.d
  fit : ∀ x ∈ es, x.e.Fits ∧ x.e.bytes.length ≤ 40000000
  blo : ∀ i, (Value.slice P m pc).ownBlock = some i → w.heap.size ≤ i
  len : es.length = m
  kept : Kept noBlock w wr
theorem AllE.keep {w wr u : World} {P : Option Addr} {m pc : Nat} {es : List EdV} (h : AllE w wr P m pc es) (k : Kept noBlock wr u) : AllE w u P m pc es :=
  ⟨own_keep h.own k (fun _ _ h => h), fun y hy => (h.ev y hy).keep k (fun _ _ h => h), h.fit, h.blo, h.len, h.kept.step k⟩
/-- One edit more. -/
theorem AllE.one {w wr u v : World} {P P' : Option Addr} {m pc pc' : Nat} {es : List EdV} (h : AllE w wr P m pc es) (k : Kept noBlock wr u) (x : EdV) (l : Ev u (fun i => wr.heap.size ≤ i ∧ i < u.heap.size) x.e x.A x.a x.D x.d) (hf : x.e.Fits ∧ x.e.bytes.length ≤ 40000000)
    (o : v.ownsRow 0 36 3 (.slice P' (m + 1) pc') (m + 1) (es.flatMap EdV.cells ++ x.cells)) (kv : Kept (fun i => (Value.slice P m pc).ownBlock = some i) u v) (hat : ∀ i, (Value.slice P' (m + 1) pc').ownBlock = some i → (Value.slice P m pc).ownBlock = some i ∨ fresh u v i) : AllE w v P' (m + 1) pc' (es ++ [x]) := by
  have hP : ∀ i, (Value.slice P m pc).ownBlock = some i → i < wr.heap.size := fun i hi => (h.own.lt i hi).2
  have key : ∀ y : EdV, Ev u (fun i => ¬ (Value.slice P m pc).ownBlock = some i ∧ i < u.heap.size) y.e y.A y.a y.D y.d → Ev v (fun i => ¬ (Value.slice P' (m + 1) pc').ownBlock = some i) y.e y.A y.a y.D y.d := fun y hy =>
    (hy.keep kv (fun i hi => hi.1)).mono (fun i hi e => by
      rcases hat i e with h | h
      · exact hi.1 h
      · have := h.1; omega)
  refine ⟨by rw [List.flatMap_append]; simpa using o, fun y hy => ?_, fun y hy => ?_, fun i hi => ?_, by rw [List.length_append, h.len]; rfl, ?_⟩
  · rcases List.mem_append.1 hy with hy | hy
    · have h1 := h.ev y hy
      exact key y ⟨((Lies.and h1.la h1.la.lt).keep k (fun _ _ h => h)).mono (fun i hi => ⟨hi.1, Nat.lt_of_lt_of_le hi.2 k.size⟩), ((Lies.and h1.ld h1.ld.lt).keep k (fun _ _ h => h)).mono (fun i hi => ⟨hi.1, Nat.lt_of_lt_of_le hi.2 k.size⟩), h1.ca, h1.cb⟩
    · rw [List.mem_singleton] at hy
      subst hy
      exact key _ (l.mono (fun i hi => ⟨fun e => by have := hP i e; omega, hi.2⟩))
  · rcases List.mem_append.1 hy with hy | hy
    · exact h.fit y hy
    · rw [List.mem_singleton] at hy
      subst hy
      exact hf
  · rcases hat i hi with h1 | h1
    · exact h.blo i h1
    · exact Nat.le_trans (Nat.le_trans h.kept.size k.size) h1.1
  · exact (h.kept.step k).trans kv (fun i hi e => by have := h.blo i e; omega)

theorem edit_step2 {F : Nat → Prop} {x : StepV} {w : World} (h : x.lies F w) : Calls Try.prog 12 #[.agg #[.slice x.A x.add.length x.ca, .slice x.D x.drop.length x.cd, .int .u8 (x.floor.toNat : Int), .bool x.odd, .string x.any.name, .int .i64 x.any.kind, .int .i64 x.any.from_, .int .i64 x.any.to_]] w fun en w' => ∃ A a D d, en = .returned (.agg #[.slice A (editOf x).add.length a, .slice D (editOf x).drop.length d, .int .i64 (editOf x).floor]) ∧ Ev w' (fresh w w') (editOf x) A a D d ∧ Kept noBlock w w' := by
  refine (ledit_any F x w h).mono ?_
  rintro en w' ⟨A, a, D, d, rfl, ev, k⟩
  exact ⟨A, a, D, d, rfl, ev, k⟩
theorem short_counts {e : EditV} (h : e.bytes.length ≤ 40000000) : e.add.length ≤ 40000000 ∧ e.drop.length ≤ 40000000 := by
  rw [EditV.bytes_length] at h
  have h4 : ∀ l : List RefV, l.length ≤ (l.flatMap refB).length := fun l => by
    induction l with
    | nil => simp
    | cons p q ih => rw [List.flatMap_cons, List.length_append, refB_length, List.length_cons]; omega
  have h5 : ∀ l : List ByteArray, l.length ≤ (l.flatMap tx).length := fun l => by
    induction l with
    | nil => simp
    | cons p q ih => rw [List.flatMap_cons, List.length_append, tx_length, List.length_cons]; omega
  have h6 := h4 e.add
  have h7 := h5 e.drop
  omega

set_option maxRecDepth 100000 in
theorem open_edit {H : Type} {enc : TypeId × Value → H} {W : World} {base : Nat} {v : Value} {d : DataW H} {p : List MemPlace} (hv : Value.okWide Try.prog W .any base 36 v) (h : DataW.Trod enc Try.prog W 0 (fun _ => true) true 36 v d p) :
    ∃ (e : EditV) (A : Option Addr) (c : Nat) (D : Option Addr) (b : Nat), v = evl e A c D b ∧ Ev W (fun i => i < W.heap.size) e A c D b ∧ (∀ r ∈ e.add, Fit r.from_ ∧ Fit r.to_) ∧ (∀ s ∈ e.drop, s.size ≤ Rows.uptoBulk d) ∧ Fit e.floor := by
  obtain ⟨cs, rfl, hsz⟩ := okWide_struct Try.underlying36 hv
  rw [show Try.prog.cellsOf 36 = 3 from by kernel_rfl] at hsz
  obtain ⟨m, hm⟩ := h
  obtain ⟨q0, q1, q2, hq⟩ : ∃ q0 q1 q2, cs = #[q0, q1, q2] := by
    obtain ⟨l⟩ := cs
    match l, hsz with
    | [q0, q1, q2], _ => exact ⟨q0, q1, q2, rfl⟩
  subst hq
  simp only [Value.cells] at hm
  obtain ⟨y0, y1, y2, n, hd, _, h0, h1, h2⟩ := Deep.trod_struct3 Try.underlying36 hm
  rw [show Try.prog.cellsOf 24 = 1 from by kernel_rfl] at h0
  rw [show Try.prog.cellsOf 34 = 1 from by kernel_rfl] at h1
  rw [show Try.prog.cellsOf 3 = 1 from by kernel_rfl] at h2
  simp only [List.drop_zero, List.drop_succ_cons, List.take_succ_cons, List.take_zero] at h0 h1 h2
  obtain ⟨A, la, c, rfl⟩ := form_slice Try.underlying24 h0
  obtain ⟨D, ld, b, rfl⟩ := form_slice Try.underlying34 h1
  obtain ⟨k2, e2, _, w2⟩ := DataW.trod_int Try.underlying3 h2
  simp only [List.cons.injEq, and_true] at e2
  obtain ⟨rs, l1, l2, _, l4, l5⟩ := open_slice_of (d := y0.1) (p := y0.2) RefV.cells RefRead (size := 4) (by decide) (fun _ => rfl) Try.underlying24 (by kernel_rfl) ref_read ⟨n, h0⟩
  obtain ⟨ds, m1, m2, _, m4, m5⟩ := open_slice_of (d := y1.1) (p := y1.2) (fun s : ByteArray => [Value.string s]) (fun d s => s.size ≤ Rows.uptoBulk d) (size := 1) (by decide) (fun _ => rfl) Try.underlying34 (by kernel_rfl) (fun n cs d pl h hl => by
    obtain ⟨s0, e0, r0, _⟩ := DataW.trod_string Try.underlying9 h
    refine ⟨s0, e0, ?_⟩
    have r1 := congrArg Prod.fst r0
    simp only at r1
    rw [r1, bulk_string]
    have : s0.data.toList.length = s0.size := by rw [Array.length_toList]; rfl
    omega) ⟨n, h1⟩
  have hb : Rows.uptoBulk d = Rows.uptoBulk (.agg [y0.1, y1.1, y2.1]) := congrArg _ (congrArg Prod.fst hd)
  rw [bulk_agg] at hb
  simp only [Rows.uptoBulkAll] at hb
  have m4' : Lies W (fun i => i < W.heap.size) D (ds.map Value.string) := by
    have e : ∀ l : List ByteArray, l.flatMap (fun s => [Value.string s]) = l.map Value.string := fun l => by
      induction l with
      | nil => rfl
      | cons y r ih => rw [List.flatMap_cons, ih]; rfl
    rw [e] at m4
    exact m4
  refine ⟨⟨rs, ds, k2⟩, A, c, D, b, by unfold evl; rw [e2, ← l1, ← m1], ⟨l4, m4', by show rs.length ≤ c; omega, by show ds.length ≤ b; omega⟩, fun r hr => ?_, fun s hs => ?_, step_fit w2⟩
  · obtain ⟨i, hi⟩ := List.getElem?_of_mem hr
    rcases l5 with ⟨_, rfl⟩ | ⟨elems, spare, _, _, h6⟩
    · cases hr
    · obtain ⟨y, hy, hr⟩ := h6 i r hi
      exact hr.2.2
  · obtain ⟨i, hi⟩ := List.getElem?_of_mem hs
    rcases m5 with ⟨_, rfl⟩ | ⟨elems, spare, he, _, h6⟩
    · cases hs
    · obtain ⟨y, hy, hr⟩ := h6 i s hi
      have h7 := bulk_mem (List.mem_of_getElem? hy)
      have h8 := bulk_slice (elems := elems) (spare := spare)
      rw [← he] at h8
      omega
end Go.Proofs.Ytjijdkdpmbfdmaa
