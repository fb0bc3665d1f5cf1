/-
  Several texts, one behind the other. No statement is proved here.
-/
import Derived.Test.YthmjjhjblokjeaaGreatBoxA
import Derived.Test.YthmjjhjblokjeaaGreatSayK
import Derived.Test.YthmjjhjblokjeaaGreatDltK
/-
  The document's examples, as the statements of layer 7 ask them first. No statement is proved here.
-/
namespace Go.Proofs.YthmjjhjblokjeaaGreat
open Go.RowKit Tot

/-- Two replies compared part by part. -/
def RepV.same (c d : RepV) : Bool := c.err == d.err && c.value.toList == d.value.toList
theorem RepV.same_iff (c d : RepV) : c.same d = true ↔ c = d := by
  obtain ⟨a1, a2⟩ := c
  obtain ⟨b1, b2⟩ := d
  simp only [RepV.same, Bool.and_eq_true, toList_inj, RepV.mk.injEq, beq_iff_eq]
theorem RepV.same_self (c : RepV) : c.same c = true := (RepV.same_iff c c).2 rfl
theorem RepV.same_ne {c d : RepV} (h : c ≠ d) : c.same d = false := by
  cases h1 : c.same d
  · rfl
  · exact absurd ((RepV.same_iff c d).1 h1) h
set_option maxRecDepth 100000 in
theorem rep_equalIn (k : Nat) (w : World) (c d : RepV) : (Op.equalIn (k + 1 + 1) 61 c.val d.val).run Tryz.prog w = .ok (c.same d) w := by
  have u3 := Tryz.underlying32
  have a3 := Tryz.isAgg32
  have z3 := Tryz.sizeOf32
  have u5 := Tryz.underlying9
  have a5 := Tryz.isAgg9
  have z5 := Tryz.sizeOf9
  have hS : Tryz.prog.underlying 61 = some (.struct (Tryz.prog.fieldsOf 61)) := by kernel_rfl
  have hp : Tryz.prog.stoodInHeld 61 = false := by kernel_rfl
  unfold RepV.val
  rw [run_equalIn_agg w (k + 1) 61 _ _ hS hp]
  simp only [Program.fieldsOf, Tryz.underlying61]
  go_simp
  unfold RepV.same
  repeat' split
  all_goals simp_all
theorem rep_eql (w : World) (c d : RepV) : (binOp .eql 61 c.val d.val).run Tryz.prog w = .ok (.bool (c.same d)) w := by
  have h := rep_equalIn 9998 w c d
  unfold RepV.val at h ⊢
  rw [run_eql_struct, show (10000 : Nat) = 9998 + 1 + 1 from rfl, h]
  rfl
theorem rep_neq (w : World) (c d : RepV) : (binOp .neq 61 c.val d.val).run Tryz.prog w = .ok (.bool (!c.same d)) w := by
  have h := rep_equalIn 9998 w c d
  unfold RepV.val at h ⊢
  rw [run_neq_struct, show (10000 : Nat) = 9998 + 1 + 1 from rfl, h]
  rfl

theorem fld_value (w : World) (a : Value) (b : ByteArray) : (Instr.field 61 (.agg #[a, .string b]) 1).run Tryz.prog w = .ok (.string b) w := by
  have a5 := Tryz.isAgg9
  have z5 := Tryz.sizeOf9
  unfold Instr.field
  simp [run_underlying Tryz.underlying61, go_sem, asAgg]
theorem fld_err (w : World) (a : Int) (b : Value) : (Instr.field 61 (.agg #[.int .i64 a, b]) 0).run Tryz.prog w = .ok (.int .i64 a) w := by
  have a5 := Tryz.isAgg32
  have z5 := Tryz.sizeOf32
  unfold Instr.field
  simp [run_underlying Tryz.underlying61, go_sem, asAgg]
def tK : ByteArray := ⟨#[107]⟩
def tV : ByteArray := ⟨#[118]⟩
def aw1 : StV := ⟨1, 0, [(tK, (tV, false))], [(0, (1, told 0))]⟩
def aw2 : StV := ⟨2, 0, [(tK, (tV, false))], [(0, (1, told 0))]⟩
def aw3 : StV := ⟨3, 0, [], [(0, (2, ⟨0, tV⟩))]⟩
theorem awk1 : stepV noState ⟨1, 0, ⟨1, 0, 1, tK, tV, noText⟩⟩ = (aw1, told 0) := by rfl
theorem awk2 : stepV aw1 ⟨2, 0, ⟨2, 0, 1, tK, noText, noText⟩⟩ = (aw2, told 0) := by rfl
theorem awk3 : stepV aw2 ⟨3, 0, ⟨2, 0, 2, tK, noText, noText⟩⟩ = (aw3, ⟨0, tV⟩) := by
  have hp : Srt.pos aw2.pairs tK = 0 := by unfold aw2; rw [Srt.pos_cons, if_neg (by rw [Tot.irr]; simp)]
  have hd : Srt.del aw2.pairs tK = [] := by unfold Srt.del; rw [hp]; rfl
  have h : doV aw2.pairs ⟨2, 0, 2, tK, noText, noText⟩ = (Srt.del aw2.pairs tK, ⟨0, tV⟩) := rfl
  have h2 : stepV aw2 ⟨3, 0, ⟨2, 0, 2, tK, noText, noText⟩⟩ = (⟨3, 0, (doV aw2.pairs ⟨2, 0, 2, tK, noText, noText⟩).1, Srt.put aw2.sess 0 (2, (doV aw2.pairs ⟨2, 0, 2, tK, noText, noText⟩).2)⟩, (doV aw2.pairs ⟨2, 0, 2, tK, noText, noText⟩).2) := rfl
  rw [h2, h, hd]
  rfl
theorem awk4 : getV aw2.pairs tK = ⟨0, tV⟩ := by rfl
theorem aw1_right : aw1.Right := by have := stepV_right noState_right ⟨1, 0, ⟨1, 0, 1, tK, tV, noText⟩⟩; rw [awk1] at this; exact this
theorem aw2_right : aw2.Right := by have := stepV_right aw1_right ⟨2, 0, ⟨2, 0, 1, tK, noText, noText⟩⟩; rw [awk2] at this; exact this
theorem Sv.none (w : World) (F : Nat → Prop) : Sv w F noState none 0 none 0 := ⟨Lies.nil _ _ _, Lies.nil _ _ _, Nat.le_refl _, Nat.le_refl _⟩

/-- A state and what is told, each in a new block. -/
theorem two_new (w : World) (x0 x1 x2 x3 y0 y1 : Value) : Kept noBlock w ((w.alloc (.cells #[x0, x1, x2, x3] 27)).alloc (.cells #[y0, y1] 61)) ∧ ((w.alloc (.cells #[x0, x1, x2, x3] 27)).alloc (.cells #[y0, y1] 61)).heap[w.heap.size]? = some (.cells #[x0, x1, x2, x3] 27 (0, 0)) ∧
    ((w.alloc (.cells #[x0, x1, x2, x3] 27)).alloc (.cells #[y0, y1] 61)).heap[w.heap.size + 1]? = some (.cells #[y0, y1] 61 (0, 0)) :=
  ⟨(Kept.alloc _ _ _).step (Kept.alloc _ _ _), (Kept.alloc noBlock _ _).blk (heap_alloc_new w _) (fun h => h), heap_alloc_at (by simp)⟩
theorem re_cells {w : World} {R : Nat} {x0 x1 : Value} {t : TypeId} {fr : Nat × Nat} (h : w.heap[R]? = some (.cells #[x0, x1] t fr)) : w.cell? ⟨R, 0, none⟩ = some x0 ∧ w.cell? ⟨R, 1, none⟩ = some x1 :=
  ⟨cell_of_row _ _ _ _ _ _ h, cell_of_row _ _ _ _ _ _ h⟩

end Go.Proofs.YthmjjhjblokjeaaGreat

/-
  The state behind says. No statement is proved here.
-/
namespace Go.Proofs.YthmjjhjblokjeaaGreat
open Go.RowKit Tot

/-- The entries of says, and the state behind them. -/
def entsS (ss : List SayV) : List EntryV := entsOf (ss.take 80) 1 0
def someV (ss : List SayV) : StV := foldV noState (entsS ss)
theorem entsS_length (ss : List SayV) : (entsS ss).length ≤ 80 := by unfold entsS; rw [entsOf_length, List.length_take]; omega
theorem someV_right (ss : List SayV) : (someV ss).Right := foldV_right noState_right _

end Go.Proofs.YthmjjhjblokjeaaGreat

/-
  What is known of the states that the statements of layer 7 draw: plain mathematics. No statement is proved here.
-/
namespace Go.Proofs.YthmjjhjblokjeaaGreat
open Go.RowKit Tot

theorem look_put {α β : Type} [Tot α] {L : List (α × β)} (hu : Srt.Up L) (k : α) (v : β) : Srt.look (Srt.put L k v) k = some v :=
  Srt.look_of_mem (Srt.up_put hu k v) ((Srt.mem_put hu k v (k, v)).2 (.inl rfl))
theorem look_put_ne {α β : Type} [Tot α] {L : List (α × β)} (hu : Srt.Up L) {k j : α} (v : β) (hj : j ≠ k) : Srt.look (Srt.put L k v) j = Srt.look L j := by
  cases h : Srt.look L j with
  | some x => exact Srt.look_of_mem (Srt.up_put hu k v) ((Srt.mem_put hu k v (j, x)).2 (.inr ⟨Srt.mem_of_look h, hj⟩))
  | none =>
    refine Srt.look_none_of fun p hp e => ?_
    rcases (Srt.mem_put hu k v p).1 hp with h1 | ⟨h1, _⟩
    · rw [h1] at e; exact hj e.symm
    · have := Srt.look_of_mem hu (k := p.1) (v := p.2) h1
      rw [e, h] at this
      cases this
theorem look_del {α β : Type} [Tot α] {L : List (α × β)} (hu : Srt.Up L) (k : α) : Srt.look (Srt.del L k) k = none :=
  Srt.look_none_of fun p hp e => ((Srt.mem_del hu k p).1 hp).2 e
theorem look_del_ne {α β : Type} [Tot α] {L : List (α × β)} (hu : Srt.Up L) {k j : α} (hj : j ≠ k) : Srt.look (Srt.del L k) j = Srt.look L j := by
  cases h : Srt.look L j with
  | some x => exact Srt.look_of_mem (Srt.up_del hu k) ((Srt.mem_del hu k (j, x)).2 ⟨Srt.mem_of_look h, hj⟩)
  | none =>
    refine Srt.look_none_of fun p hp e => ?_
    have := Srt.look_of_mem hu (k := p.1) (v := p.2) ((Srt.mem_del hu k p).1 hp).1
    rw [e, h] at this
    cases this

/-- An entry that is the next one. -/
structure NextE (s : StV) (e : EntryV) : Prop where
  right : e.Right
  index : e.index = s.index + 1
  term : s.term ≤ e.term
theorem stepV_next {s : StV} {e : EntryV} (h : NextE s e) : stepV s e = if e.cmd.op = 0 then ({ s with index := e.index, term := e.term }, told 0) else onceV { s with index := e.index, term := e.term } e.cmd := by
  unfold stepV
  rw [if_neg (by simpa using h.right), if_neg (by have := h.index; have := h.term; omega)]
theorem onceV_head (s : StV) (c : CmdV) : (onceV s c).1.index = s.index ∧ (onceV s c).1.term = s.term := by
  unfold onceV
  cases Srt.look s.sess c.client with
  | none => exact ⟨rfl, rfl⟩
  | some q =>
    simp only
    split
    · exact ⟨rfl, rfl⟩
    · split
      · exact ⟨rfl, rfl⟩
      · exact ⟨rfl, rfl⟩
theorem stepV_head {s : StV} {e : EntryV} (h : NextE s e) : (stepV s e).1.index = e.index ∧ (stepV s e).1.term = e.term := by
  rw [stepV_next h]
  split
  · exact ⟨rfl, rfl⟩
  · exact onceV_head _ _
theorem actV_seq {s : StV} {c : CmdV} {M : Int} (hu : Srt.Up s.sess) (h : ∀ x ∈ s.sess, x.2.1 < M) (hc : c.seq < M) : ∀ x ∈ (actV s c).1.sess, x.2.1 < M := by
  intro x hx
  rcases (Srt.mem_put hu _ _ x).1 hx with rfl | ⟨h1, _⟩
  · exact hc
  · exact h x h1
theorem stepV_seq {s : StV} {e : EntryV} {M : Int} (hs : s.Right) (h : ∀ x ∈ s.sess, x.2.1 < M) (hc : e.cmd.seq < M) : ∀ x ∈ (stepV s e).1.sess, x.2.1 < M := by
  unfold stepV
  split
  · exact h
  · split
    · exact h
    · split
      · exact h
      · unfold onceV
        cases Srt.look s.sess e.cmd.client with
        | none => exact actV_seq (s := { s with index := e.index, term := e.term }) hs.ups h hc
        | some q =>
          simp only
          split
          · exact h
          · split
            · exact h
            · exact actV_seq (s := { s with index := e.index, term := e.term }) hs.ups h hc
/-- Behind the entries of says. -/
theorem foldV_says (ss : List SayV) (i t : Int) (s : StV) (hs : s.Right) (hi : s.index + 1 = i) (h1 : 1 ≤ i) (h2 : i + ss.length ≤ 1000000) (ht : s.term ≤ t) (h3 : 0 ≤ t) (h4 : t + ss.length ≤ 1000000) (hq : ∀ x ∈ s.sess, x.2.1 < 40) :
    (foldV s (entsOf ss i t)).index = s.index + ss.length ∧ s.term ≤ (foldV s (entsOf ss i t)).term ∧ ((foldV s (entsOf ss i t)).term ≤ t + ss.length) ∧ ∀ x ∈ (foldV s (entsOf ss i t)).sess, x.2.1 < 40 := by
  induction ss generalizing i t s with
  | nil => refine ⟨by simp [entsOf, foldV], by simp [entsOf, foldV], by simp [entsOf, foldV]; omega, hq⟩
  | cons q r ih =>
    have hb := bump_bounds q t
    rw [List.length_cons] at h2 h4
    have hn : NextE s ⟨i, bump q t, q.cmd⟩ := ⟨⟨h1, by show i ≤ 1048576; omega, by show 0 ≤ bump q t; omega, by show bump q t ≤ 1048576; omega, q.may⟩, hi.symm, by show s.term ≤ bump q t; omega⟩
    obtain ⟨e1, e2⟩ := stepV_head hn
    have hsq : q.cmd.seq < 40 := by
      unfold SayV.cmd
      split
      · decide
      · show ((q.seq.toNat % 40 : Nat) : Int) < 40
        omega
    have hq' := stepV_seq (e := ⟨i, bump q t, q.cmd⟩) hs hq hsq
    have := ih (i + 1) (bump q t) (stepV s ⟨i, bump q t, q.cmd⟩).1 (stepV_right hs _) (by rw [e1]) (by omega) (by omega) (by rw [e2]; exact Int.le_refl _) (by omega) (by omega) hq'
    have ef : foldV s (entsOf (q :: r) i t) = foldV (stepV s ⟨i, bump q t, q.cmd⟩).1 (entsOf r (i + 1) (bump q t)) := rfl
    rw [ef]
    obtain ⟨a1, a2, a3, a4⟩ := this
    rw [e1] at a1
    rw [e2] at a2
    simp only at a1 a2
    refine ⟨by rw [a1, List.length_cons]; omega, by omega, by rw [List.length_cons]; omega, a4⟩
theorem someV_facts (ss : List SayV) : (someV ss).index = (entsS ss).length ∧ 0 ≤ (someV ss).term ∧ (someV ss).term ≤ 80 ∧ ∀ x ∈ (someV ss).sess, x.2.1 < 40 := by
  have hl : (ss.take 80).length ≤ 80 := by rw [List.length_take]; omega
  have h := foldV_says (ss.take 80) 1 0 noState noState_right rfl (by omega) (by omega) (by show (0 : Int) ≤ 0; omega) (by omega) (by omega) (by unfold noState; simp)
  unfold someV entsS
  refine ⟨?_, h.2.1, by omega, h.2.2.2⟩
  rw [h.1, entsOf_length]
  show (0 : Int) + _ = _
  omega

/-- A command of a client with a number that is greater than all before. -/
theorem onceV_new {s : StV} {c : CmdV} (h : ∀ x ∈ s.sess, x.2.1 < c.seq) : onceV s c = actV s c := by
  unfold onceV
  cases hk : Srt.look s.sess c.client with
  | none => rfl
  | some q =>
    have := h _ (Srt.mem_of_look hk)
    simp only at this
    simp only
    rw [if_neg (by omega), if_neg (by omega)]
theorem stepV_new {s : StV} {e : EntryV} (hn : NextE s e) (h0 : e.cmd.op ≠ 0) (h : ∀ x ∈ s.sess, x.2.1 < e.cmd.seq) : stepV s e = (⟨e.index, e.term, (doV s.pairs e.cmd).1, Srt.put s.sess e.cmd.client (e.cmd.seq, (doV s.pairs e.cmd).2)⟩, (doV s.pairs e.cmd).2) := by
  rw [stepV_next hn, if_neg h0, onceV_new (s := { s with index := e.index, term := e.term }) h]
  rfl
theorem stepV_again {s : StV} {e : EntryV} {r : RepV} (hn : NextE s e) (h0 : e.cmd.op ≠ 0) (h : Srt.look s.sess e.cmd.client = some (e.cmd.seq, r)) : stepV s e = ({ s with index := e.index, term := e.term }, r) := by
  rw [stepV_next hn, if_neg h0]
  unfold onceV
  simp only [h]
  rw [if_pos trivial]
theorem stepV_old {s : StV} {e : EntryV} {q : Int} {r : RepV} (hn : NextE s e) (h0 : e.cmd.op ≠ 0) (h : Srt.look s.sess e.cmd.client = some (q, r)) (hq : e.cmd.seq < q) : stepV s e = ({ s with index := e.index, term := e.term }, told 12) := by
  rw [stepV_next hn, if_neg h0]
  unfold onceV
  simp only [h]
  rw [if_neg (by omega), if_pos hq]
end Go.Proofs.YthmjjhjblokjeaaGreat

/-
  The entries of says, and others behind them, as one statement draws them: plain mathematics. No statement is proved here.
-/
namespace Go.Proofs.YthmjjhjblokjeaaGreat
open Go.RowKit Tot

/-- The term behind entries. -/
def lastT (es : List EntryV) (t : Int) : Int := es.foldl (fun _ e => e.term) t
theorem rowB_append (a b : List EntryV) (i t : Int) : rowB (a ++ b) i t = (rowB a i t && rowB b (i + a.length) (lastT a t)) := by
  induction a generalizing i t with
  | nil => simp [rowB_nil, lastT]
  | cons e r ih =>
    rw [List.cons_append, rowB_cons, rowB_cons, ih, List.length_cons]
    have : i + 1 + (r.length : Int) = i + ((r.length + 1 : Nat) : Int) := by omega
    rw [this, Bool.and_assoc]
    rfl
theorem lastT_ents (ss : List SayV) (i t : Int) : lastT (entsOf ss i t) t ≤ t + ss.length := by
  have aux : ∀ (ss : List SayV) (i t t0 : Int), t0 ≤ t → lastT (entsOf ss i t) t0 ≤ t + ss.length := by
    intro ss
    induction ss with
    | nil => intro i t t0 h; simp [entsOf, lastT]; exact h
    | cons s r ih =>
      intro i t t0 h
      have hb := bump_bounds s t
      have := ih (i + 1) (bump s t) (bump s t) (Int.le_refl _)
      show lastT (entsOf r (i + 1) (bump s t)) (bump s t) ≤ _
      rw [List.length_cons]
      omega
  exact aux ss i t t (Int.le_refl _)
/-- An entry behind them. -/
def tailE (L k : Nat) : EntryV := ⟨(L : Int) + k + 1, 90, ⟨1, 3, 100 + k, str [UInt8.ofNat (33 + k)], ⟨#[120]⟩, ⟨#[]⟩⟩⟩
theorem tailE_right {L k : Nat} (hL : L ≤ 80) (hk : k < 70) : (tailE L k).Right := by
  refine ⟨by show 1 ≤ (L : Int) + k + 1; omega, by show (L : Int) + k + 1 ≤ 1048576; omega, by show (0 : Int) ≤ 90; omega, by show (90 : Int) ≤ 1048576; omega, .inr ?_⟩
  refine ⟨by show (1 : Int) ≤ 1; omega, by show (1 : Int) ≤ 3; omega, by show (0 : Int) ≤ 3; omega, by show (3 : Int) ≤ 3; omega, by show 0 ≤ 100 + (k : Int); omega, by show 100 + (k : Int) ≤ 1048576; omega, ?_, ?_, ?_, ?_⟩
  · show 1 ≤ (str [UInt8.ofNat (33 + k)]).size
    rw [str_size]; simp
  · show (str [UInt8.ofNat (33 + k)]).size ≤ 8
    rw [str_size]; simp
  · show (1 : Nat) ≤ 16
    omega
  · show (0 : Nat) ≤ 16
    omega
theorem rowB_tail (L : Nat) (hL : L ≤ 80) (n k : Nat) (t : Int) (hk : k + n ≤ 70) (ht : t ≤ 90) : rowB ((List.range' k n).map (tailE L)) ((L : Int) + k + 1) t = true := by
  induction n generalizing k t with
  | zero => rfl
  | succ n ih =>
    rw [List.range'_succ, List.map_cons, rowB_cons]
    have h1 : (tailE L k).Right ∧ (tailE L k).index = (L : Int) + k + 1 ∧ t ≤ (tailE L k).term := ⟨tailE_right hL (by omega), rfl, ht⟩
    rw [decide_eq_true h1, Bool.true_and]
    have := ih (k + 1) 90 (by omega) (by omega)
    rw [show (L : Int) + ((k + 1 : Nat) : Int) + 1 = (L : Int) + k + 1 + 1 by omega] at this
    exact this
/-- All entries. -/
def allE (ss : List SayV) (k : Nat) : List EntryV := entsS ss ++ (List.range k).map (tailE (entsS ss).length)
theorem allE_length (ss : List SayV) (k : Nat) : (allE ss k).length = (entsS ss).length + k := by simp [allE]
theorem allE_zero (ss : List SayV) : allE ss 0 = entsS ss := by simp [allE]
theorem allE_succ (ss : List SayV) (k : Nat) : allE ss (k + 1) = allE ss k ++ [tailE (entsS ss).length k] := by simp [allE, List.range_succ]
theorem allE_row (ss : List SayV) (k : Nat) (hk : k ≤ 70) : rowB (allE ss k) 1 0 = true := by
  have hl : (ss.take 80).length ≤ 80 := by rw [List.length_take]; omega
  have h0 := entsS_length ss
  unfold allE
  rw [rowB_append]
  have h1 : rowB (entsS ss) 1 0 = true := rowB_ents (ss.take 80) 1 0 0 (Int.le_refl _) (by omega) (by omega) (by omega) (by omega)
  have h2 : lastT (entsS ss) 0 ≤ 90 := by
    have := lastT_ents (ss.take 80) 1 0
    unfold entsS
    omega
  rw [h1, Bool.true_and, List.range_eq_range']
  have := rowB_tail (entsS ss).length h0 k 0 (lastT (entsS ss) 0) (by omega) h2
  rw [show ((entsS ss).length : Int) + ((0 : Nat) : Int) + 1 = 1 + ((entsS ss).length : Int) by omega] at this
  exact this
/-- Each of a row's entries is the next one of the state behind those ahead of it. -/
theorem row_next {es : List EntryV} {s : StV} (h : rowB es (s.index + 1) s.term = true) {k : Nat} {e : EntryV} (he : es[k]? = some e) : NextE (foldV s (es.take k)) e := by
  induction es generalizing s k with
  | nil => simp at he
  | cons e0 r ih =>
    rw [rowB_cons, Bool.and_eq_true, decide_eq_true_eq] at h
    obtain ⟨⟨h1, h2, h3⟩, h4⟩ := h
    have hn : NextE s e0 := ⟨h1, h2, h3⟩
    cases k with
    | zero =>
      obtain rfl : e0 = e := by simpa using he
      exact hn
    | succ k =>
      obtain ⟨i1, i2⟩ := stepV_head hn
      have := ih (s := (stepV s e0).1) (by rw [i1, i2, h2]; exact h4) (by simpa using he)
      exact this
end Go.Proofs.YthmjjhjblokjeaaGreat

/-
  How many keys changed; pairs by their keys: plain mathematics. No statement is proved here.
-/
namespace Go.Proofs.YthmjjhjblokjeaaGreat
open Go.RowKit Tot

theorem up_nodup {α β : Type} [Tot α] {L : List (α × β)} (h : Srt.Up L) : L.Nodup := by
  unfold Srt.Up at h
  refine h.imp ?_
  intro a b hab e
  rw [e, Tot.irr] at hab
  cases hab
theorem sum_ind {α : Type} (L : List α) (f : α → Bool) : (L.map fun p => if f p = true then 1 else 0).sum = (L.filter f).length := by
  induction L with
  | nil => rfl
  | cons p r ih =>
    rw [List.map_cons, List.sum_cons, ih, List.filter_cons]
    cases f p
    · simp
    · simp; omega
/-- How many keys changed: those of the second row that the first one has not, or otherwise; those of the first one that the second one has not. -/
theorem between_count {A B : Prs} (hA : Srt.Up A) (hB : Srt.Up B) :
    (betweenP A B).length = (B.map fun p => if (!decide (Srt.look A p.1 = some p.2)) = true then 1 else 0).sum + (A.map fun p => if decide (Srt.look B p.1 = none) = true then 1 else 0).sum := by
  have hp : (Srt.mrg A B).Perm (B ++ A.filter fun p => decide (Srt.look B p.1 = none)) := by
    refine (List.perm_ext_iff_of_nodup (up_nodup (Srt.up_mrg hA hB)) ?_).2 fun x => ?_
    · refine List.nodup_append.2 ⟨up_nodup hB, (up_nodup hA).filter _, fun a ha b hb e => ?_⟩
      subst e
      have h1 := (List.mem_filter.1 hb).2
      rw [Srt.look_of_mem hB (k := a.1) (v := a.2) ha] at h1
      simp at h1
    · rw [Srt.mem_mrg hA hB, List.mem_append, List.mem_filter]
      simp
  unfold betweenP
  rw [List.length_map, (hp.filter _).length_eq, List.filter_append, List.length_append, sum_ind B fun p => !decide (Srt.look A p.1 = some p.2), sum_ind A fun p => decide (Srt.look B p.1 = none)]
  congr 1
  · congr 1
    refine List.filter_congr fun p hm => ?_
    rw [Srt.look_of_mem hB (k := p.1) (v := p.2) hm]
  · congr 1
    rw [List.filter_filter]
    refine List.filter_congr fun p hm => ?_
    cases hl : Srt.look B p.1 with
    | none => rw [Srt.look_of_mem hA (k := p.1) (v := p.2) hm]; simp
    | some v => simp
/-- Pairs by their keys. -/
def valuesM (ps : Prs) : List (ByteArray × (ByteArray × (ByteArray × Bool))) := ps.map fun p => (p.1, p)
theorem values_up {ps : Prs} (h : Srt.Up ps) : Srt.Up (valuesM ps) := up_keyed h (fun p => p)
theorem values_look (ps : Prs) (k : ByteArray) : Srt.look (valuesM ps) k = (Srt.look ps k).map fun v => (k, v) := by
  unfold valuesM
  induction ps with
  | nil => rfl
  | cons p r ih =>
    rw [List.map_cons, Srt.look_cons, Srt.look_cons, ih]
    simp only
    split
    · rename_i h
      rw [← h]; rfl
    · rfl
theorem values_put {ps : Prs} {p : ByteArray × (ByteArray × Bool)} (h : Srt.Up (ps ++ [p])) : Srt.put (valuesM ps) p.1 p = valuesM (ps ++ [p]) := by
  have h1 : Srt.Up ps := (Srt.Up.append.1 h).1
  have h2 : ∀ q ∈ ps, q.1 ≠ p.1 := fun q hq => Srt.ne_of_lt ((Srt.Up.append.1 h).2.2 q hq p (by simp))
  refine Srt.up_ext (Srt.up_put (values_up h1) _ _) (values_up h) fun x => ?_
  rw [Srt.mem_put (values_up h1)]
  unfold valuesM
  rw [List.map_append, List.mem_append, List.mem_map]
  simp only [List.map_cons, List.map_nil, List.mem_singleton]
  constructor
  · rintro (h9 | ⟨h9, _⟩)
    · exact .inr h9
    · exact .inl h9
  · rintro (⟨q, hq, rfl⟩ | h9)
    · exact .inr ⟨⟨q, hq, rfl⟩, h2 q hq⟩
    · exact .inl h9
theorem values_len (ps : Prs) : (valuesM ps).length = ps.length := by simp [valuesM]
end Go.Proofs.YthmjjhjblokjeaaGreat

/-
  States one behind the other: plain mathematics. No statement is proved here.
-/
namespace Go.Proofs.YthmjjhjblokjeaaGreat
open Go.RowKit Tot

/-- A state, and one that is not ahead of it. -/
structure Chain (s t : StV) : Prop where
  rs : s.Right
  rt : t.Right
  index : s.index ≤ t.index
  term : s.term ≤ t.term
  same : s.index = t.index → s = t
theorem Chain.refl {s : StV} (h : s.Right) : Chain s s := ⟨h, h, Int.le_refl _, Int.le_refl _, fun _ => rfl⟩
/-- Behind entries that stand behind one another. -/
theorem chain_fold {es : List EntryV} {s : StV} (hs : s.Right) (h : rowB es (s.index + 1) s.term = true) : (foldV s es).index = s.index + es.length ∧ (foldV s es).term = lastT es s.term ∧ s.term ≤ (foldV s es).term := by
  induction es generalizing s with
  | nil => exact ⟨by simp [foldV], rfl, Int.le_refl _⟩
  | cons e r ih =>
    rw [rowB_cons, Bool.and_eq_true, decide_eq_true_eq] at h
    obtain ⟨⟨h1, h2, h3⟩, h4⟩ := h
    have hn : NextE s e := ⟨h1, h2, h3⟩
    obtain ⟨i1, i2⟩ := stepV_head hn
    obtain ⟨a1, a2, a3⟩ := ih (s := (stepV s e).1) (stepV_right hs e) (by rw [i1, i2, h2]; exact h4)
    have ef : foldV s (e :: r) = foldV (stepV s e).1 r := rfl
    rw [ef]
    refine ⟨by rw [a1, i1, h2, List.length_cons]; omega, by rw [a2, i2]; rfl, by rw [i2] at a3; omega⟩
theorem chain_of {es : List EntryV} {s : StV} (hs : s.Right) (h : rowB es (s.index + 1) s.term = true) : Chain s (foldV s es) := by
  obtain ⟨h1, _, h3⟩ := chain_fold hs h
  refine ⟨hs, foldV_right hs es, by omega, h3, fun e => ?_⟩
  have : es.length = 0 := by omega
  have : es = [] := List.eq_nil_of_length_eq_zero this
  subst this
  rfl
theorem chain_append {a b : List EntryV} {s : StV} (hs : s.Right) (h : rowB (a ++ b) (s.index + 1) s.term = true) : Chain s (foldV s a) ∧ Chain (foldV s a) (foldV s (a ++ b)) := by
  rw [rowB_append, Bool.and_eq_true] at h
  obtain ⟨h1, h2⟩ := h
  obtain ⟨i1, i2, _⟩ := chain_fold hs h1
  refine ⟨chain_of hs h1, ?_⟩
  rw [foldV_append]
  refine chain_of (foldV_right hs a) ?_
  rw [i1, i2, show s.index + (a.length : Int) + 1 = s.index + 1 + (a.length : Int) by omega]
  exact h2
/-- Three states of one row. -/
theorem chain_three {es : List EntryV} {s : StV} (hs : s.Right) (h : rowB es (s.index + 1) s.term = true) {j k : Nat} (hj : j ≤ k) : Chain (foldV s (es.take j)) (foldV s (es.take k)) ∧ Chain (foldV s (es.take k)) (foldV s es) ∧ Chain (foldV s (es.take j)) (foldV s es) := by
  have e1 : es.take j ++ es.drop j = es := List.take_append_drop j es
  have e2 : es.take k ++ es.drop k = es := List.take_append_drop k es
  have h1 := chain_append (a := es.take k) (b := es.drop k) hs (by rw [e2]; exact h)
  have h3 := chain_append (a := es.take j) (b := es.drop j) hs (by rw [e1]; exact h)
  rw [e2] at h1
  rw [e1] at h3
  refine ⟨?_, h1.2, h3.2⟩
  have e4 : es.take k = es.take j ++ (es.take k).drop j := by
    have := List.take_append_drop j (es.take k)
    rw [List.take_take, Nat.min_eq_left hj] at this
    exact this.symm
  have hk : rowB (es.take k) (s.index + 1) s.term = true := by
    rw [← e2, rowB_append, Bool.and_eq_true] at h
    exact h.1
  rw [e4] at hk
  have := (chain_append hs hk).2
  rw [← e4] at this
  exact this
theorem entsS_row (ss : List SayV) : rowB (entsS ss) (noState.index + 1) noState.term = true := by
  have := allE_row ss 0 (by omega)
  rw [allE_zero] at this
  exact this
end Go.Proofs.YthmjjhjblokjeaaGreat
