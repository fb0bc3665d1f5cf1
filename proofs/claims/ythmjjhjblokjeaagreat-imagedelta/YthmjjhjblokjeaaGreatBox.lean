/-
  A state in a block of its own: what changes it. No statement is proved here.
-/
import Derived.Test.YthmjjhjblokjeaaGreatStpK
import Derived.Test.YthmjjhjblokjeaaGreatStsK
import Derived.Test.YthmjjhjblokjeaaGreatEntK
namespace Go.Proofs.YthmjjhjblokjeaaGreat
open Go.RowKit Tot

def RepV.cells (r : RepV) : List Value := [.int .i64 r.err, .string r.value]
def RepV.val (r : RepV) : Value := .agg #[.int .i64 r.err, .string r.value]
def scells (s : StV) (A : Option Addr) (c : Nat) (B : Option Addr) (d : Nat) : List Value := [.int .i64 s.index, .int .i64 s.term, .slice A s.pairs.length c, .slice B s.sess.length d]

/-- A row of the call's own in which one cell is another. -/
theorem own_setCell {w : World} {base : Nat} {t : TypeId} {size g n c : Nat} {xs : List Value} (h : w.ownsRow base t size (.slice (some ⟨g, 0, none⟩) n c) n xs) (j : Nat) (v : Value) :
    (w.setCell ⟨g, j, none⟩ v).ownsRow base t size (.slice (some ⟨g, 0, none⟩) n c) n (xs.set j v) := by
  refine ⟨by rw [List.length_set]; exact h.1, ?_⟩
  rcases h.2 with ⟨e, _⟩ | ⟨g', cap, cur, e, hb, hgg, hnc, hcm, hcs, htk⟩
  · cases e
  · injection e with e _ ec
    injection e with e
    injection e with e
    subst e ec
    refine .inr ⟨g, c, cur.set! j v, rfl, hb, heap_setCell_same _ _ _ _ _ _ hgg, hnc, hcm, by simpa using hcs, ?_⟩
    rw [Array.set!_eq_setIfInBounds, Array.toList_setIfInBounds, List.take_set, htk]
theorem set_value (L : Prs) (k : Nat) (p : ByteArray × (ByteArray × Bool)) (h : L[k]? = some p) (v : ByteArray) : (PR.cells L).set (k * 3 + 1) (.string v) = PR.cells (L.set k (p.1, (v, p.2.2))) := by
  unfold PR.cells
  induction L generalizing k with
  | nil => simp at h
  | cons q r ih =>
    cases k with
    | zero =>
      obtain rfl : q = p := by simpa using h
      simp [flat_cons, PR.enc]
    | succ k =>
      rw [List.set_cons_succ, flat_cons, flat_cons, ← ih k (by simpa using h), List.set_append_right _ _ (by rw [PR.enc_len]; omega), PR.enc_len, show (k + 1) * 3 + 1 - 3 = k * 3 + 1 by omega]
theorem set_sess (L : Sns) (k : Nat) (h : k < L.length) (x : Int × (Int × RepV)) :
    ((((SN.cells L).set (k * 4) (.int .i64 x.1)).set (k * 4 + 1) (.int .i64 x.2.1)).set (k * 4 + 2) (.int .i64 x.2.2.err)).set (k * 4 + 3) (.string x.2.2.value) = SN.cells (L.set k x) := by
  unfold SN.cells
  induction L generalizing k with
  | nil => simp at h
  | cons q r ih =>
    cases k with
    | zero => simp [flat_cons, SN.enc]
    | succ k =>
      rw [List.set_cons_succ, flat_cons, flat_cons, ← ih k (by simpa using h)]
      rw [List.set_append_right _ _ (by rw [SN.enc_len]; omega), List.set_append_right _ _ (by rw [SN.enc_len]; omega), List.set_append_right _ _ (by rw [SN.enc_len]; omega), List.set_append_right _ _ (by rw [SN.enc_len]; omega), SN.enc_len,
        show (k + 1) * 4 - 4 = k * 4 by omega, show (k + 1) * 4 + 1 - 4 = k * 4 + 1 by omega, show (k + 1) * 4 + 2 - 4 = k * 4 + 2 by omega, show (k + 1) * 4 + 3 - 4 = k * 4 + 3 by omega]

/-- The state at block b is s, in blocks of F. -/
structure BxR (w : World) (F : Nat → Prop) (b : Nat) (s : StV) (A : Option Addr) (c : Nat) (B : Option Addr) (d : Nat) : Prop where
  blk : w.heap[b]? = some (.cells #[.int .i64 s.index, .int .i64 s.term, .slice A s.pairs.length c, .slice B s.sess.length d] 27 (0, 0))
  ownp : w.ownsRow 0 68 3 (.slice A s.pairs.length c) s.pairs.length (PR.cells s.pairs)
  owns : w.ownsRow 0 63 4 (.slice B s.sess.length d) s.sess.length (SN.cells s.sess)
  fb : F b
  fp : ∀ k, (Value.slice A s.pairs.length c).ownBlock = some k → F k
  fs : ∀ k, (Value.slice B s.sess.length d).ownBlock = some k → F k
  lt : ∀ k, F k → k < w.heap.size
def Bx (w : World) (F : Nat → Prop) (b : Nat) (s : StV) : Prop := ∃ A c B d, BxR w F b s A c B d
/-- What a call did that changed a state. -/
structure Did (F : Nat → Prop) (w w' : World) (b : Nat) (s : StV) : Prop where
  kept : Kept F w w'
  bx : Bx w' (fun k => F k ∨ fresh w w' k) b s
section
variable {S F G : Nat → Prop} {w w' w2 : World} {b : Nat} {s : StV} {A B : Option Addr} {c d : Nat}
theorem BxR.keep (h : BxR w F b s A c B d) (k : Kept S w w') (hd : ∀ i, F i → ¬ S i) : BxR w' F b s A c B d :=
  ⟨k.blk h.blk (hd b h.fb), own_keep h.ownp k (fun i hi => hd i (h.fp i hi)), own_keep h.owns k (fun i hi => hd i (h.fs i hi)), h.fb, h.fp, h.fs, fun i hi => Nat.lt_of_lt_of_le (h.lt i hi) k.size⟩
theorem Bx.keep (h : Bx w F b s) (k : Kept S w w') (hd : ∀ i, F i → ¬ S i) : Bx w' F b s := by
  obtain ⟨A, c, B, d, h⟩ := h
  exact ⟨A, c, B, d, h.keep k hd⟩
theorem Bx.lt (h : Bx w F b s) : ∀ k, F k → k < w.heap.size := by obtain ⟨A, c, B, d, h⟩ := h; exact h.lt
theorem Bx.mono (h : Bx w F b s) (hF : ∀ i, F i → G i) (hG : ∀ i, G i → i < w.heap.size) : Bx w G b s := by
  obtain ⟨A, c, B, d, h⟩ := h
  exact ⟨A, c, B, d, h.blk, h.ownp, h.owns, hF _ h.fb, fun k hk => hF k (h.fp k hk), fun k hk => hF k (h.fs k hk), hG⟩
theorem Did.refl (h : Bx w F b s) : Did F w w b s := ⟨Kept.refl _ _, h.mono (fun _ h => .inl h) (fun i hi => hi.elim (h.lt i) (fun h => h.2))⟩
/-- Behind what changed nothing of it. -/
theorem Did.after (k : Kept noBlock w w') (h : Did F w' w2 b s) (hF : ∀ i, F i → i < w.heap.size) : Did F w w2 b s :=
  ⟨(k.mono (fun _ _ h => h.elim)).step h.kept, h.bx.mono (fun _ hi => hi.imp id (fun h1 => ⟨Nat.le_trans k.size h1.1, h1.2⟩)) (fun i hi => hi.elim (fun h1 => Nat.lt_of_lt_of_le (hF i h1) (Nat.le_trans k.size h.kept.size)) (fun h1 => h1.2))⟩
/-- .. and with locals of the call's own made ahead of it, and one of them written behind it. -/
theorem Did.out {w1 : World} {R : Nat} (k : Kept noBlock w w1) (h : Did F w1 w' b s) (k2 : Kept (fun i => i = R) w' w2) (hR : w.heap.size ≤ R) (hR1 : R < w1.heap.size) (hF : ∀ i, F i → i < w.heap.size) : Did F w w2 b s := by
  refine ⟨((k.mono (fun _ _ h => h.elim)).step h.kept).trans k2 (fun i hi e => by omega), (h.bx.keep k2 (fun i hi e => ?_)).mono (fun i hi => hi.imp id (fun h1 => ⟨Nat.le_trans k.size h1.1, Nat.lt_of_lt_of_le h1.2 k2.size⟩)) (fun i hi => ?_)⟩
  · rcases hi with h1 | h1
    · have := hF i h1
      omega
    · have := h1.1
      omega
  · rcases hi with h1 | h1
    · exact Nat.lt_of_lt_of_le (h.bx.lt i (.inl h1)) k2.size
    · exact h1.2
theorem Did.trans {s2 : StV} (h : Did F w w' b s) (h2 : Did (fun k => F k ∨ fresh w w' k) w' w2 b s2) : Did F w w2 b s2 := by
  refine ⟨h.kept.trans h2.kept (fun i hi h1 => ?_), h2.bx.mono (fun i hi => ?_) (fun i hi => ?_)⟩
  · rcases h1 with h1 | h1
    · exact h1
    · exact absurd h1.1 (by omega)
  · rcases hi with (h1 | h1) | h1
    · exact .inl h1
    · exact .inr ⟨h1.1, Nat.lt_of_lt_of_le h1.2 h2.kept.size⟩
    · exact .inr ⟨Nat.le_trans h.kept.size h1.1, h1.2⟩
  · rcases hi with h1 | h1
    · exact Nat.lt_of_lt_of_le (h.bx.lt i (.inl h1)) h2.kept.size
    · exact h1.2
theorem BxR.cells (h : BxR w F b s A c B d) : w.cell? ⟨b, 0, none⟩ = some (.int .i64 s.index) ∧ w.cell? ⟨b, 1, none⟩ = some (.int .i64 s.term) ∧ w.cell? ⟨b, 2, none⟩ = some (.slice A s.pairs.length c) ∧ w.cell? ⟨b, 3, none⟩ = some (.slice B s.sess.length d) :=
  ⟨cell_of_row _ _ _ _ _ _ h.blk, cell_of_row _ _ _ _ _ _ h.blk, cell_of_row _ _ _ _ _ _ h.blk, cell_of_row _ _ _ _ _ _ h.blk⟩
theorem BxR.froz (h : BxR w F b s A c B d) (j : Nat) : w.frozen? ⟨b, j, none⟩ = false := frozen_of_row _ _ _ _ _ h.blk
theorem setCell_size (w : World) (p : Addr) (v : Value) : (w.setCell p v).heap.size = w.heap.size := by simp [World.setCell]
/-- The pairs became others, in a row that grew out of theirs. -/
theorem BxR.pairs {A' : Option Addr} {c' : Nat} {L : Prs} (h : BxR w F b s A c B d) (o : w2.ownsRow 0 68 3 (.slice A' L.length c') L.length (PR.cells L)) (g : Grew w w2 (.slice A s.pairs.length c) (.slice A' L.length c')) :
    w2.cell? ⟨b, 2, none⟩ = some (.slice A s.pairs.length c) ∧ w2.frozen? ⟨b, 2, none⟩ = false ∧ Did F w (w2.setCell ⟨b, 2, none⟩ (.slice A' L.length c')) b { s with pairs := L } := by
  have hb := g.kept.blk h.blk (own_ne h.ownp h.blk (by decide))
  have ho := own_keep h.owns g.kept (fun i hi e => ?_)
  · have ks : Kept (fun i => i = b) w2 (w2.setCell ⟨b, 2, none⟩ (.slice A' L.length c')) := Kept.setCell w2 (by rfl) _
    refine ⟨cell_of_row _ _ _ _ _ _ hb, frozen_of_row _ _ _ _ _ hb, (g.kept.mono (fun i _ hi => h.fp i hi)).step (ks.mono (fun i _ e => by rw [e]; exact h.fb)), A', c', B, d, ?_, ?_, ?_, .inl h.fb, fun i hi => ?_, fun i hi => .inl (h.fs i hi), fun i hi => ?_⟩
    · have := heap_setCell_same w2 b 2 _ 27 (.slice A' L.length c') hb
      simpa using this
    · exact own_keep o ks (fun i hi e => own_ne o hb (by decide) (e ▸ hi))
    · exact own_keep ho ks (fun i hi e => own_ne ho hb (by decide) (e ▸ hi))
    · rcases g.at_ i hi with h1 | h1
      · exact .inl (h.fp i h1)
      · exact .inr ⟨h1.1, by rw [setCell_size]; exact h1.2⟩
    · rw [setCell_size]
      rcases hi with h1 | h1
      · exact Nat.lt_of_lt_of_le (h.lt i h1) g.kept.size
      · have := h1.2
        rw [setCell_size] at this
        exact this
  · rcases h.ownp.2 with ⟨e1, _⟩ | ⟨g', cap, cur, e1, _, hgg, _⟩
    · rw [e1] at e; simp [Value.ownBlock] at e
    · have hne := own_ne h.owns hgg (by decide)
      rw [e1] at e
      have : g' = i := by simpa [Value.ownBlock] using e
      exact hne (by rw [this]; exact hi)
/-- The sessions became others. -/
theorem BxR.sesss {B' : Option Addr} {d' : Nat} {L : Sns} (h : BxR w F b s A c B d) (o : w2.ownsRow 0 63 4 (.slice B' L.length d') L.length (SN.cells L)) (g : Grew w w2 (.slice B s.sess.length d) (.slice B' L.length d')) :
    w2.cell? ⟨b, 3, none⟩ = some (.slice B s.sess.length d) ∧ w2.frozen? ⟨b, 3, none⟩ = false ∧ Did F w (w2.setCell ⟨b, 3, none⟩ (.slice B' L.length d')) b { s with sess := L } := by
  have hb := g.kept.blk h.blk (own_ne h.owns h.blk (by decide))
  have ho := own_keep h.ownp g.kept (fun i hi e => ?_)
  · have ks : Kept (fun i => i = b) w2 (w2.setCell ⟨b, 3, none⟩ (.slice B' L.length d')) := Kept.setCell w2 (by rfl) _
    refine ⟨cell_of_row _ _ _ _ _ _ hb, frozen_of_row _ _ _ _ _ hb, (g.kept.mono (fun i _ hi => h.fs i hi)).step (ks.mono (fun i _ e => by rw [e]; exact h.fb)), A, c, B', d', ?_, ?_, ?_, .inl h.fb, fun i hi => .inl (h.fp i hi), fun i hi => ?_, fun i hi => ?_⟩
    · have := heap_setCell_same w2 b 3 _ 27 (.slice B' L.length d') hb
      simpa using this
    · exact own_keep ho ks (fun i hi e => own_ne ho hb (by decide) (e ▸ hi))
    · exact own_keep o ks (fun i hi e => own_ne o hb (by decide) (e ▸ hi))
    · rcases g.at_ i hi with h1 | h1
      · exact .inl (h.fs i h1)
      · exact .inr ⟨h1.1, by rw [setCell_size]; exact h1.2⟩
    · rw [setCell_size]
      rcases hi with h1 | h1
      · exact Nat.lt_of_lt_of_le (h.lt i h1) g.kept.size
      · have := h1.2
        rw [setCell_size] at this
        exact this
  · rcases h.owns.2 with ⟨e1, _⟩ | ⟨g', cap, cur, e1, _, hgg, _⟩
    · rw [e1] at e; simp [Value.ownBlock] at e
    · have hne := own_ne h.ownp hgg (by decide)
      rw [e1] at e
      have : g' = i := by simpa [Value.ownBlock] using e
      exact hne (by rw [this]; exact hi)
/-- A row that is not empty lies in a block of its own. -/
theorem own_at {t : TypeId} {size n : Nat} {xs : List Value} (h : w.ownsRow 0 t size (.slice A n c) n xs) (hn : 0 < n) : ∃ g cs, A = some ⟨g, 0, none⟩ ∧ w.heap[g]? = some (.cells cs t (0, 0)) := by
  rcases h.2 with ⟨_, rfl⟩ | ⟨g, cap, cur, e, _, hg, _⟩
  · exact absurd hn (Nat.lt_irrefl _)
  · injection e with e
    exact ⟨g, cur, e, hg⟩
/-- A value of the pairs became another. -/
theorem BxR.value {g k : Nat} {p : ByteArray × (ByteArray × Bool)} (h : BxR w F b s (some ⟨g, 0, none⟩) c B d) (hp : s.pairs[k]? = some p) (v : ByteArray) :
    Did F w (w.setCell ⟨g, k * 3 + 1, none⟩ (.string v)) b { s with pairs := s.pairs.set k (p.1, (v, p.2.2)) } := by
  have hg : F g := h.fp g rfl
  have hk := (List.getElem?_eq_some_iff.1 hp).1
  have ks : Kept (fun i => i = g) w (w.setCell ⟨g, k * 3 + 1, none⟩ (.string v)) := Kept.setCell w (by rfl) _
  obtain ⟨g', cs, e, hgg⟩ := own_at h.ownp (by omega)
  injection e with e
  injection e with e
  subst e
  have hl : (s.pairs.set k (p.1, (v, p.2.2))).length = s.pairs.length := List.length_set
  refine ⟨ks.mono (fun i _ e => by rw [e]; exact hg), some ⟨g, 0, none⟩, c, B, d, ?_, ?_, own_keep h.owns ks (fun i hi e => own_ne h.owns hgg (by decide) (e ▸ hi)), .inl h.fb, fun i hi => .inl (h.fp i hi), fun i hi => .inl (h.fs i hi), fun i hi => ?_⟩
  · have := ks.blk h.blk (fun e => own_ne h.ownp h.blk (by decide) (by rw [e]; rfl))
    simp only [hl]
    exact this
  · simp only [hl]
    rw [← set_value _ _ _ hp v]
    exact own_setCell h.ownp _ _
  · rw [setCell_size]
    rcases hi with h1 | h1
    · exact h.lt i h1
    · have := h1.2
      rw [setCell_size] at this
      exact this
/-- A session that is stored at its place. -/
def setS (w : World) (g k : Nat) (x : Int × (Int × RepV)) : World := (((w.setCell ⟨g, k * 4, none⟩ (.int .i64 x.1)).setCell ⟨g, k * 4 + 1, none⟩ (.int .i64 x.2.1)).setCell ⟨g, k * 4 + 2, none⟩ (.int .i64 x.2.2.err)).setCell ⟨g, k * 4 + 3, none⟩ (.string x.2.2.value)
theorem setS_size (w : World) (g k : Nat) (x : Int × (Int × RepV)) : (setS w g k x).heap.size = w.heap.size := by unfold setS; simp only [setCell_size]
theorem BxR.session {g k : Nat} (h : BxR w F b s A c (some ⟨g, 0, none⟩) d) (hk : k < s.sess.length) (x : Int × (Int × RepV)) :
    Did F w (setS w g k x) b { s with sess := s.sess.set k x } := by
  have hg : F g := h.fs g rfl
  have ks : Kept (fun i => i = g) w (setS w g k x) := (((Kept.setCell w (by rfl) _).step (Kept.setCell _ (by rfl) _)).step (Kept.setCell _ (by rfl) _)).step (Kept.setCell _ (by rfl) _)
  obtain ⟨g', cs, e, hgg⟩ := own_at h.owns (by omega)
  injection e with e
  injection e with e
  subst e
  have hl : (s.sess.set k x).length = s.sess.length := List.length_set
  refine ⟨ks.mono (fun i _ e => by rw [e]; exact hg), A, c, some ⟨g, 0, none⟩, d, ?_, own_keep h.ownp ks (fun i hi e => own_ne h.ownp hgg (by decide) (e ▸ hi)), ?_, .inl h.fb, fun i hi => .inl (h.fp i hi), fun i hi => .inl (h.fs i hi), fun i hi => ?_⟩
  · have := ks.blk h.blk (fun e => own_ne h.owns h.blk (by decide) (by rw [e]; rfl))
    simp only [hl]
    exact this
  · simp only [hl]
    rw [← set_sess _ _ hk x]
    have h1 := own_setCell h.owns (k * 4) (.int .i64 x.1)
    have h2 := own_setCell h1 (k * 4 + 1) (.int .i64 x.2.1)
    have h3 := own_setCell h2 (k * 4 + 2) (.int .i64 x.2.2.err)
    exact own_setCell h3 (k * 4 + 3) (.string x.2.2.value)
  · rw [setS_size]
    rcases hi with h1 | h1
    · exact h.lt i h1
    · have := h1.2
      rw [setS_size] at this
      exact this
/-- The index and the term became others. -/
theorem BxR.head (h : BxR w F b s A c B d) (i t : Int) : Did F w ((w.setCell ⟨b, 0, none⟩ (.int .i64 i)).setCell ⟨b, 1, none⟩ (.int .i64 t)) b { s with index := i, term := t } := by
  have ks : Kept (fun k => k = b) w ((w.setCell ⟨b, 0, none⟩ (.int .i64 i)).setCell ⟨b, 1, none⟩ (.int .i64 t)) := (Kept.setCell w (by rfl) _).step (Kept.setCell _ (by rfl) _)
  refine ⟨ks.mono (fun k _ e => by rw [e]; exact h.fb), A, c, B, d, ?_, own_keep h.ownp ks (fun k hk e => own_ne h.ownp h.blk (by decide) (e ▸ hk)), own_keep h.owns ks (fun k hk e => own_ne h.owns h.blk (by decide) (e ▸ hk)), .inl h.fb, fun k hk => .inl (h.fp k hk), fun k hk => .inl (h.fs k hk), fun k hk => ?_⟩
  · have h1 := heap_setCell_same w b 0 _ 27 (.int .i64 i) h.blk
    have h2 := heap_setCell_same _ b 1 _ 27 (.int .i64 t) h1
    simpa using h2
  · rw [setCell_size, setCell_size]
    rcases hk with h1 | h1
    · exact h.lt k h1
    · have := h1.2
      rw [setCell_size, setCell_size] at this
      exact this
end

/-- What is told, stored at a block. -/
def setR (w : World) (R : Nat) (r : RepV) : World := (w.setCell ⟨R, 0, none⟩ (.int .i64 r.err)).setCell ⟨R, 1, none⟩ (.string r.value)
theorem setR_block {w : World} {R : Nat} {x r : RepV} {t : TypeId} (h : w.heap[R]? = some (.cells x.cells.toArray t (0, 0))) : (setR w R r).heap[R]? = some (.cells r.cells.toArray t (0, 0)) := by
  unfold setR
  unfold RepV.cells at h
  have h0 := heap_setCell_same w R 0 _ t (.int .i64 r.err) h
  have h1 := heap_setCell_same _ R 1 _ t (.string r.value) h0
  rw [h1]
  simp [RepV.cells]
theorem setR_kept (w : World) (R : Nat) (r : RepV) : Kept (fun k => k = R) w (setR w R r) := by
  unfold setR
  exact (Kept.setCell w (by rfl) _).step (Kept.setCell _ (by rfl) _)
end Go.Proofs.YthmjjhjblokjeaaGreat
