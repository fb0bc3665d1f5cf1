/-
  Rows of files, and the map of a list of files. No statement is proved here.
-/
import Derived.Test.YtollmkkbeeeccaaTblMG
import Derived.Test.YtollmkkbeeeccaaRowK
import Derived.Test.YtollmkkbeeeccaaE10May
namespace Go.Proofs.Ytollmkkbeeeccaa
open Go.RowKit Tot

theorem Try.infoRef : (Try.prog.info? 37).map (fun i => (i.zero, i.size, i.bytes)) = some (some noRef.val, 4, 40) := by kernel_rfl
theorem cells_one_ref (r : RefV) : ∀ u ∈ r.cells, u.oneCell' = true := by
  intro u hu
  simp only [RefV.cells, List.mem_cons, List.not_mem_nil, or_false] at hu
  rcases hu with rfl | rfl | rfl | rfl <;> rfl
theorem one_refs (l : List RefV) : ∀ u ∈ refCells l, u.oneCell' = true := flat_one' cells_one_ref l
theorem refCells_one (r : RefV) : refCells [r] = r.cells := by simp [refCells]
theorem src_ref {w : World} {B : Nat} {t : TypeId} {fr : Nat × Nat} {c : Nat} (e : RefV) (hb : w.heap[B]? = some (.cells e.cells.toArray t fr)) : Src Try.prog 4 25 (.slice (some ⟨B, 0, none⟩) 1 c) 1 (refCells [e]) w := by
  have he : refCells [e] = e.cells := refCells_one e
  refine Src.ofSlice w Try.underlying25 _ _ _ _ (by rw [he]; rfl) ?_ (one_refs _)
  rw [he]
  intro j u hu
  have := World.news_of_block hb j u (by simpa using hu)
  exact this
theorem ref_cells {w : World} {R : Nat} {x0 x1 x2 x3 : Value} {t : TypeId} {fr : Nat × Nat} (h : w.heap[R]? = some (.cells #[x0, x1, x2, x3] t fr)) :
    w.cell? ⟨R, 0, none⟩ = some x0 ∧ w.cell? ⟨R, 1, none⟩ = some x1 ∧ w.cell? ⟨R, 2, none⟩ = some x2 ∧ w.cell? ⟨R, 3, none⟩ = some x3 :=
  ⟨cell_of_row _ _ _ _ _ _ h, cell_of_row _ _ _ _ _ _ h, cell_of_row _ _ _ _ _ _ h, cell_of_row _ _ _ _ _ _ h⟩
/-- A row of one file that is written out, at a step of a region that draws its order. -/
theorem step_oneR {w : World} {ops : Array Oper} {d v : Nat} {ty : TypeId} {pos : String} {aft : Array Edge} {act : Act} {K : Act → World → Prop} {Q : Exit → Act → World → Prop} {E : Prop} (x : RefV) (hv : act.tmps[v]?.getD undef = x.val)
    (hK : ∀ B u, Kept noBlock w u → u.heap[B]? = some (.cells x.cells.toArray 37 (0, 0)) → w.heap.size ≤ B → K (act.put (some d) (.slice (some ⟨B, 0, none⟩) 1 1)) u) :
    if Region.wanted ⟨some d, .buildSlice 25 1 #[(0, .tmp v)], ty, pos, aft, none⟩ (yielded ops act.tmps) = true then Oper.wp Try.prog ⟨some d, .buildSlice 25 1 #[(0, .tmp v)], ty, pos, aft, none⟩ act w K Q else E := by
  rw [if_pos (by simp [Region.wanted])]
  have hk := hK w.heap.size (w.alloc (.cells x.cells.toArray 37)) (Kept.alloc _ _ _) (heap_alloc_new _ _) (Nat.le_refl _)
  unfold RefV.val at hv
  unfold RefV.cells at hk
  clear hK
  go_simp
  exact hk

/-- What a name has in the list's map: a row of its file, or of none. -/
def vCells : Option RefV → List Value
  | none => []
  | some r => r.cells
abbrev SlV := Option (Nat × Nat) × (Nat × Nat)
def SlV.addr (v : SlV) : Option Addr := v.1.map fun q => ⟨q.1, q.2, none⟩
def noSl : SlV := (none, (0, 0))
structure SlOk (w : World) (X : Nat → Prop) (v : SlV) (r : Option RefV) : Prop where
  len : v.2.1 = (if r.isSome then 1 else 0)
  cap : v.2.1 ≤ v.2.2
  lies : Lies w X v.addr (vCells r)
section
variable {S X Y : Nat → Prop} {w w' : World} {v : SlV} {r : Option RefV} {m B : Nat} {N : Fls}
theorem SlOk.keep (h : SlOk w X v r) (k : Kept S w w') (hd : ∀ i, X i → ¬ S i) : SlOk w' X v r := ⟨h.len, h.cap, h.lies.keep k hd⟩
theorem SlOk.mono (h : SlOk w X v r) (hX : ∀ i, X i → Y i) : SlOk w Y v r := ⟨h.len, h.cap, h.lies.mono hX⟩
theorem SlOk.none (w : World) (X : Nat → Prop) : SlOk w X noSl none := ⟨rfl, Nat.le_refl _, Lies.nil _ _ _⟩
theorem Lies.and {F G : Nat → Prop} {a : Option Addr} {xs : List Value} (h1 : Lies w F a xs) (h2 : Lies w G a xs) : Lies w (fun i => F i ∧ G i) a xs := fun hx => by
  obtain ⟨ad, e, hf, hc⟩ := h1 hx
  obtain ⟨ad', e', hg, _⟩ := h2 hx
  rw [e] at e'
  injection e' with e'
  subst e'
  exact ⟨ad, e, ⟨hf, hg⟩, hc⟩
/-- The map at m has the files N, in rows in blocks of X; it has at most B names. -/
def RowsL (w : World) (X : Nat → Prop) (m : Nat) (N : Fls) (B : Nat) : Prop := ∃ M, MG.Tb w m M ∧ M.length ≤ B ∧ (∀ k, SlOk w X ((Srt.look M k).getD noSl) (Srt.look N k)) ∧ ∀ p ∈ M, p.1.size ≤ maxLen
theorem RowsL.keep (h : RowsL w X m N B) (k : Kept S w w') (hm : ¬ S m) (hd : ∀ i, X i → ¬ S i) : RowsL w' X m N B := by
  obtain ⟨M, h1, h2, h3, h4⟩ := h
  exact ⟨M, h1.keep k hm, h2, fun j => (h3 j).keep k hd, h4⟩
theorem RowsL.mono (h : RowsL w X m N B) (hX : ∀ i, X i → Y i) : RowsL w Y m N B := by
  obtain ⟨M, h1, h2, h3, h4⟩ := h
  exact ⟨M, h1, h2, fun j => (h3 j).mono hX, h4⟩
theorem RowsL.more {C : Nat} (h : RowsL w X m N B) (hC : B ≤ C) : RowsL w X m N C := by
  obtain ⟨M, h1, h2, h3, h4⟩ := h
  exact ⟨M, h1, Nat.le_trans h2 hC, h3, h4⟩
theorem RowsL.lt (h : RowsL w X m N B) : m < w.heap.size := by
  obtain ⟨M, h1, _⟩ := h
  exact h1.lt
theorem RowsL.ne {g : Nat} {cs : Array Value} {t : TypeId} {fr : Nat × Nat} (h : RowsL w X m N B) (hg : w.heap[g]? = some (.cells cs t fr)) : m ≠ g := by
  obtain ⟨M, h1, _⟩ := h
  exact h1.ne hg
theorem RowsL.only (h : RowsL w X m N B) : RowsL w (fun i => X i ∧ i < w.heap.size) m N B := by
  obtain ⟨M, h1, h2, h3, h4⟩ := h
  refine ⟨M, h1, h2, fun j => ⟨(h3 j).len, (h3 j).cap, (h3 j).lies.and ?_⟩, h4⟩
  intro hx
  obtain ⟨ad, e, _, hc⟩ := (h3 j).lies hx
  refine ⟨ad, e, ?_, hc⟩
  cases hxs : vCells (Srt.look N j) with
  | nil => exact absurd hxs hx
  | cons x r =>
    have := World.block_lt_of_cell? w _ (hc 0 x (by rw [hxs]; rfl))
    rw [block_add] at this
    exact this
theorem RowsL.made (w : World) (X : Nat → Prop) : RowsL (w.alloc (.map #[] 0)) X w.heap.size [] 0 := ⟨[], MG.Tb.made w, Nat.le_refl _, fun _ => SlOk.none _ _, fun _ h => (by cases h)⟩
/-- What is there by a name. -/
theorem RowsL.look (h : RowsL w X m N B) (k : ByteArray) (hk : k.size ≤ maxLen) : ∃ v : SlV, SlOk w X v (Srt.look N k) ∧
    ∀ u, Kept noBlock w u → (Instr.lookup 73 (.map (some m)) (.string k) false).run Try.prog u = .ok (.slice v.addr v.2.1 v.2.2) u := by
  obtain ⟨M, h1, h2, h3, _⟩ := h
  refine ⟨_, h3 k, fun u hu => ?_⟩
  exact MG.run_look1 (h1.keep hu (fun h => h)) k hk
/-- A name has something else. -/
theorem RowsL.set (h : RowsL w X m N B) (k : ByteArray) (hk : k.size ≤ maxLen) (v : SlV) (N' : Fls) (o : Option RefV) (hN : ∀ j, Srt.look N' j = if j = k then o else Srt.look N j) (hv : SlOk w X v o) (hX : ¬ X m) (hB : B < maxLen) :
    ∃ u, (Instr.mapUpdate 73 (.map (some m)) (.string k) (.slice v.addr v.2.1 v.2.2)).run Try.prog w = .ok () u ∧ RowsL u X m N' (if Srt.has N k = true then B else B + 1) ∧ Kept (fun i => i = m) w u := by
  obtain ⟨M, h1, h2, h3, h4⟩ := h
  obtain ⟨u, hrun, hT, ku⟩ := MG.run_put h1 k hk (by omega) v
  have hd : ∀ i, X i → ¬ i = m := fun i hi e => hX (e ▸ hi)
  refine ⟨u, hrun, ⟨Srt.put M k v, hT, ?_, fun j => ?_, fun p hp => ?_⟩, ku⟩
  · rw [Srt.put_len]
    by_cases hh : Srt.has N k = true
    · obtain ⟨r, hr⟩ := (Srt.has_iff N k).1 hh
      have h4 := (h3 k).len
      rw [hr] at h4
      have hM : Srt.has M k = true := by
        cases hl : Srt.look M k with
        | none => rw [hl] at h4; simp [noSl] at h4
        | some q => exact (Srt.has_iff M k).2 ⟨q, hl⟩
      rw [if_pos hh, if_pos hM]
      omega
    · rw [if_neg hh]
      split <;> omega
  · rw [Srt.look_put h1.up, hN]
    split
    · exact hv.keep ku hd
    · exact (h3 j).keep ku hd
  · rcases (Srt.mem_put h1.up k v p).1 hp with rfl | ⟨hp, _⟩
    · exact hk
    · exact h4 p hp
end
end Go.Proofs.Ytollmkkbeeeccaa
