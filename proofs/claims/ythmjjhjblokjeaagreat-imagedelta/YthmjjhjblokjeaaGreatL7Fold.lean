/-
  The walk of StateFold. No statement is proved here.
-/
import Derived.Test.YthmjjhjblokjeaaGreatLawK
import Derived.Test.YthmjjhjblokjeaaGreatPutK
namespace Go.Proofs.YthmjjhjblokjeaaGreat
open Go.RowKit Tot

theorem flatMap_bound {α : Type} (f : α → List UInt8) (M : Nat) : ∀ L : List α, (∀ x ∈ L, (f x).length ≤ M) → (L.flatMap f).length ≤ L.length * M
  | [], _ => by simp
  | x :: r, h => by
    have h1 := h x (by simp)
    have h2 := flatMap_bound f M r (fun y hy => h y (by simp [hy]))
    rw [List.flatMap_cons, List.length_append, List.length_cons, Nat.add_mul]
    omega
/-- A right state has few bytes. -/
theorem right_bytes {s : StV} (h : s.Right) : s.bytes.length ≤ 10000 := by
  have h1 := flatMap_bound prB 41 s.pairs (fun p hp => by rw [prB_length]; have := h.2.2.1.2.1.2 p hp; unfold PairOk at this; omega)
  have h2 := flatMap_bound snB 48 s.sess (fun x hx => by rw [snB_length]; have := h.2.2.1.2.2.2 x hx; unfold SessOk at this; omega)
  have := h.len
  have := h.lens
  rw [s.bytes_length, rowsB_length]
  omega
/-- A place for a state, at a step of a region that draws its order. -/
theorem step_allocT {w : World} {ops : Array Oper} {d : Nat} {ty : TypeId} {pos : String} {aft : Array Edge} {act : Act} {K : Act → World → Prop} {Q : Exit → Act → World → Prop} {E : Prop}
    (hK : ∀ X u, Kept noBlock w u → w.heap.size ≤ X → u.heap[X]? = some (.cells #[.int .i64 0, .int .i64 0, .slice none 0 0, .slice none 0 0] 27 (0, 0)) → K (act.put (some d) (.pointer (some ⟨X, 0, none⟩))) u) :
    if Region.wanted ⟨some d, .alloc 27, ty, pos, aft, none⟩ (yielded ops act.tmps) = true then Oper.wp Tryz.prog ⟨some d, .alloc 27, ty, pos, aft, none⟩ act w K Q else E := by
  rw [if_pos (by simp [Region.wanted])]
  have hk := hK _ _ (Kept.alloc noBlock w _) (Nat.le_refl _) (heap_alloc_new w _)
  clear hK
  go_simp
  exact hk
theorem ents_drop' {w : World} {F : Nat → Prop} {a : Option Addr} {es : List EntryV} (h : Lies w F a (entCells es)) (k cap : Nat) (hc : es.length ≤ cap) : Lies w F (if cap = k then a else a.map (·.add (k * 8))) (entCells (es.drop k)) := fun hx => by
  have hk : k < es.length := by
    rcases Nat.lt_or_ge k es.length with h1 | h1
    · exact h1
    · rw [List.drop_eq_nil_of_le h1] at hx
      exact absurd rfl hx
  have hne : entCells es ≠ [] := fun e => by
    have := congrArg List.length e
    rw [entCells_length] at this
    simp only [List.length_nil] at this
    omega
  obtain ⟨ad, rfl, hf, hcell⟩ := h hne
  rw [if_neg (by omega)]
  refine ⟨ad.add (k * 8), rfl, by rw [block_add]; exact hf, fun j u hu => ?_⟩
  rw [add_add]
  exact hcell _ u (by rw [← hu, entCells_drop, List.getElem?_drop])

theorem Sv.lt {F : Nat → Prop} {w : World} {s : StV} {A B : Option Addr} {c d : Nat} (h : Sv w F s A c B d) : Sv w (fun i => i < w.heap.size) s A c B d := ⟨h.lp.lt, h.ls.lt, h.cp, h.cs⟩
/-- A state that was stored at its place. -/
theorem fold_end {w2 u : World} {X : Nat} {b : StV} {A B : Option Addr} {c d : Nat} {x0 x1 x2 x3 : Value} (hx : u.heap[X]? = some (.cells #[x0, x1, x2, x3] 27 (0, 0))) (sv : Sv u (fun i => i ≠ X) b A c B d) (k : Kept noBlock w2 u) (hX : w2.heap.size ≤ X) :
    ∃ X' A' c' B' d', Value.pointer (some ⟨X, 0, none⟩) = Value.pointer (some ⟨X', 0, none⟩) ∧ Hid ((setT u X b A c B d).heap[X']? = some (.cells #[.int .i64 b.index, .int .i64 b.term, .slice A' b.pairs.length c', .slice B' b.sess.length d'] 27 (0, 0))) ∧ Hid (Sv (setT u X b A c B d) (fun _ => True) b A' c' B' d') ∧ Hid (Kept noBlock w2 (setT u X b A c B d)) := by
  have kz := setT_kept u X b A c B d
  refine ⟨X, A, c, B, d, rfl, setT_block hx, (sv.keep kz (fun i hi e => hi e)).mono (fun _ _ => trivial), ?_⟩
  exact ((k.mono (T := fun i => w2.heap.size ≤ i) (fun _ _ h => h.elim)).trans kz (fun i _ h => by omega)).mono (fun i hi h => by omega)

end Go.Proofs.YthmjjhjblokjeaaGreat
