/-
  Steps of the walk of PlanStill. No statement is proved here.
-/
import Derived.Test.YtollmkkbeeeccaaL11StP2
import Derived.Test.YtollmkkbeeeccaaE10Do
import Derived.Test.YtollmkkbeeeccaaL11UnPl
namespace Go.Proofs.Ytollmkkbeeeccaa
open Go.RowKit Tot

theorem strS_two {w : World} {g : Nat} {y z : UInt8} {fr : Nat × Nat} {v u : Int} (hv : v = (y.toNat : Int)) (hu : u = (z.toNat : Int)) (hb : w.heap[g]? = some (.cells #[.int .u8 v, .int .u8 u] 5 fr)) (c : Nat) :
    (convert 46 9 (.slice (some ⟨g, 0, none⟩) 2 c)).run Try.prog w = .ok (.string (str [y, z])) w := by
  subst hv
  subst hu
  have hl : Lies w (fun _ => True) (some ⟨g, 0, none⟩) ([y, z].map bv) := fun _ => ⟨⟨g, 0, none⟩, rfl, trivial, fun j u hu => by
    have := World.news_of_block hb j u (by simpa [bv] using hu)
    exact this⟩
  exact run_str_lies 46 9 5 Try.underlying46 Try.underlying5 Try.underlying9 hl rfl c
/-- A place for a list, at a step of a region that draws its order; and a list stored there. -/
theorem step_allocS {w : World} {ops : Array Oper} {d : Nat} {ty : TypeId} {pos : String} {aft : Array Edge} {act : Act} {K : Act → World → Prop} {Q : Exit → Act → World → Prop} {E : Prop}
    (hK : ∀ X u, Kept noBlock w u → w.heap.size ≤ X → u.heap[X]? = some (.cells #[.slice none 0 0, .int .i64 0] 27 (0, 0)) → K (act.put (some d) (.pointer (some ⟨X, 0, none⟩))) u) :
    if Region.wanted ⟨some d, .alloc 27, ty, pos, aft, none⟩ (yielded ops act.tmps) = true then Oper.wp Try.prog ⟨some d, .alloc 27, ty, pos, aft, none⟩ act w K Q else E := by
  rw [if_pos (by simp [Region.wanted])]
  have hk := hK _ _ (Kept.alloc noBlock w _) (Nat.le_refl _) (heap_alloc_new w _)
  clear hK
  go_simp
  exact hk
def setS2 (w : World) (X n : Nat) (A : Option Addr) (c : Nat) (f : Int) : World := (w.setCell ⟨X, 0, none⟩ (.slice A n c)).setCell ⟨X, 1, none⟩ (.int .i64 f)
theorem step_storeS {w : World} {ops : Array Oper} {ty : TypeId} {pos : String} {aft : Array Edge} {p q : Nat} {act : Act} {K : Act → World → Prop} {Q : Exit → Act → World → Prop} {E : Prop} {X n c : Nat} {x0 x1 : Value} {A : Option Addr} {f : Int}
    (hp : act.tmps[p]?.getD undef = .pointer (some ⟨X, 0, none⟩)) (hv : act.tmps[q]?.getD undef = .agg #[.slice A n c, .int .i64 f]) (hb : w.heap[X]? = some (.cells #[x0, x1] 27 (0, 0)))
    (hK : K act (setS2 w X n A c f)) :
    if Region.wanted ⟨none, .store 27 (.tmp p) (.tmp q), ty, pos, aft, none⟩ (yielded ops act.tmps) = true then Oper.wp Try.prog ⟨none, .store 27 (.tmp p) (.tmp q), ty, pos, aft, none⟩ act w K Q else E := by
  rw [if_pos (by simp [Region.wanted])]
  unfold setS2 at hK
  obtain ⟨d0, d1⟩ := pair_cells hb
  have fz : ∀ j, w.frozen? ⟨X, j, none⟩ = false := fun j => frozen_of_row _ _ _ _ _ hb
  have f0 := fz 0
  have f1 := fz 1
  clear fz
  go_simp
  exact hK
theorem pP_eq (k : Nat) (nm : ByteArray) (h : nm = str [112, UInt8.ofNat (48 + k)]) : (⟨nm, 2, 8 * (k : Int), 8 * (k : Int) + 8⟩ : RefV) = pP k := by
  rw [h]
  unfold pP
  congr 1
theorem parts_step {k : Nat} (hk : k < 4) : parts4.take (k + 1) = parts4.take k ++ [pP k] := by
  have h : k = 0 ∨ k = 1 ∨ k = 2 ∨ k = 3 := by omega
  rcases h with rfl | rfl | rfl | rfl <;> rfl

theorem nmN_len (L : List RefV) : (nmN L).length = L.length := by unfold nmN; rw [List.length_map]
theorem still_do {F : Nat → Prop} {rs : List RfN} {T T' : List RefV} {wn : List ByteArray} {fq k2 d d8 : Nat} {A6 : Option Addr} {c6 : Nat} (hT : T = stillS rs) (hT' : T' = T.filter (keepU T fq)) (hw : wn = unnV T fq) (hk : T.length = k2) (hd : d = wn.length) (hd8 : d8 = T'.length) (hf : fq ≤ 32) (hc : k2 ≤ c6)
    (u : World) (A7 : Option Addr) (c7 : Nat) (h : Lies u F A6 (refCells T)) (h7 : Lies u F A7 (nmCells wn)) (hc7 : d ≤ c7) :
    Calls Try.prog 17 #[.agg #[.slice A6 k2 c6, .int .i64 0], .agg #[.slice none 0 0, .slice A7 d c7, .int .i64 (fq : Int)]] u fun e u' => ∃ A8 c8, e = .returned (.tuple #[.agg #[.slice A8 d8 c8, .int .i64 (fq : Int)], .int .i64 0]) ∧ Lies u' (fresh u u') A8 (refCells T') ∧ Kept noBlock u u' := by
  have he := still_edit rs (fl := (fq : Int)) (by omega) (by omega)
  rw [← hT, ← hT', ← hw] at he
  have hdl : d ≤ 18 := by
    have h1 := unnL_len (plcO (lastV T)) (baseV T fq) T
    rw [← unnV_eq, ← hw, ← hd] at h1
    have h2 := still_len rs
    rw [← hT] at h2
    omega
  have h := edo_any F F (nmN T) 0 A6 c6 ⟨[], wn, (fq : Int)⟩ none 0 A7 c7 u ⟨by rw [nmN_snd]; exact h, by rw [nmN_len]; omega⟩ (by rw [hT]; exact still_good rs) (by rw [nmN_len, hT]; have := still_len rs; omega) ⟨Lies.nil _ _ _, h7, Nat.le_refl _, by show wn.length ≤ c7; omega⟩ (by show 0 ≤ _; omega) (by show wn.length ≤ _; omega) (fun k hk => by
    have hk : k ∈ wn := hk
    rw [hw] at hk
    obtain ⟨j, x, hx, rfl, _⟩ := mem_unn hk
    have := still_may rs x (by rw [← hT]; exact List.mem_of_getElem? hx)
    unfold RefV.May at this
    unfold maxLen
    omega)
  unfold doF at h
  rw [he] at h
  unfold setv evl at h
  rw [nmN_len, nmN_len, hk, if_pos rfl, nmN_snd, ← hd8] at h
  simp only [List.length_nil] at h
  rw [← hd] at h
  refine h.mono ?_
  rintro e u' ⟨A8, c8, rfl, o, k⟩
  exact ⟨A8, c8, rfl, Lies.of_rows o (fun i hi => o.lt i hi), k⟩
theorem still_end {w2 u : World} {X n c : Nat} {A : Option Addr} {f : Int} {y0 y1 : Value} {cs : List Value} (hx : u.heap[X]? = some (.cells #[y0, y1] 27 (0, 0))) (hl : Lies u (fun i => i ≠ X) A cs) (k : Kept noBlock w2 u) (hX : w2.heap.size ≤ X) :
    ∃ X' A' c', Value.pointer (some ⟨X, 0, none⟩) = Value.pointer (some ⟨X', 0, none⟩) ∧ Hid ((setS2 u X n A c f).heap[X']? = some (.cells #[.slice A' n c', .int .i64 f] 27 (0, 0))) ∧ Hid (Lies (setS2 u X n A c f) (fun _ => True) A' cs) ∧ Hid (Kept noBlock w2 (setS2 u X n A c f)) := by
  obtain ⟨hz, kz⟩ := two_set (x0 := .slice A n c) (x1 := .int .i64 f) hx
  exact ⟨X, A, c, rfl, hz, (hl.keep kz (fun i hi e => hi e)).mono (fun _ _ => trivial), k.trans kz (fun i hi e => by omega)⟩
end Go.Proofs.Ytollmkkbeeeccaa
