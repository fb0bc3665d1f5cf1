/-
  Two rows are gone over as one: layOut, Merge. No statement is proved here.
-/
import Derived.Test.YtohanlhfbfodlaaSortedIterII
import Derived.Test.YtohanlhfbfodlaaMrg
import Derived.Test.YtohanlhfbfodlaaIterRegion
import Derived.Test.YtohanlhfbfodlaaAppendIn
namespace Go.Proofs.Ytohanlhfbfodlaa.II
open Go.RowKit Srt Tot Go.Shelf
attribute [local go_sem] Oper.semAt_some

/-- No cells at all are changed. -/
def NT (_ : Nat) (_ : TypeId) : Prop := False
/-- A function value that goes over L. -/
structure Seq (v : Value) (U : Nat → TypeId → Prop) (L : List (Int × Int)) (w : World) : Prop where
  is : ∃ g lb, v = .func (.func g) #[] lb ∧ (∀ args w, (callFunc g args).run Try.prog w = .ok (.enter g args) w) ∧ Runs Try.prog g lb enc NT U L w
  own : ∀ k t, U k t → k < w.heap.size ∧ t = 73

/-- Where layOut is. -/
structure LayI (w : World) (base B3 : Nat) (pre : List (Int × Int)) (V : World) : Prop where
  row : ∃ A c, V.heap[B3]? = some (.cells #[.slice A pre.length c] 25 (0, 0)) ∧ V.ownsRow base 73 2 (.slice A pre.length c) pre.length (cells pre)
  kept : Kept noBlock w V
  size : base ≤ V.heap.size

theorem cells_snoc (L : List (Int × Int)) (x : Int × Int) : cells (L ++ [x]) = cells L ++ [ek x.1, ev x.2] := by unfold cells; rw [pcells_append]; rfl
theorem LayI.abide {w A B : World} {base B3 m0 : Nat} {pre : List (Int × Int)} (h : LayI w base B3 pre A) (k : Abide NT m0 A B) (hw : w.heap.size ≤ m0) : LayI w base B3 pre B := by
  obtain ⟨R, c, h1, h2⟩ := h.row
  exact ⟨⟨R, c, k.blk h1 (.inr (fun h => h)), k.own h2 (.inr (fun _ h => h))⟩, Abide.kept h.kept k hw, Nat.le_trans h.size k.size⟩
theorem LayI.next {w W W0 w1 : World} {base B3 m0 rc c' : Nat} {R A' : Option Addr} {U : Nat → TypeId → Prop} {pre : List (Int × Int)} {x : Int × Int} (h : LayI w base B3 pre W) (hU : ∀ k t, U k t → k < base ∧ t = 73) (hb : w.heap.size ≤ base) (h3 : W.heap[B3]? = some (.cells #[.slice R pre.length rc] 25 (0, 0)))
    (hB3 : w.heap.size ≤ B3) (ho : W.ownsRow base 73 2 (.slice R pre.length rc) pre.length (cells pre)) (k0 : Kept noBlock W W0) (o1 : w1.ownsRow 0 73 2 (.slice A' (pre.length + 1) c') (pre.length + 1) (cells (pre ++ [x]))) (g1 : Grew W0 w1 (.slice R pre.length rc) (.slice A' (pre.length + 1) c')) :
    w1.heap[B3]? = some (.cells #[.slice R pre.length rc] 25 (0, 0)) ∧
    (let W' := w1.setCell ⟨B3, 0, none⟩ (.slice A' (pre.length + 1) c')
     KeepsFrom m0 W W' ∧ Spares U W W' ∧ LayI w base B3 (pre ++ [x]) W') := by
  have g2 := Grew.after k0 g1
  have n3 : (Value.slice R pre.length rc).ownBlock ≠ some B3 := own_ne ho h3 (by decide)
  have b3 := g2.kept.blk h3 n3
  refine ⟨b3, ?_⟩
  intro W'
  have kk : Kept (fun k => (Value.slice R pre.length rc).ownBlock = some k ∨ k = B3) W W' := (g2.kept.mono (fun _ _ h => .inl h)).step (Kept.setCell w1 (.inr rfl) _)
  have hS : ∀ k, ((Value.slice R pre.length rc).ownBlock = some k ∨ k = B3) → ∃ cs t fr, W.heap[k]? = some (.cells cs t fr) ∧ ¬ U k t := by
    rintro k (hk | rfl)
    · have hge := (ho.lt k hk).1
      rcases ho.2 with ⟨e, _⟩ | ⟨g, cap, cur, e, _, hgg, _⟩
      · rw [e] at hk; cases hk
      · rw [e] at hk
        have : g = k := by simpa [Value.ownBlock] using hk
        subst this
        exact ⟨_, _, _, hgg, fun hu => by have := (hU _ _ hu).1; omega⟩
    · exact ⟨_, _, _, h3, fun hu => by have := (hU _ _ hu).2; exact absurd this (by decide)⟩
  have o3 : (Value.slice A' (pre.length + 1) c').ownBlock ≠ some B3 := own_ne o1 b3 (by decide)
  refine ⟨keepsFrom_kept kk (fun k _ hk => by obtain ⟨cs, t, fr, h1, _⟩ := hS k hk; exact ⟨cs, t, fr, h1⟩), Spares.of kk hS, ⟨⟨A', c', ?_, ?_⟩, h.kept.trans kk (fun i hi hs => ?_), Nat.le_trans h.size kk.size⟩⟩
  · rw [List.length_append, List.length_singleton]
    exact setB (u := .slice A' (pre.length + 1) c') b3
  · rw [List.length_append, List.length_singleton]
    refine own_base (own_keep o1 (Kept.setCell (S := fun i => i = B3) w1 (by rfl) _) (fun i hi e => o3 (e ▸ hi))) (fun i hi => ?_)
    rcases g2.at_ i hi with h1 | h1
    · exact (ho.lt i h1).1
    · exact Nat.le_trans h.size h1.1
  · rcases hs with hs | rfl
    · have := (ho.lt i hs).1; omega
    · omega

set_option maxRecDepth 100000 in
set_option maxHeartbeats 1000000 in
theorem lay_any (v : Value) (U : Nat → TypeId → Prop) (L : List (Int × Int)) (w : World) (h : Seq v U L w) (hlen : L.length ≤ 1048576) :
    Calls Try.prog 40 #[v] w fun e w' => ∃ A c, e = .returned (.slice A L.length c) ∧ w'.ownsRow w.heap.size 73 2 (.slice A L.length c) L.length (cells L) ∧ Kept noBlock w w' := by
  obtain ⟨g, lb, rfl, eg, hr⟩ := h.is
  have HU := Lib.hid h.own; clear h
  refine (callsIn_wide (n := 3)).1 ?_
  refine callsIn_of_wp_marks Try.func40 rfl trivial ?_ rfl
  simp only [Try.ntmps40, List.size_toArray, List.length_cons, List.length_nil, Nat.reduceAdd, Nat.reduceSub, Array.replicate_succ, Array.replicate_zero, List.push_toArray, List.append_toArray, List.nil_append, List.cons_append]
  refine wpIn_wide.2 ?_
  go_wp2_with fail
  have ka := Kept.alloc noBlock w (.cells #[.slice none 0 0] 25)
  have hb3 : (w.alloc (.cells #[.slice none 0 0] 25)).heap[w.heap.size]? = some (.cells #[.slice none 0 0] 25 (0, 0)) := heap_alloc_new _ _
  have hsz : (w.alloc (.cells #[.slice none 0 0] 25)).heap.size = w.heap.size + 1 := by simp
  have hr1 := hr.later ka
  obtain ⟨B3, hB3⟩ : ∃ B3, B3 = w.heap.size := ⟨_, rfl⟩
  rw [← hB3] at hb3 ⊢
  generalize w.alloc (.cells #[.slice none 0 0] 25) = w1 at ka hb3 hsz hr1 ⊢
  have HR := Lib.hid hr1
  have EG := Lib.hid eg
  have I1 : Hid (LayI w w.heap.size B3 [] w1) := Lib.hid ⟨⟨none, 0, hb3, World.ownsRow_nil _ _ _ _⟩, ka, by omega⟩
  have hw1 : w.heap.size ≤ w1.heap.size := by omega
  have HB3 := Lib.hid hB3
  clear ka hb3 hsz hr1 hr eg hB3
  refine (wpIn_wide (n := 3)).1 ?_
  refine wpIn_runs_to rfl EG.out HR.out (Kept.refl _ _) (fun _ => rfl) (fun p => [(4, ek p.1), (5, ev p.2)]) (fun pre V => Hid (LayI w w.heap.size B3 pre V)) (fun _ _ _ => False)
    (fun s A B h k => Lib.hid (h.out.abide k hw1)) (fun _ _ _ _ h _ => h) I1 ?assign ?body ?done ?stop
  case assign =>
    intro l2 x V K hK
    dsimp only [enc]
    simp only [landed, List.foldl_cons, List.foldl_nil, List.zip_toArray, List.zip_cons_cons, List.zip_nil_right, enc, List.foldl_toArray, List.setIfInBounds_toArray, List.set_cons_zero, List.set_cons_succ] at hK
    gi_wp2
    exact hK
  case body =>
    rintro l2 pre x rest V hL hI
    simp only [landed, List.foldl_cons, List.foldl_nil, List.zip_toArray, List.zip_cons_cons, List.zip_nil_right, enc, List.foldl_toArray, List.setIfInBounds_toArray, List.set_cons_zero, List.set_cons_succ]
    obtain ⟨R, rc, g3, gown⟩ := hI.out.row
    have hpl : pre.length + 1 ≤ 1048576 := by rw [hL] at hlen; simp at hlen; omega
    have c3 : V.cell? ⟨B3, 0, none⟩ = some (.slice R pre.length rc) := cell_of_row _ _ _ _ _ _ g3
    have G3 := Lib.hid g3; clear g3
    have GO := Lib.hid gown; clear gown
    obtain ⟨x1, x2⟩ := x
    have NX : Hid (∀ A' c' wz, wz.ownsRow 0 73 2 (.slice A' (pre.length + 1) c') (pre.length + 1) (cells pre ++ [ek x1, ev x2]) → Grew (V.alloc (.cells #[ek x1, ev x2] 73)) wz (.slice R pre.length rc) (.slice A' (pre.length + 1) c') → _) := Lib.hid (fun A' c' wz o1 g1 =>
      LayI.next (m0 := w1.heap.size) (x := (x1, x2)) hI.out HU.out (Nat.le_refl _) G3.out (by rw [HB3.out]; exact Nat.le_refl _) GO.out (Kept.alloc noBlock V _) (by rw [cells_snoc]; exact o1) g1)
    obtain ⟨k, hke⟩ : ∃ k, k = pre.length := ⟨_, rfl⟩
    rw [← hke] at c3 hpl G3 GO NX
    have HKE := Lib.hid hke; clear hke hL
    unfold ek ev at *
    dsimp only
    gi_wp2_with (gi_at_builtin; refine wpListIn_append_src rfl _ _ 25 25 rfl 73 (.agg #[.int .i64 0, .int .i64 0]) 2 16 Try.underlying25 infoPr rfl (.slice R k rc) k (cells pre) rfl (own_base (base' := 0) (GO.out.alloc _) (fun _ _ => Nat.zero_le _)) _ 1 [.int .i64 x1, .int .i64 x2] rfl (Src.ofSlice _ Try.underlying25 _ _ _ _ rfl (World.news_of_block (heap_alloc_new _ _)) (by intro u hu; simp at hu; rcases hu with rfl | rfl <;> rfl)) ?c3 ?c4 ?_)
    case c3 => unfold maxLen; omega
    case c4 => left; omega
    intro A' c' w2 o2 g2
    obtain ⟨b3, n2⟩ := NX.out A' c' w2 o2 g2
    have c3' : w2.cell? ⟨B3, 0, none⟩ = some (.slice R k rc) := cell_of_row _ _ _ _ _ _ b3
    have f3' : w2.frozen? ⟨B3, 0, none⟩ = false := frozen_of_row _ _ _ _ _ b3
    have N2 := Lib.hid n2
    clear b3 n2 NX o2 g2 hI GO G3 c3
    gi_wp2
    exact ⟨N2.out.1, N2.out.2.1, Lib.hid N2.out.2.2⟩
  case done =>
    intro D V hD hI hK
    obtain ⟨R, rc, g3, gown⟩ := hI.out.row
    have c3 : V.cell? ⟨B3, 0, none⟩ = some (.slice R L.length rc) := cell_of_row _ _ _ _ _ _ g3
    have GO := Lib.hid gown; clear gown g3
    have HKD := Lib.hid hK; clear hK
    go_wp2
    refine ⟨by simp, .inl ⟨_, _, rfl, run_takeDeferred HKD.out, ?_⟩⟩
    have st : Abide NT w1.heap.size V (V.putObj D (.deferred none)) := Abide.putObj _ hD HKD.out rfl
    exact ⟨_, results_tmp rfl _ _ _, R, rc, rfl, st.own GO.out (.inr (fun _ h => h)), Abide.kept hI.out.kept st hw1⟩
  case stop =>
    rintro D cd pre V _ _ h _
    exact h.elim
end Go.Proofs.Ytohanlhfbfodlaa.II
