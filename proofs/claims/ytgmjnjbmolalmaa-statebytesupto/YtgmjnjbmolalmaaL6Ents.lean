/-
  Rows of entries by numbers, as the statements of layer 6 draw them. No statement is proved here.
-/
import Derived.Test.YtgmjnjbmolalmaaL6Say
import Derived.Test.YtgmjnjbmolalmaaEntRow
import Derived.Test.YtgmjnjbmolalmaaGrew
namespace Go.Proofs.Ytgmjnjbmolalmaa
open Go.RowKit

theorem Try.infoEntry : (Try.prog.info? 41).map (fun i => (i.zero, i.size, i.bytes)) = some (some noEntry.val, 8, 88) := by kernel_rfl

/-- The cells of says. -/
def sayCells (ss : List SayV) : List Value := ss.flatMap SayV.cells
theorem scells_length (s : SayV) : s.cells.length = 6 := rfl
theorem sayCells_cons (s : SayV) (r : List SayV) : sayCells (s :: r) = s.cells ++ sayCells r := by simp [sayCells]
theorem sayCells_at : ∀ (ss : List SayV) (k j : Nat) (s : SayV) (v : Value), ss[k]? = some s → s.cells[j]? = some v → (sayCells ss)[k * 6 + j]? = some v
  | [], k, j, s, v, h, _ => by simp at h
  | q :: r, 0, j, s, v, h, hv => by
    obtain rfl : q = s := by simpa using h
    have hj : j < q.cells.length := (List.getElem?_eq_some_iff.1 hv).1
    rw [sayCells_cons, Nat.zero_mul, Nat.zero_add, List.getElem?_append_left hj]
    exact hv
  | q :: r, k + 1, j, s, v, h, hv => by
    have ih := sayCells_at r k j s v (by simpa using h) hv
    rw [sayCells_cons, List.getElem?_append_right (by rw [scells_length]; omega), scells_length, show (k + 1) * 6 + j - 6 = k * 6 + j by omega]
    exact ih
/-- A say of a row, cell by cell. -/
structure SayAt (w : World) (b o : Nat) (s : SayV) : Prop where
  c0 : w.cell? ⟨b, o, none⟩ = some (.int .u8 (s.op.toNat : Int))
  c1 : w.cell? ⟨b, o + 1, none⟩ = some (.int .u8 (s.client.toNat : Int))
  c2 : w.cell? ⟨b, o + 2, none⟩ = some (.int .u8 (s.seq.toNat : Int))
  c3 : w.cell? ⟨b, o + 3, none⟩ = some (.int .u8 (s.key.toNat : Int))
  c4 : w.cell? ⟨b, o + 4, none⟩ = some (.int .u8 (s.value.toNat : Int))
  c5 : w.cell? ⟨b, o + 5, none⟩ = some (.int .u8 (s.old.toNat : Int))
theorem says_cell {w : World} {F : Nat → Prop} {a : Option Addr} {ss : List SayV} (h : Lies w F a (sayCells ss)) {k : Nat} {s : SayV} (hs : ss[k]? = some s) : ∃ b o, a = some ⟨b, o, none⟩ ∧ F b ∧ SayAt w b (o + k * 6) s := by
  have at_ := fun j v hv => sayCells_at ss k j s v hs hv
  obtain ⟨b, o, rfl, hF, hc⟩ := h.norm (by intro e0; have := at_ 0 _ rfl; rw [e0] at this; simp at this)
  refine ⟨b, o, rfl, hF, ?_, ?_, ?_, ?_, ?_, ?_⟩
  · exact hc _ _ (at_ 0 _ rfl)
  all_goals rw [Nat.add_assoc]
  · exact hc _ _ (at_ 1 _ rfl)
  · exact hc _ _ (at_ 2 _ rfl)
  · exact hc _ _ (at_ 3 _ rfl)
  · exact hc _ _ (at_ 4 _ rfl)
  · exact hc _ _ (at_ 5 _ rfl)

/-- The term behind a say. -/
def bump (s : SayV) (t : Int) : Int := if 230 < s.op.toNat then t + 1 else t
def termOf (ss : List SayV) (t : Int) : Int := ss.foldl (fun t s => bump s t) t
/-- The entries of says. -/
def entsOf : List SayV → Int → Int → List EntryV
  | [], _, _ => []
  | s :: r, i, t => ⟨i, bump s t, s.cmd⟩ :: entsOf r (i + 1) (bump s t)
theorem entsOf_length (ss : List SayV) (i t : Int) : (entsOf ss i t).length = ss.length := by
  induction ss generalizing i t with
  | nil => rfl
  | cons s r ih => simp [entsOf, ih]
theorem entsOf_snoc (ss : List SayV) (s : SayV) (i t : Int) : entsOf (ss ++ [s]) i t = entsOf ss i t ++ [⟨i + ss.length, bump s (termOf ss t), s.cmd⟩] := by
  induction ss generalizing i t with
  | nil => simp [entsOf, termOf]
  | cons q r ih =>
    simp only [List.cons_append, entsOf, ih, termOf, List.foldl_cons, List.length_cons]
    have : i + 1 + (r.length : Int) = i + ((r.length + 1 : Nat) : Int) := by omega
    rw [this]
theorem termOf_snoc (ss : List SayV) (s : SayV) (t : Int) : termOf (ss ++ [s]) t = bump s (termOf ss t) := by simp [termOf]
theorem bump_bounds (s : SayV) (t : Int) : t ≤ bump s t ∧ bump s t ≤ t + 1 := by unfold bump; split <;> omega
theorem termOf_bounds (ss : List SayV) (t : Int) : t ≤ termOf ss t ∧ termOf ss t ≤ t + ss.length := by
  induction ss generalizing t with
  | nil => simp [termOf]
  | cons s r ih =>
    have h1 := ih (bump s t)
    have h2 := bump_bounds s t
    have h3 : termOf (s :: r) t = termOf r (bump s t) := by simp [termOf]
    rw [h3, List.length_cons]
    omega
/-- They stand behind one another. -/
theorem rowB_ents (ss : List SayV) (i t t0 : Int) (h0 : t0 ≤ t) (h1 : 1 ≤ i) (h2 : i + ss.length ≤ 1048577) (h3 : 0 ≤ t) (h4 : t + ss.length ≤ 1048576) : rowB (entsOf ss i t) i t0 = true := by
  induction ss generalizing i t t0 with
  | nil => rfl
  | cons s r ih =>
    have hb := bump_bounds s t
    rw [List.length_cons] at h2 h4
    have hr : EntryV.Right ⟨i, bump s t, s.cmd⟩ := ⟨h1, by show i ≤ 1048576; omega, by show 0 ≤ bump s t; omega, by show bump s t ≤ 1048576; omega, s.may⟩
    show rowB (⟨i, bump s t, s.cmd⟩ :: entsOf r (i + 1) (bump s t)) i t0 = true
    have hd : EntryV.Right ⟨i, bump s t, s.cmd⟩ ∧ (⟨i, bump s t, s.cmd⟩ : EntryV).index = i ∧ t0 ≤ (⟨i, bump s t, s.cmd⟩ : EntryV).term := ⟨hr, rfl, by show t0 ≤ bump s t; omega⟩
    rw [rowB_cons, decide_eq_true hd, ih _ _ _ (by show bump s t ≤ bump s t; omega) (by omega) (by omega) (by omega) (by omega)]
    rfl
theorem one_ents (es : List EntryV) : ∀ u ∈ entCells es, u.oneCell' = true := by
  intro u hu
  obtain ⟨e, _, hm⟩ := List.mem_flatMap.1 hu
  simp only [EntryV.cells, List.mem_cons, List.not_mem_nil, or_false] at hm
  rcases hm with rfl | rfl | rfl | rfl | rfl | rfl | rfl | rfl <;> rfl
/-- One entry in a block of its own, as a source. -/
theorem src_entry {w : World} {B : Nat} {t : TypeId} {fr : Nat × Nat} {c : Nat} (e : EntryV) (hb : w.heap[B]? = some (.cells e.cells.toArray t fr)) : Src Try.prog 8 34 (.slice (some ⟨B, 0, none⟩) 1 c) 1 (entCells [e]) w := by
  have he : entCells [e] = e.cells := by simp [entCells]
  refine Src.ofSlice w Try.underlying34 _ _ _ _ (by rw [he]; rfl) ?_ (one_ents _)
  rw [he]
  intro j u hu
  have := World.news_of_block hb j u (by simpa using hu)
  exact this

set_option maxHeartbeats 2000000 in
theorem ents_any (F : Nat → Prop) (a : Option Addr) (n c : Nat) (from_ term : Int) (ss : List SayV) (es : List EntryV) (w : World) (h : Lies w F a (sayCells ss)) (hl : ss.length = n) (hnc : n ≤ c) (hes : es = entsOf (ss.take 80) from_ term)
    (hf : 0 ≤ from_) (hf2 : from_ ≤ 1048576) (ht : 0 ≤ term) (ht2 : term ≤ 1048576) :
    Calls Try.prog 12 #[.slice a n c, .int .i64 from_, .int .i64 term] w fun e w' => ∃ A cc, e = .returned (.slice A es.length cc) ∧ w'.ownsRow w.heap.size 41 8 (.slice A es.length cc) es.length (entCells es) ∧ Kept noBlock w w' := by
  obtain ⟨M, hme⟩ : ∃ M, M = min n 80 := ⟨_, rfl⟩
  have q1 : (if (80 : Int) < (n : Int) then (80 : Int) else (n : Int)) = (M : Int) := by split <;> omega
  have i1 : (M : Int) ≤ c := by omega
  have hmn : M ≤ n := by omega
  have hm80 : M ≤ 80 := by omega
  have HL := Lib.hid hl
  have H := Lib.hid h; clear h
  have hmlen : (ss.take 80).length = M := by rw [List.length_take, hl, hme]; omega
  have HES : Hid (es = entsOf (ss.take M) from_ term) := by
    unfold Hid
    rw [hes]
    congr 1
    rw [hme]
    rcases Nat.le_total n 80 with hh | hh
    · rw [Nat.min_eq_left hh, List.take_of_length_le (by omega), List.take_of_length_le (by omega)]
    · rw [Nat.min_eq_right hh]
  clear hme hes hl
  go_enter Try.func12, Try.ntmps12
  go_wp2_with fail
  go_loopw [2, 7, 16] (fun t v i wr => ∃ (k L : Nat) (T : Int) (A : Option Addr) (cc : Nat) (xs : List Value), k ≤ M ∧ Hid (L = k) ∧ L ≤ M ∧ i = .int .i64 (k : Int) ∧ t = .int .i64 T ∧ v = .slice A L cc ∧ Hid (T = termOf (ss.take k) term) ∧ 0 ≤ T ∧ T ≤ 1048656 ∧ Hid (xs = entCells (entsOf (ss.take k) from_ term)) ∧ Hid (wr.ownsRow 0 41 8 (.slice A L cc) L xs) ∧ Hid (Kept noBlock w wr) ∧ Hid (∀ b, (Value.slice A L cc).ownBlock = some b → w.heap.size ≤ b)) (fun _ _ i _ => M - (intOf i).toNat)
  case atStart => exact ⟨0, 0, term, none, 0, [], by omega, rfl, by omega, rfl, rfl, rfl, rfl, ht, by omega, rfl, World.ownsRow_nil _ _ _ _, Kept.refl _ _, fun b hb => by simp [Value.ownBlock] at hb⟩
  case round =>
    obtain ⟨k, L, T, A, cc, xs, hk, HLK, hLM, rfl, rfl, rfl, HT, hT0, hT1, HX, HO, HK, HB⟩ := hrel
    by_cases hlt : k < M
    · obtain ⟨s, hs⟩ : ∃ s, ss[k]? = some s := ⟨_, List.getElem?_eq_getElem (by have := HL.out; omega)⟩
      obtain ⟨b, o, rfl, _, e⟩ := says_cell (H.out.keep HK.out (fun _ _ h => h)) hs
      obtain ⟨c0, c1, c2, c3, c4, c5⟩ := e
      have HS := Lib.hid hs
      clear hs
      have hT2 : T ≤ 1048576 + k := by
        have h1 := (termOf_bounds (ss.take k) term).2
        rw [← HT.out, List.length_take] at h1
        omega
      have hsay := say_any s
      unfold SayV.val CmdV.val at hsay
      by_cases hop : (230 : Int) < (s.op.toNat : Int)
      · go_wp2_with fail
        refine (hsay _).mono ?_
        rintro e w2 ⟨rfl, k2⟩
        have ho2 := own_keep HO.out ((Kept.alloc noBlock wr _).step k2) (fun _ _ h => h)
        have HO2 := Lib.hid ho2
        have K2 := Lib.hid (HK.out.step ((Kept.alloc noBlock wr _).step k2))
        clear ho2 k2
        go_wp2_with (at_builtin; refine wpList_append_src rfl (.tmp 26) (.tmp 34) 34 34 rfl 41 noEntry.val 8 88 Try.underlying34 Try.infoEntry rfl (.slice A L cc) L xs rfl (HO2.out.alloc _) _ 1 (entCells [⟨from_ + k, T + 1, s.cmd⟩]) rfl (src_entry ⟨from_ + k, T + 1, s.cmd⟩ (heap_alloc_new _ _)) ?c3 ?c4 ?_)
        case c3 => unfold maxLen; omega
        case c4 => omega
        intro A' c' w3 hown3 k3 hat
        have HO3 := Lib.hid hown3
        have K3 := Lib.hid ((K2.out.step (Kept.alloc noBlock w2 _)).trans k3 (fun i hi h => absurd (HB.out i h) (by omega)))
        have HB3 : Hid (∀ b, (Value.slice A' (L + 1) c').ownBlock = some b → w.heap.size ≤ b) := fun b hb => by
          rcases hat b hb with h | h
          · exact HB.out b h
          · exact Nat.le_trans (K2.out.step (Kept.alloc noBlock w2 _)).size h.1
        clear hown3 k3 hat
        go_wp2
        go_roundw
        case rel =>
          refine ⟨k + 1, L + 1, T + 1, A', c', xs ++ entCells [⟨from_ + k, T + 1, s.cmd⟩], by omega, by unfold Hid; rw [HLK.out], by have := HLK.out; omega, by go_num, rfl, rfl, ?_, by omega, by have := hT2; omega, ?_, HO3, K3, HB3⟩
          · unfold Hid
            rw [take_snoc ss k s HS.out, termOf_snoc, ← HT.out]
            unfold bump
            rw [if_pos (by omega)]
          · unfold Hid
            rw [take_snoc ss k s HS.out, entsOf_snoc, entCells_append, HX.out, ← HT.out, List.length_take, Nat.min_eq_left (by have := HL.out; omega)]
            unfold bump
            rw [if_pos (by omega)]
        case measure => simp [intOf]; omega
      · go_wp2_with fail
        refine (hsay _).mono ?_
        rintro e w2 ⟨rfl, k2⟩
        have ho2 := own_keep HO.out ((Kept.alloc noBlock wr _).step k2) (fun _ _ h => h)
        have HO2 := Lib.hid ho2
        have K2 := Lib.hid (HK.out.step ((Kept.alloc noBlock wr _).step k2))
        clear ho2 k2
        go_wp2_with (at_builtin; refine wpList_append_src rfl (.tmp 26) (.tmp 34) 34 34 rfl 41 noEntry.val 8 88 Try.underlying34 Try.infoEntry rfl (.slice A L cc) L xs rfl (HO2.out.alloc _) _ 1 (entCells [⟨from_ + k, T, s.cmd⟩]) rfl (src_entry ⟨from_ + k, T, s.cmd⟩ (heap_alloc_new _ _)) ?c3 ?c4 ?_)
        case c3 => unfold maxLen; omega
        case c4 => omega
        intro A' c' w3 hown3 k3 hat
        have HO3 := Lib.hid hown3
        have K3 := Lib.hid ((K2.out.step (Kept.alloc noBlock w2 _)).trans k3 (fun i hi h => absurd (HB.out i h) (by omega)))
        have HB3 : Hid (∀ b, (Value.slice A' (L + 1) c').ownBlock = some b → w.heap.size ≤ b) := fun b hb => by
          rcases hat b hb with h | h
          · exact HB.out b h
          · exact Nat.le_trans (K2.out.step (Kept.alloc noBlock w2 _)).size h.1
        clear hown3 k3 hat
        go_wp2
        go_roundw
        case rel =>
          refine ⟨k + 1, L + 1, T, A', c', xs ++ entCells [⟨from_ + k, T, s.cmd⟩], by omega, by unfold Hid; rw [HLK.out], by have := HLK.out; omega, by go_num, rfl, rfl, ?_, by omega, by have := hT2; omega, ?_, HO3, K3, HB3⟩
          · unfold Hid
            rw [take_snoc ss k s HS.out, termOf_snoc, ← HT.out]
            unfold bump
            rw [if_neg (by omega)]
          · unfold Hid
            rw [take_snoc ss k s HS.out, entsOf_snoc, entCells_append, HX.out, ← HT.out, List.length_take, Nat.min_eq_left (by have := HL.out; omega)]
            unfold bump
            rw [if_neg (by omega)]
        case measure => simp [intOf]; omega
    · obtain rfl : k = M := by omega
      have hlen : es.length = L := by rw [HES.out, entsOf_length, List.length_take]; have := HL.out; have := HLK.out; omega
      have HLEN := Lib.hid hlen
      clear hlen
      go_wp2
      go_ret
      rw [HLEN.out]
      refine ⟨A, cc, rfl, ?_, HK.out⟩
      rw [HES.out, ← HX.out]
      exact own_base HO.out HB.out

end Go.Proofs.Ytgmjnjbmolalmaa
