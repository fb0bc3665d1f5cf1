/-
  The contract of slices.SortStableFunc at files, of fewer than twenty. No statement is proved here.
-/
import Derived.Test.YtollmkkbeeeccaaP11Cmp
import Derived.Test.YtollmkkbeeeccaaInsLay
namespace Go.Proofs.Ytollmkkbeeeccaa
open Go.RowKit Tot Go.Sort Go.Shelf

theorem at_mid (P : List RefV) (x : RefV) (R : List RefV) (d : Array RefV) (h : d.toList = P ++ x :: R) : d[P.length]! = x := by
  have hs : d.size = P.length + (R.length + 1) := by rw [← Array.length_toList, h, List.length_append, List.length_cons]
  have h1 : d.toList[P.length]? = some x := by rw [h]; simp
  rw [getElem!_pos d P.length (by omega)]
  rw [Array.getElem?_toList, Array.getElem?_eq_getElem (by omega)] at h1
  injection h1
/-- What an insertion does. -/
theorem ins_inner (P : List RefV) : ∀ (x : RefV) (R : List RefV) (d : Array RefV), d.toList = P ++ x :: R → (insInner ltR 0 P.length d).toList = (insR x P.reverse).reverse ++ R := by
  induction P using rev_ind with
  | h0 =>
    intro x R d h
    rw [List.length_nil, insInner, h]
    rfl
  | h1 P y ih =>
    intro x R d h
    have hx : d[P.length + 1]! = x := by
      have := at_mid (P ++ [y]) x R d h
      rwa [List.length_append, List.length_singleton] at this
    have hy : d[P.length]! = y := at_mid P y (x :: R) d (by rw [h]; simp)
    have hlen : (P ++ [y]).length = P.length + 1 := by simp
    rw [hlen, insInner, hx, hy, List.reverse_append, List.reverse_singleton, List.singleton_append, insR]
    by_cases hlt : ltR x y = true
    · rw [if_pos (by simp [hlt]), if_pos hlt]
      have hs : (swp d (P.length + 1) P.length).toList = P ++ x :: (y :: R) := by
        unfold swp
        rw [hx, hy, Array.toList_setIfInBounds, Array.toList_setIfInBounds, h]
        simp [List.set_append_right]
      rw [ih x (y :: R) _ hs, List.reverse_cons]
      simp
    · rw [if_neg (by simp [hlt]), if_neg hlt, h]
      simp
theorem ins_outer (l : List RefV) : ∀ (k i : Nat) (d : Array RefV), k = l.length - i → i ≤ l.length → d.toList = (ordR (l.take i)).reverse ++ l.drop i → (insOuter ltR 0 l.length i d).toList = ordV l := by
  intro k
  induction k with
  | zero =>
    intro i d hk hi h
    obtain rfl : i = l.length := by omega
    rw [insOuter, if_neg (by omega), h, List.take_length, List.drop_length, List.append_nil]
    rfl
  | succ k ih =>
    intro i d hk hi h
    have hlt : i < l.length := by omega
    rw [insOuter, if_pos hlt]
    refine ih (i + 1) _ (by omega) (by omega) ?_
    have hg : l[i]? = some l[i] := List.getElem?_eq_getElem hlt
    rw [List.drop_eq_getElem_cons hlt] at h
    have hP : ((ordR (l.take i)).reverse).length = i := by rw [List.length_reverse, ordR_len, List.length_take]; omega
    have h1 := ins_inner _ _ _ _ h
    rw [hP, List.reverse_reverse] at h1
    rw [h1, take_snoc l i _ hg, ordR_snoc]
theorem ins_sort (l : List RefV) : (insertionSort ltR l.toArray 0 l.length).toList = ordV l := by
  unfold insertionSort
  cases l with
  | nil => rw [insOuter, if_neg (by simp)]; rfl
  | cons x r => exact ins_outer (x :: r) _ 1 _ rfl (by simp) (by simp [ordR, insR])

theorem flatK_ref (l : List RefV) : (flatK RefV.cells 4 l.toArray).toList = refCells l := by
  have hl : (refCells l).length = l.length * 4 := refCells_length l
  apply List.ext_getElem?
  intro t
  by_cases ht : t < l.length * 4
  · have hk : t / 4 < l.length := by omega
    have h1 : (flatK RefV.cells 4 l.toArray)[t]! = ((RefV.cells l.toArray[t / 4]!)[t % 4]!) := get_flatK _ _ _ t (by simpa using ht)
    have hg : l[t / 4]? = some l[t / 4] := List.getElem?_eq_getElem hk
    have he : l.toArray[t / 4]! = l[t / 4] := by rw [getElem!_pos l.toArray (t / 4) (by simpa using hk)]; simp
    have hj : t % 4 < (RefV.cells l[t / 4]).length := by rw [ref_len]; omega
    have h2 := flat_at (enc := RefV.cells) ref_len l (t / 4) (t % 4) _ _ hg (List.getElem?_eq_getElem hj)
    rw [show t / 4 * 4 + t % 4 = t by omega] at h2
    rw [show refCells l = flat RefV.cells l from rfl, h2]
    rw [he, getElem!_pos (flatK RefV.cells 4 l.toArray) t (by simpa using ht), getElem!_pos (RefV.cells l[t / 4]) (t % 4) hj] at h1
    rw [Array.getElem?_toList, Array.getElem?_eq_getElem (by simpa using ht), h1]
  · rw [List.getElem?_eq_none (by simp; omega), List.getElem?_eq_none (by omega)]
theorem own_parts {w : World} {base g n c : Nat} {t : TypeId} {xs : List Value} (h : w.ownsRow base t 4 (.slice (some ⟨g, 0, none⟩) n c) n xs) :
    ∃ cur, base ≤ g ∧ w.heap[g]? = some (.cells cur t (0, 0)) ∧ n ≤ c ∧ c ≤ maxLen ∧ cur.size = c * 4 ∧ cur.toList.take (n * 4) = xs := by
  rcases h.2 with ⟨e, _⟩ | ⟨g', cap, cur, e, hb, hg, hnc, hcm, hcs, htk⟩
  · cases e
  · injection e with e _ ec
    injection e with e
    injection e with e
    subst e; subst ec
    exact ⟨cur, hb, hg, hnc, hcm, hcs, htk⟩
theorem own_holds {w : World} {base g n c : Nat} {t : TypeId} {l : List RefV} (h : w.ownsRow base t 4 (.slice (some ⟨g, 0, none⟩) n c) n (refCells l)) (hl : l.length = n) : HoldsK RefV.cells 4 w g 0 l.toArray := by
  obtain ⟨cur, _, hg, hnc, _, hcs, htk⟩ := own_parts h
  intro j hj
  have hj' : j < n * 4 := by rw [← hl]; simpa using hj
  refine ⟨?_, frozen_of_row _ _ _ _ _ hg⟩
  rw [Nat.zero_add]
  have h1 : (refCells l)[j]? = some (flatK RefV.cells 4 l.toArray)[j]! := by rw [← flatK_ref, Array.getElem?_toList, Array.getElem?_eq_getElem hj, getElem!_pos _ j hj]
  rw [← htk, List.getElem?_take_of_lt hj', Array.getElem?_toList] at h1
  exact cell_of_row _ _ _ _ _ _ hg |>.trans (by simpa [Array.getElem?_eq_getElem (show j < cur.size by omega)] using h1)
/-- The row behind the sort. -/
theorem sort_row {w : World} {base g n c : Nat} {t : TypeId} {l l' : List RefV} (h : w.ownsRow base t 4 (.slice (some ⟨g, 0, none⟩) n c) n (refCells l)) (hl : l'.length = n) (q : Nat) (os : Array Obj) (d : Array RefV) (hd : d.toList = l') :
    (sortWorldK RefV.cells 4 w g 0 q d os).ownsRow base t 4 (.slice (some ⟨g, 0, none⟩) n c) n (refCells l') ∧ Kept (fun i => i = g) w (sortWorldK RefV.cells 4 w g 0 q d os) := by
  obtain ⟨cur, hbg, hg, hnc, hcm, hcs, htk⟩ := own_parts h
  obtain rfl : d = l'.toArray := by rw [← hd]
  have hgl : g < w.heap.size := lt_of_blk hg
  have hFs : (flatK RefV.cells 4 l'.toArray).size = n * 4 := by rw [size_flatK]; simp [hl]
  have hb : (sortWorldK RefV.cells 4 w g 0 q l'.toArray os).heap[g]? = some (.cells (putCells id 0 (flatK RefV.cells 4 l'.toArray) cur) t (0, 0)) := by
    unfold sortWorldK putRowK Sort.grow
    show ((putRow id (Sort.ahead w q) g 0 (flatK RefV.cells 4 l'.toArray)).heap ++ os)[g]? = _
    rw [Array.getElem?_append_left (by simpa [putRow, mapBlock, Sort.ahead] using hgl)]
    simp [putRow, mapBlock, Sort.ahead, Array.getElem?_modify, hg, onCells]
  refine ⟨⟨by rw [refCells_length, hl], .inr ⟨g, c, _, rfl, hbg, hb, hnc, hcm, by simp [putCells, hcs], ?_⟩⟩, ⟨rfl, rfl, rfl, ?_, fun i hi hn => ?_⟩⟩
  · rw [← flatK_ref]
    apply List.ext_getElem?
    intro j
    by_cases hj : j < n * 4
    · rw [List.getElem?_take_of_lt hj, Array.getElem?_toList, Array.getElem?_toList, Array.getElem?_eq_getElem (show j < (flatK RefV.cells 4 l'.toArray).size by omega)]
      have hjc : j < cur.size := by omega
      have hjf : j < (flatK RefV.cells 4 l'.toArray).size := by omega
      unfold putCells
      rw [Array.getElem?_mapIdx, Array.getElem?_eq_getElem hjc, Option.map_some, if_pos ⟨Nat.zero_le _, by omega⟩, Nat.sub_zero, getElem!_pos _ j hjf]
      rfl
    · rw [List.getElem?_take_eq_none (by omega), List.getElem?_eq_none (by rw [Array.length_toList]; omega)]
  · unfold sortWorldK putRowK Sort.grow
    simp [putRow, mapBlock, Sort.ahead]
  · have hni : ¬ g = i := fun e => hn e.symm
    unfold sortWorldK putRowK Sort.grow
    show ((putRow id (Sort.ahead w q) g 0 (flatK RefV.cells 4 l'.toArray)).heap ++ os)[i]? = _
    rw [Array.getElem?_append_left (by simpa [putRow, mapBlock, Sort.ahead] using hi)]
    simp [putRow, mapBlock, Sort.ahead, Array.getElem?_modify, hni]

theorem ins_any (base g n c : Nat) (l : List RefV) (w : World) (h : w.ownsRow base 37 4 (.slice (some ⟨g, 0, none⟩) n c) n (refCells l)) (hl : l.length = n) (hn : n ≤ 1099511627776) :
    Calls Try.prog 49 #[.slice (some ⟨g, 0, none⟩) n c, .int .i64 0, .int .i64 (n : Int), .func (.func 31) #[] #[]] w fun e w' => e = .returned (.tuple #[]) ∧ w'.ownsRow base 37 4 (.slice (some ⟨g, 0, none⟩) n c) n (refCells (ordV l)) ∧ Kept (fun i => i = g) w w' := by
  subst hl
  obtain ⟨cur, _, hg, _⟩ := own_parts h
  have eg : ∀ args w, (callFunc 31 args).run Try.prog w = .ok (.enter 31 args) w := enters_of Try.func31 (by kernel_rfl) rfl
  have hcmp : CmpLays Try.prog 31 #[] RefV.cells 4 cmpR g 0 l.toArray.size w := fun _ _ _ _ x y => (cmp_any x y _).mono fun _ _ ⟨he, hg⟩ => ⟨he, hg.out⟩
  have hcon := AnyQ.insertionSortCmpFunc Try.ins 4 Try.isAgg37 Try.sizeOf37 RefV.cells ref_len cells_one_ref cmpR 31 #[] g 0 c 0 l.length l.toArray w eg hcmp (own_holds h rfl) (lt_of_blk hg) (Nat.zero_le _) (by simp) (by simp; omega)
  change Calls Try.prog 49 _ _ _ at hcon
  refine hcon.mono ?_
  rintro e w' ⟨rfl, q, os, rfl⟩
  exact ⟨rfl, sort_row h (ordV_len l) q os _ (ins_sort l)⟩
theorem ins_none (w : World) : Calls Try.prog 49 #[.slice none 0 0, .int .i64 0, .int .i64 0, .func (.func 31) #[] #[]] w fun e w' => e = .returned (.tuple #[]) ∧ w = w' := by
  go_enter Try.func49, Try.ntmps49
  go_wp2
  refine wp_loop_rounds 1 ?_
  rw [rounds_succ]
  go_wp2
  go_end0
  exact ⟨rfl, rfl⟩

set_option maxRecDepth 100000 in
theorem stab_any (base n c : Nat) (a : Option Addr) (l : List RefV) (w : World) (h : w.ownsRow base 37 4 (.slice a n c) n (refCells l)) (hl : l.length = n) (hn : n < 20) :
    Calls Try.prog 44 #[.slice a n c, .int .i64 (n : Int), .func (.func 31) #[] #[]] w fun e w' => e = .returned (.tuple #[]) ∧ w'.ownsRow base 37 4 (.slice a n c) n (refCells (ordV l)) ∧ Kept (fun i => (Value.slice a n c).ownBlock = some i) w w' := by
  have hins : Calls Try.prog 49 #[.slice a n c, .int .i64 0, .int .i64 (n : Int), .func (.func 31) #[] #[]] w fun e w' => e = .returned (.tuple #[]) ∧ w'.ownsRow base 37 4 (.slice a n c) n (refCells (ordV l)) ∧ Kept (fun i => (Value.slice a n c).ownBlock = some i) w w' := by
    rcases h.2 with ⟨e, hn0⟩ | ⟨g, cap, cur, e, _⟩
    · injection e with e1 e2 e3
      subst e1; subst e2; subst e3
      obtain rfl : l = [] := List.eq_nil_of_length_eq_zero hl
      exact (ins_none w).mono fun _ _ ⟨he, hw⟩ => ⟨he, by rw [← hw]; exact h, by rw [← hw]; exact Kept.refl _ _⟩
    · injection e with e1 e2 e3
      subst e1
      exact (ins_any base g n c l w h hl (by omega)).mono fun _ _ ⟨he, ho, hk⟩ => ⟨he, ho, hk.mono (fun i _ e => by simp [Value.ownBlock, e])⟩
  have HI := Lib.hid hins
  have hlt : ¬ ((20 : Int) ≤ (n : Int)) := by omega
  have hlt2 : ¬ ((20 : Int) < (n : Int)) := by omega
  clear h hl hins
  go_enter Try.func44, Try.ntmps44
  go_wp2
  refine wp_loop_rounds 1 ?_
  rw [rounds_succ]
  go_wp2_with fail
  refine HI.out.mono ?_
  rintro e w2 ⟨rfl, ho, hk⟩
  have HO := Lib.hid ho
  have HK := Lib.hid hk
  clear ho hk HI
  go_wp2
  refine wp_loop_rounds 1 ?_
  rw [rounds_succ]
  go_wp2
  go_end0
  exact ⟨rfl, HO.out, HK.out⟩

theorem ssort_any (base n c : Nat) (a : Option Addr) (l : List RefV) (w : World) (h : w.ownsRow base 37 4 (.slice a n c) n (refCells l)) (hl : l.length = n) (hn : n < 20) :
    Calls Try.prog 36 #[.slice a n c, .func (.func 31) #[] #[]] w fun e w' => e = .returned (.tuple #[]) ∧ w'.ownsRow base 37 4 (.slice a n c) n (refCells (ordV l)) ∧ Kept (fun i => (Value.slice a n c).ownBlock = some i) w w' := by
  have HI := Lib.hid (stab_any base n c a l w h hl hn)
  clear h hl
  go_enter Try.func36, Try.ntmps36
  go_wp2_with fail
  refine HI.out.mono ?_
  rintro e w2 ⟨rfl, ho, hk⟩
  have HO := Lib.hid ho
  have HK := Lib.hid hk
  clear ho hk HI
  go_wp2
  go_end0
  exact ⟨rfl, HO.out, HK.out⟩
end Go.Proofs.Ytollmkkbeeeccaa
