/-
  The contracts of package frame, third part: All, and the function that it tells. No statement is proved here.
-/
import Derived.Test.YthankjgebaanpaaFrame2
import Derived.Test.YthankjgebaanpaaIter
import Derived.OwnWalkIn
import Derived.TacticsInMore
import Derived.LoopNIn
import Derived.LoopIn
namespace Go.Proofs.Ythankjgebaanpaa
open Go.RowKit
attribute [local go_sem] Oper.semAt_some

/-- A row that is handed over: where its frame ends, and where its bytes lie. -/
structure Item where
  at_ : Nat
  A : Option Addr
  c : Nat
  row : List UInt8
def Item.enc (x : Item) : Array Value := #[.int .i64 (x.at_ : Int), .slice x.A x.row.length x.c]
def rowsOf (xs : List Item) : List (List UInt8) := xs.map (·.row)
theorem rowsOf_snoc (xs : List Item) (x : Item) : rowsOf (xs ++ [x]) = rowsOf xs ++ [x.row] := by simp [rowsOf]
theorem rowsOf_length (xs : List Item) : (rowsOf xs).length = xs.length := by simp [rowsOf]
/-- A row's bytes lie where it says. -/
def Item.there (x : Item) (W : World) : Prop := W.ownsRow 0 5 1 (.slice x.A x.row.length x.c) x.row.length (x.row.map bv)
/-- What is known of a row that is handed over. -/
structure Handed (b : List UInt8) (pre : List Item) (x : Item) (W : World) : Prop where
  is : ∃ t, Parted b (rowsOf (pre ++ [x])) t
  end_ : x.at_ = (joined (rowsOf (pre ++ [x]))).length
  there : x.there W
/-- All rows have come. -/
def Found (b : List UInt8) (xs : List Item) : Prop := ∃ t, Parted b (rowsOf xs) t ∧ (rd t).2.2 ≠ 0
/-- What one who takes a row leaves as it was: a block, all bytes, and all tables. -/
def Held (Bb : Nat) (W W' : World) : Prop := W.heap.size ≤ W'.heap.size ∧ ∀ k cs t fr, W.heap[k]? = some (.cells cs t fr) → (k = Bb ∨ t = 5 ∨ t = 52) → W'.heap[k]? = some (.cells cs t fr)
theorem Held.trans {Bb : Nat} {A B C : World} (h : Held Bb A B) (k : Held Bb B C) : Held Bb A C := ⟨Nat.le_trans h.1 k.1, fun i cs t fr hi hk => k.2 i cs t fr (h.2 i cs t fr hi hk) hk⟩
theorem Held.putObj {Bb : Nat} (W : World) (l : Nat) (o o' : Obj) (h : W.heap[l]? = some o) (ho : o.isCells = false) : Held Bb W (W.putObj l o') := by
  refine ⟨by simp, fun k cs t fr hk _ => (World.putObj_heap_other (fun e => ?_)).trans hk⟩
  subst e
  rw [hk] at h
  injection h with h
  subst h
  cases ho
theorem Held.of_kept {Bb : Nat} {W W' : World} (h : Kept noBlock W W') : Held Bb W W' := ⟨h.size, fun _ _ _ _ hk _ => h.blk hk (fun h => h)⟩
theorem own_held {Bb : Nat} {W W' : World} {base n : Nat} {v : Value} {xs : List Value} (h : W.ownsRow base 5 1 v n xs) (k : Held Bb W W') : W'.ownsRow base 5 1 v n xs := by
  refine ⟨h.1, ?_⟩
  rcases h.2 with hn | ⟨g, cap, cur, rfl, hb, hgg, rest⟩
  · exact .inl hn
  · exact .inr ⟨g, cap, cur, rfl, hb, k.2 g _ _ _ hgg (.inr (.inl rfl)), rest⟩
theorem own_steady {m : Nat} {W W' : World} {base n : Nat} {e : TypeId} {size : Nat} {v : Value} {xs : List Value} (h : W.ownsRow base e size v n xs) (k : Steady m W W') : W'.ownsRow base e size v n xs := by
  refine ⟨h.1, ?_⟩
  rcases h.2 with hn | ⟨g, cap, cur, rfl, hb, hgg, rest⟩
  · exact .inl hn
  · refine .inr ⟨g, cap, cur, rfl, hb, k.blk hgg (fun h => ?_), rest⟩
    obtain ⟨_, o, ho, hc⟩ := h
    rw [hgg] at ho
    injection ho with ho
    subst ho
    cases hc
theorem blk_steady {m k : Nat} {W W' : World} {cs : Array Value} {t : TypeId} {fr : Nat × Nat} (h : W.heap[k]? = some (.cells cs t fr)) (s : Steady m W W') : W'.heap[k]? = some (.cells cs t fr) := by
  refine s.blk h (fun hh => ?_)
  obtain ⟨_, o, ho, hc⟩ := hh
  rw [h] at ho
  injection ho with ho
  subst ho
  cases hc
theorem Handed.steady {b : List UInt8} {m : Nat} (pre : List Item) (x : Item) (A B : World) (h : Handed b pre x A) (s : Steady m A B) : Handed b pre x B := ⟨h.is, h.end_, own_steady h.there s⟩

theorem Parted.next {b : List UInt8} {rs : List (List UInt8)} {t : List UInt8} (h : Parted b rs t) (ht : (rd t).2.2 = 0) : Parted b (rs ++ [(rd t).1]) (t.drop (rd t).2.1) := by
  obtain ⟨h1, h2, h3⟩ := rd_ok ht
  refine ⟨?_, fun r hr => ?_⟩
  · rw [joined_snoc, List.append_assoc, ← h3]
    exact h.is
  · rcases List.mem_append.1 hr with hr | hr
    · exact h.fit r hr
    · simp at hr
      subst hr
      exact h1
theorem Parted.rest {b : List UInt8} {rs : List (List UInt8)} {t : List UInt8} (h : Parted b rs t) : t = b.drop (joined rs).length := by
  rw [h.is]
  exact (List.drop_left' rfl).symm
theorem Parted.le {b : List UInt8} {rs : List (List UInt8)} {t : List UInt8} (h : Parted b rs t) : (joined rs).length ≤ b.length := by
  have := congrArg List.length h.is
  rw [List.length_append] at this
  omega

set_option maxRecDepth 100000 in
set_option maxHeartbeats 1000000 in
theorem all_any (F : Nat → Prop) (a : Option Addr) (n c : Nat) (l : List UInt8) (w : World) (h : Lies w F a (l.map bv)) (hl : l.length = n) (hn : n ≤ 200000000000000) :
    Calls Try.prog 19 #[.slice a n c] w fun e w' => ∃ B A c', e = .returned (.func (.func 25) #[] #[.pointer (some ⟨B, 0, none⟩)]) ∧ w.heap.size ≤ B ∧ w'.heap[B]? = some (.cells #[.slice A n c'] 22 (0, 0)) ∧
      w'.ownsRow w.heap.size 5 1 (.slice A n c') n (l.map bv) ∧ Kept noBlock w w' := by
  go_enter Try.func19, Try.ntmps19
  go_wp2_with fail
  have hnew := heap_alloc_new w (.cells #[.slice a n c] 22)
  have k0 := Kept.alloc noBlock w (.cells #[.slice a n c] 22)
  refine (clone_any F a n c l _ (h.keep k0 (fun _ _ h => h)) hl hn).mono ?_
  rintro e w1 ⟨A', c', rfl, o1, k1⟩
  have hb1 := k1.blk hnew (fun h => h)
  have hc1 : w1.cell? ⟨w.heap.size, 0, none⟩ = some (.slice a n c) := cell_of_row _ _ _ _ _ _ hb1
  have hf1 : w1.frozen? ⟨w.heap.size, 0, none⟩ = false := frozen_of_row _ _ _ _ _ hb1
  have R1 := Lib.hid o1; clear o1
  have H1 := Lib.hid hb1; clear hb1 hnew
  go_wp2
  go_ret
  have hb2 := heap_setCell_same w1 w.heap.size 0 _ _ (.slice A' n c') H1.out
  refine ⟨w.heap.size, A', c', rfl, Nat.le_refl _, by simpa using hb2, ?_, (k0.step k1).trans (Kept.setCell (S := fun i => i = w.heap.size) w1 (by rfl) _) (fun i hi h => by omega)⟩
  have hne := own_ne R1.out H1.out (by decide)
  refine own_base (own_keep R1.out (Kept.setCell (S := fun i => i = w.heap.size) w1 (by rfl) _) (fun i hi e => hne (e ▸ hi))) (fun i hi => ?_)
  have := (R1.out.lt i hi).1
  simp at this
  omega

set_option maxRecDepth 100000 in
set_option maxHeartbeats 1000000 in
theorem all1_goes (Bb : Nat) (A : Option Addr) (n c : Nat) (b : List UInt8) (w : World) (hbox : w.heap[Bb]? = some (.cells #[.slice A n c] 22 (0, 0))) (hown : w.ownsRow 0 5 1 (.slice A n c) n (b.map bv)) (hl : b.length = n) (hn : n ≤ 200000000000000) (m : Nat) :
    Goes Fence.wide m Try.prog 25 #[.pointer (some ⟨Bb, 0, none⟩)] Item.enc (Handed b) (Held Bb) (Found b) (fun _ => True) w := by
  intro l J Jx W kW hJ hJx hY h0
  refine callsIn_wide.2 ?_
  show Calls Try.prog 25 #[.func (.yield l) #[] #[], .pointer (some ⟨Bb, 0, none⟩)] W _
  go_enter Try.func25, Try.ntmps25
  go_wp2_with fail
  refine (of_any 3988292384 W (by decide)).mono ?_
  rintro e w1 ⟨rfl, k1⟩
  go_wp2_with (first | refine wpList_alloc_row rfl 52 rfl (tabk 0 0) Try.zeroTable ?_ | refine wpList_store_new rfl 52 _ _ rfl (tab 3988292384) (tabk 0 0) rfl rfl (tab_fits _) (tab_old _) (tab_one _) ?_)
  have k2 := k1.step (Kept.alloc noBlock w1 (.cells (tab 3988292384) 52))
  have ht : (w1.alloc (.cells (tab 3988292384) 52)).heap[w1.heap.size]? = some (.cells (tab 3988292384) 52 (0, 0)) := heap_alloc_new _ _
  obtain ⟨T, hT⟩ : ∃ T, T = w1.heap.size := ⟨_, rfl⟩
  rw [← hT] at ht ⊢
  generalize (w1.alloc (.cells (tab 3988292384) 52)) = w2 at k2 ht ⊢
  have kW2 := kW.step k2
  have HB := Lib.hid (kW2.blk hbox (fun h => h))
  have HO := Lib.hid (own_keep hown kW2 (fun _ _ h => h))
  have HT := Lib.hid ht
  have h2 := hJ _ _ _ h0 k2
  have HL := Lib.hid hl
  have hnc : n ≤ c := by obtain ⟨_, _, e, hle⟩ := own_form hown; injection e with _ _ e; omega
  clear hbox hown ht hT kW2 k2 k1 h0 kW hl
  have HJ := Lib.hid hJ; clear hJ
  have HJx := Lib.hid hJx; clear hJx
  have HY := Lib.hid hY; clear hY
  go_loopw [4] (fun e wr => ∃ (pre : List Item) (p : Nat), e = .int .i64 (p : Int) ∧ Hid (p = (joined (rowsOf pre)).length) ∧ Hid (Parted b (rowsOf pre) (b.drop p)) ∧ p ≤ n ∧ Hid (J pre wr) ∧ Hid (wr.heap[Bb]? = some (.cells #[.slice A n c] 22 (0, 0))) ∧
      Hid (wr.ownsRow 0 5 1 (.slice A n c) n (b.map bv)) ∧ Hid (wr.heap[T]? = some (.cells (tab 3988292384) 52 (0, 0)))) (fun e _ => n - (intOf e).toNat)
  case atStart => exact ⟨[], 0, rfl, Lib.hid rfl, Lib.hid ⟨rfl, fun r h => by cases h⟩, Nat.zero_le _, Lib.hid h2, HB, HO, HT⟩
  case round =>
    clear HB HO HT h2
    obtain ⟨pre, p, rfl, HP, HQ, hpn, HJ0, HB, HO, HT⟩ := hrel
    have hcb : wr.cell? ⟨Bb, 0, none⟩ = some (.slice A n c) := cell_of_row _ _ _ _ _ _ HB.out
    have hlie := Lies.of_own (F := fun _ => True) HO.out (fun _ _ => trivial)
    have hdr : Lies wr (fun _ => True) (if c = p then A else A.map (·.add p)) ((b.drop p).map bv) := by rw [List.map_drop]; exact hlie.drop p (by rw [List.length_map, HL.out]; exact hnc)
    have hpi : (p : Int) ≤ n := by omega
    obtain ⟨A1, hA1⟩ : ∃ A1, (if c = p then A else Option.map (fun x => x.add p) A) = A1 := ⟨_, rfl⟩
    rw [hA1] at hdr
    clear hlie
    go_wp2_with fail
    refine (first_any T _ A1 (n - p) (c - p) (b.drop p) wr (fun j hj => by rw [cell_of_row _ _ _ _ _ _ HT.out]; exact tab_at _ j hj) hdr (by rw [List.length_drop, HL.out]) (by omega) (by omega)).mono ?_
    rintro e w4 ⟨A4, c4, rfl, o4, k4⟩
    obtain ⟨u, hu⟩ : ∃ u, u = rd (b.drop p) := ⟨_, rfl⟩
    rw [← hu] at o4 ⊢
    have HU := Lib.hid hu; clear hu
    have HJ4 := Lib.hid (HJ.out _ _ _ HJ0.out k4)
    have HB4 := Lib.hid (k4.blk HB.out (fun h => h))
    have HO4 := Lib.hid (own_keep HO.out k4 (fun _ _ h => h))
    have HT4 := Lib.hid (k4.blk HT.out (fun h => h))
    have R4 := Lib.hid (own_base (base' := 0) o4 (fun _ _ => Nat.zero_le _))
    clear o4 HB HO HT HJ0 hcb hdr hA1
    by_cases hz : u.2.2 = 0
    · have hok := hz
      rw [HU.out] at hok
      have hq := HQ.out.next hok
      have hle := rd_ok_le hok
      obtain ⟨r1, r2, r3⟩ := rd_ok hok
      rw [← HU.out] at hq hle r1 r2 r3
      rw [List.drop_drop] at hq
      rw [List.length_drop, HL.out] at hle
      obtain ⟨q, hqe⟩ : ∃ q, q = p + u.2.1 := ⟨_, rfl⟩
      rw [← hqe] at hq
      have hqn : q ≤ n := by omega
      have hpq : p < q := by omega
      have hadd : (p : Int) + ((u.2.1 : Nat) : Int) = (q : Int) := by omega
      have HX : Hid (Handed b pre ⟨q, A4, c4, u.1⟩ w4) := Lib.hid ⟨⟨_, by rw [rowsOf_snoc]; exact hq⟩, by
        rw [rowsOf_snoc, joined_snoc, List.length_append, frm_length, ← HP.out, hqe, r2], R4.out⟩
      have HQ2 := Lib.hid hq
      have HN := Lib.hid hqe
      clear hq r1 r2 r3 hle hqe hok
      rw [hz]
      clear hz
      go_upto_region 5 with (fail)
      refine (wpIn_wide (n := m)).1 ?_
      obtain ⟨fn, tm, asg, bod, hy, hR⟩ := HY.out pre ⟨q, A4, c4, u.1⟩ w4 HJ4.out HX.out
      dsimp only [Item.enc] at hy
      gi_wp2
      refine ⟨fun h => by simp [Fence.wide] at h, ?_⟩
      refine hR.mono ?_
      clear hR hy
      rintro e w5 (⟨rfl, hJ5, k5⟩ | ⟨rfl, hJx5⟩)
      · have HJ5 := Lib.hid hJ5; clear hJ5
        have HB5 := Lib.hid (k5.2 _ _ _ _ HB4.out (.inl rfl))
        have HO5 := Lib.hid (own_held HO4.out k5)
        have HT5 := Lib.hid (k5.2 _ _ _ _ HT4.out (.inr (.inr rfl)))
        gi_wp2
        go_wp2
        go_roundw
        case rel =>
          refine ⟨pre ++ [⟨q, A4, c4, u.1⟩], q, rfl, Lib.hid ?_, Lib.hid ?_, hqn, HJ5, HB5, HO5, HT5⟩
          · exact HX.out.end_
          · rw [rowsOf_snoc]
            exact HQ2.out
        case measure => simp [intOf]; omega
      · have HJ5 := Lib.hid hJx5; clear hJx5
        gi_wp2
        go_wp2
        refine bodyPost_ret (results_none rfl _ _ _) rfl ?_
        exact ⟨⟨_, rfl⟩, .inr ⟨_, trivial, HJ5.out⟩⟩
    · have hz2 : (((u.2.2 : Nat) : Int) == 0) = false := beq_false_of_ne (fun h => hz (by omega))
      have hF : Found b pre := ⟨b.drop p, HQ.out, by rw [← HU.out]; exact hz⟩
      have HF := Lib.hid hF; clear hF hz
      go_wp2
      refine bodyPost_ret (results_none rfl _ _ _) rfl ?_
      exact ⟨⟨_, rfl⟩, .inl ⟨pre, HF.out, HJ4.out⟩⟩

end Go.Proofs.Ythankjgebaanpaa
