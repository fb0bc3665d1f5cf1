/-
  What the statements use of plans. No statement is proved here.
-/
import Derived.Test.YtollmkkbeeeccaaL11Set
import Derived.Test.YtollmkkbeeeccaaL11Awake
import Derived.Test.YtollmkkbeeeccaaL11Refs
namespace Go.Proofs.Ytollmkkbeeeccaa
open Go.RowKit Tot

theorem setS_len (rs : List RfN) : (setS rs).length ≤ 14 := by
  unfold setS
  rw [List.length_map, List.length_zipIdx, List.length_take]
  omega
theorem ofK_len (kd : Int) (L : List RefV) : (ofK kd L).length ≤ L.length := List.length_filter_le _ _
/-- The contract of plan.Of where there are few files. -/
theorem ofs_any (A : Option Addr) (n c : Nat) (f last i : Int) (L : List RefV) (w : World) (h : Lies w (fun _ => True) A (refCells L)) (hl : L.length = n) (hn : n < 20) :
    Calls Try.prog 12 #[.agg #[.slice A n c, .int .i64 f], .int .i64 last, .int .i64 i] w fun e w' => ∃ p A1 c1 A2 c2, e = .returned (.tuple #[plnv (planV L f last i).1 p A1 c1 A2 c2, .int .i64 (planV L f last i).2]) ∧ PlnAt w' w.heap.size (planV L f last i).1 p A1 c1 A2 c2 ∧ Kept noBlock w w' :=
  of_any _ A n c f last i L w h hl (by omega) (fun kd => Nat.lt_of_le_of_lt (ofK_len kd L) (by omega))
theorem planV_floor {L : List RefV} {f g n i : Int} (h : f ≤ g) (hi : ¬ i < g) : planV L g n i = planV L f n i := by
  unfold planV
  have e : (i < g ∨ n < i) = (i < f ∨ n < i) := by
    apply propext
    constructor
    · rintro (h1 | h1)
      · exact absurd h1 hi
      · exact .inr h1
    · rintro (h1 | h1)
      · exact absurd (Int.lt_of_lt_of_le h1 h) hi
      · exact .inr h1
  simp only [e]
theorem rem_num (x : UInt8) (k : Nat) (hk : 0 < k) : ∃ r : Nat, r = x.toNat % k ∧ ((x.toNat : Int)).tmod (k : Int) = (r : Int) ∧ r < k := ⟨_, rfl, rem_u8 x k, Nat.mod_lt _ hk⟩
theorem PlnAt.lies1 {w : World} {base : Nat} {P : PlnV} {p A1 : Option Addr} {c1 : Nat} {A2 : Option Addr} {c2 : Nat} (h : PlnAt w base P p A1 c1 A2 c2) : Lies w (fun _ => True) A1 (refCells P.deltas) ∧ P.deltas.length ≤ c1 := by
  refine ⟨Lies.of_rows h.deltas (fun _ _ => trivial), ?_⟩
  obtain ⟨_, _, e, hle⟩ := own_form h.deltas
  injection e with _ _ e
  omega
theorem PlnAt.lies2 {w : World} {base : Nat} {P : PlnV} {p A1 : Option Addr} {c1 : Nat} {A2 : Option Addr} {c2 : Nat} (h : PlnAt w base P p A1 c1 A2 c2) : Lies w (fun _ => True) A2 (refCells P.parts) ∧ P.parts.length ≤ c2 := by
  refine ⟨Lies.of_rows h.parts (fun _ _ => trivial), ?_⟩
  obtain ⟨_, _, e, hle⟩ := own_form h.parts
  injection e with _ _ e
  omega
theorem PtAt.isNone {w : World} {base : Nat} {p : Option Addr} {o : Option RefV} (h : PtAt w base p o) : p.isNone = o.isNone := by
  cases o with
  | none => obtain rfl : p = none := h; rfl
  | some r => obtain ⟨C, rfl, _⟩ := h; rfl
theorem dltV_len (l : List RefV) (p i : Int) : (dltV l p i).1.length ≤ l.length := by
  unfold dltV
  have : ∀ (l : List RefV) (a : List RefV × Int), (l.foldl (dltS i) a).1.length ≤ a.1.length + l.length := by
    intro l
    induction l with
    | nil => intro a; simp
    | cons x t ih =>
      intro a
      rw [List.foldl_cons]
      refine Nat.le_trans (ih _) ?_
      have : (dltS i a x).1.length ≤ a.1.length + 1 := by
        unfold dltS
        split
        · simp
        · omega
      rw [List.length_cons]
      omega
  simpa using this l ([], p)
theorem prtV_len (l : List RefV) (p n i : Int) : (prtV l p n i).1.length ≤ l.length := by
  unfold prtV
  have : ∀ (l : List (RefV × Int)) (a : List RefV × Int), (l.foldl (prtS i) a).1.length ≤ a.1.length + l.length := by
    intro l
    induction l with
    | nil => intro a; simp
    | cons x t ih =>
      intro a
      rw [List.foldl_cons]
      refine Nat.le_trans (ih _) ?_
      have : (prtS i a x).1.length ≤ a.1.length + 1 := by
        unfold prtS
        split
        · simp
        · omega
      rw [List.length_cons]
      omega
  have h := this (endsV n l) ([], p)
  rw [endsV_len] at h
  simpa using h
theorem planV_few {L : List RefV} {f n i : Int} : (planV L f n i).1.deltas.length ≤ L.length ∧ (planV L f n i).1.parts.length ≤ L.length := by
  unfold planV
  split
  · simp [noPln]
  · split
    · simp [noPln]
    · refine ⟨Nat.le_trans (dltV_len _ _ _) ?_, Nat.le_trans (prtV_len _ _ _ _) ?_⟩
      · unfold ordK; rw [ordV_len]; exact ofK_len _ _
      · unfold ordK; rw [ordV_len]; exact ofK_len _ _
end Go.Proofs.Ytollmkkbeeeccaa
