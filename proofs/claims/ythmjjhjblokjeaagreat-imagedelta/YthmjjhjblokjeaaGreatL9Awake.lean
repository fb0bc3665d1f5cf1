/-
  The document's examples, as the statements of layer 9 ask them first. No statement is proved here.
-/
import Derived.Test.YthmjjhjblokjeaaGreatL9Form
import Derived.Test.YthmjjhjblokjeaaGreatI9ReadF
import Derived.Test.YthmjjhjblokjeaaGreatI9Part
namespace Go.Proofs.YthmjjhjblokjeaaGreat
open Go.RowKit Tot

def a9 : StV := ⟨3, 0, [], []⟩
theorem a9_right : a9.Right := by decide
def e9 : EntryV := ⟨5, 0, noCmd⟩
theorem e9_right : e9.Right := by decide
theorem e9_row : rowB [e9] (4 + 1) 0 = true := by decide
theorem file9_length : (fileB 4 [e9]).length = 92 := by
  rw [fileB_length]
  unfold entsB
  rw [List.flatMap_cons, List.flatMap_nil, List.append_nil, entB_length, EntryV.bytes_length]
  rfl
theorem part9 : PartOk (fileB 4 [e9]) 4 [e9] := ⟨e9_row, [], by simp, by rw [rd_nil]; decide⟩

set_option maxRecDepth 100000 in
set_option maxHeartbeats 1000000 in
theorem awake9_any (w : World) : Calls Tryz.prog 4 #[] w (Says w true) := by
  have FU : Hid (∀ u, Calls Tryz.prog 15 #[.agg #[.int .i64 3, .int .i64 0, .slice none 0 0, .slice none 0 0]] u fun e w' => ∃ P cp, e = .returned (.tuple #[.slice P 67 cp, .int .i64 0]) ∧ w'.ownsRow u.heap.size 5 1 (.slice P 67 cp) 67 ((fullB a9).map bv) ∧ Kept noBlock u w') := fun u =>
    full_any (fun _ => True) a9 none 0 none 0 32 u ⟨Lies.nil _ _ _, Lies.nil _ _ _, Nat.le_refl _, Nat.le_refl _⟩ (by decide) (by omega)
  have hfl : (fullB a9).length = 67 := by rw [fullB_length]; decide
  have RF : Hid (∀ u P cp, Lies u (fun _ => True) P ((fullB a9).map bv) → 67 ≤ cp → Calls Tryz.prog 9 #[.slice P 67 cp] u fun e w' => ∃ A c B d, e = .returned (.tuple #[.agg #[.int .i64 3, .int .i64 0, .slice A 0 c, .slice B 0 d], .int .i64 0]) ∧ Kept noBlock u w') := fun u P cp h1 h2 => by
    have h := rfull_any (fun _ => True) P 67 cp (fullB a9) u h1 hfl (by omega) h2
    rw [(okF_full a9_right).2, errF_full a9_right] at h
    refine h.mono ?_
    rintro e w' ⟨A, c, B, d, rfl, _, k⟩
    exact ⟨A, c, B, d, rfl, k⟩
  have PA := Lib.hid (fun u => part_any 4 u)
  have EN : Hid (∀ u, Calls Tryz.prog 17 #[.agg #[.int .i64 5, .int .i64 0, .int .i64 0, .int .i64 0, .int .i64 0, .string ⟨#[]⟩, .string ⟨#[]⟩, .string ⟨#[]⟩]] u fun e w' => ∃ A c, e = .returned (.slice A 66 c) ∧ w'.ownsRow u.heap.size 5 1 (.slice A 66 c) 66 ((entB e9).map bv) ∧ Kept noBlock u w') := fun u => entry_any e9 57 u (by rw [EntryV.bytes_length]; rfl) (by omega)
  have RP : Hid (∀ u P cp, Lies u (fun _ => True) P ((fileB 4 [e9]).map bv) → 92 ≤ cp → Calls Tryz.prog 10 #[.slice P 92 cp, .int .i64 4] u fun e w' => ∃ A c, e = .returned (.tuple #[.slice A 1 c, .int .i64 92, .int .i64 0]) ∧ Kept noBlock u w') := fun u P cp h1 h2 => by
    have h := rpart_any (fun _ => True) P 92 cp 4 (fileB 4 [e9]) u h1 file9_length (by omega) h2 (by omega)
    refine h.mono ?_
    rintro e w' ⟨es, k, er, A, c, rfl, (⟨rfl, rfl, hp⟩ | ⟨_, _, _, hno⟩), _, k2⟩
    · have he := hp.unique part9
      subst he
      exact ⟨A, c, by rw [show fileB ((4 : Nat) : Int) [e9] = fileB 4 [e9] from rfl, file9_length]; rfl, k2⟩
    · exact absurd part9 (hno _)
  have HFL := Lib.hid hfl
  clear hfl
  go_enter Tryz.func4, Tryz.ntmps4
  go_wp2_with fail
  refine (FU.out _).mono ?_
  rintro e w1 ⟨A1, c1, rfl, o1, k1⟩
  have L1 := Lib.hid (Lies.of_own (F := fun _ => True) o1 (fun _ _ => trivial))
  have hc1 : 67 ≤ c1 := by obtain ⟨_, _, e, hle⟩ := own_form o1; injection e with _ _ e; omega
  have K1 := Lib.hid k1
  clear o1 k1 FU
  go_wp2_with fail
  refine (RF.out w1 A1 c1 L1.out hc1).mono ?_
  rintro e w2 ⟨A, c, B, d, rfl, k2⟩
  have K2 := Lib.hid (K1.out.step k2)
  clear k2 RF L1
  go_upto_region 3 with (fail)
  have ka := Kept.alloc noBlock w2 (.cells #[.int .i64 3, .int .i64 0, .slice A 0 c, .slice B 0 d] 27)
  have ha := heap_alloc_new w2 (.cells #[.int .i64 3, .int .i64 0, .slice A 0 c, .slice B 0 d] 27)
  generalize w2.alloc (.cells #[.int .i64 3, .int .i64 0, .slice A 0 c, .slice B 0 d] 27) = w3 at ka ha ⊢
  obtain ⟨X, hX⟩ : ∃ X, X = w2.heap.size := ⟨_, rfl⟩
  rw [← hX] at ha ⊢
  have HA := Lib.hid ha
  have K3 := Lib.hid (K2.out.step ka)
  clear ka ha hX
  go_wp2_with fail
  refine (PA.out w3).mono ?_
  rintro e w4 ⟨A4, c4, rfl, o4, k4⟩
  have O4 := Lib.hid o4
  have B4 : Hid (∀ i, (Value.slice A4 26 c4).ownBlock = some i → w3.heap.size ≤ i) := fun i hi => (o4.lt i hi).1
  have K4 := Lib.hid (K3.out.step k4)
  have HA4 := Lib.hid (k4.blk HA.out (fun h => h))
  clear o4 k4 PA HA
  go_wp2_with fail
  refine (EN.out w4).mono ?_
  rintro e w5 ⟨A5, c5, rfl, o5, k5⟩
  have K5 := Lib.hid (K4.out.step k5)
  have HA5 := Lib.hid (k5.blk HA4.out (fun h => h))
  have O4' := Lib.hid (own_base (base' := 0) (own_keep O4.out k5 (fun _ _ h => h)) (fun _ _ => Nat.zero_le _))
  have hsrc : Src Tryz.prog 1 35 (.slice A5 66 c5) 66 ((entB e9).map bv) w5 := src_lies Tryz.underlying35 (Lies.of_own (F := fun _ => True) o5 (fun _ _ => trivial)) (by rw [List.length_map, entB_length, EntryV.bytes_length]; rfl) (bv_one _)
  clear o5 k5 EN O4 HA4
  go_wp2_with (at_builtin; refine wpList_append_src rfl _ _ 35 35 rfl 5 (.int .u8 0) 1 1 Tryz.underlying35 Tryz.infoU8f rfl (.slice A4 26 c4) 26 _ rfl O4'.out _ 66 ((entB e9).map bv) rfl hsrc ?c3 ?c4 ?_)
  case c3 => unfold maxLen; omega
  case c4 => omega
  intro A6 c6 w6 o6 k6 at6
  have hX6 := Lib.hid (k6.blk HA5.out (fun e => own_ne O4'.out HA5.out (by decide) e))
  have L6 : Hid (Lies w6 (fun _ => True) A6 ((fileB 4 [e9]).map bv)) := by
    have e : fileB 4 [e9] = partB 4 ++ entB e9 := by unfold fileB entsB; simp
    unfold Hid
    rw [e, List.map_append]
    exact Lies.of_own o6 (fun _ _ => trivial)
  have hc6 : 92 ≤ c6 := by obtain ⟨_, _, e, hle⟩ := own_form o6; injection e with _ _ e; omega
  have K6 : Hid (Kept noBlock w w6) := K5.out.trans k6 (fun i hi h => by
    have h1 := B4.out i h
    have h2 := K3.out.size
    omega)
  clear o6 k6 at6 hsrc O4'
  go_wp2_with fail
  refine (RP.out w6 A6 c6 L6.out hc6).mono ?_
  rintro e w7 ⟨A7, c7, rfl, k7⟩
  have K7 := Lib.hid (K6.out.step k7)
  obtain ⟨x0, x1, x2, x3⟩ := st_cells (k7.blk hX6.out (fun h => h))
  clear k7 RP
  go_wp2
  go_ret
  exact ⟨rfl, K7.out⟩
end Go.Proofs.YthmjjhjblokjeaaGreat
