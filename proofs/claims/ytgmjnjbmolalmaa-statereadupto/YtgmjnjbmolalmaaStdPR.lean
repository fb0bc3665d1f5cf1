/-
  A pair goes from a row of pairs. No statement is proved here.
-/
import Derived.Test.YtgmjnjbmolalmaaStiPR
namespace Go.Proofs.Ytgmjnjbmolalmaa.PR
open Go.RowKit

theorem zeroPr (w : World) : (zeroValue 61).run Try.prog w = .ok (.agg #[.string ByteArray.empty, .string ByteArray.empty, .bool false]) w := Try.zeroValue61 w

theorem zeroOne : ∀ v ∈ ((.agg #[.string ByteArray.empty, .string ByteArray.empty, .bool false] : Value)).cells.toList, v.oneCell' = true := by intro v hv; simp [Value.cells] at hv; rcases hv with rfl | rfl | rfl <;> rfl

set_option maxRecDepth 100000 in
set_option maxHeartbeats 2000000 in
theorem del_any (A : Option Addr) (n c i : Nat) (xs : List Value) (w : World) (h : w.ownsRow 0 61 3 (.slice A n c) n xs) (h1 : ∀ u ∈ xs, u.oneCell' = true) (hi : i < n) (hn : n ≤ 1099511627776) :
    Calls Try.prog 78 #[.slice A n c, .int .i64 (i : Int), .int .i64 ((i : Int) + 1)] w fun e w' => e = .returned (.slice A (n - 1) c) ∧
      w'.ownsRow 0 61 3 (.slice A (n - 1) c) (n - 1) (xs.take (i * 3) ++ xs.drop ((i + 1) * 3)) ∧ Kept (fun k => (Value.slice A n c).ownBlock = some k) w w' := by
  have hxl := h.1
  rcases h.2 with ⟨_, rfl⟩ | ⟨g, cap, cur, hA, _, hg, hnc, hcm, hcs, htk⟩
  · exact absurd hi (Nat.not_lt_zero _)
  injection hA with hA _ hcap
  subst hA hcap
  have hcl : cur.toList.length = c * 3 := by rw [Array.length_toList]; exact hcs
  have hcell : ∀ (j : Nat) u, xs[j]? = some u → w.cell? ⟨g, j, none⟩ = some u := fun j u hu => by
    rw [← htk, List.getElem?_take] at hu
    split at hu
    · rw [cell_of_row _ _ _ _ _ _ hg]
      simpa using hu
    · cases hu
  obtain ⟨D, hD⟩ : ∃ D, D = xs.drop ((i + 1) * 3) := ⟨_, rfl⟩
  obtain ⟨m, hm⟩ : ∃ m, m = n - (i + 1) := ⟨_, rfl⟩
  have hdl : D.length = m * 3 := by rw [hD, List.length_drop, hxl, hm, Nat.sub_mul]
  have h1d : ∀ u ∈ D, u.oneCell' = true := fun u hu => h1 u (by rw [hD] at hu; exact List.mem_of_mem_drop hu)
  have him : i + m = n - 1 := by omega
  have src : ∀ (o : Nat), (0 < m → o = (i + 1) * 3) → ∀ cc, Src Try.prog 3 30 (.slice (some ⟨g, o, none⟩) m cc) m D w.drew := fun o ho cc =>
    Src.ofSlice w.drew Try.underlying30 _ _ _ _ hdl (fun j u hu => by
      have hm0 : 0 < m := by
        rcases Nat.eq_zero_or_pos m with h0 | h0
        · have hD0 : D = [] := List.eq_nil_of_length_eq_zero (by rw [hdl, h0])
          rw [hD0] at hu
          simp at hu
        · exact h0
      have e := ho hm0
      subst e
      rw [add_plain]
      exact hcell _ u (by rw [← hu, hD, List.getElem?_drop])) h1d
  have HS := Lib.hid hcs
  have HG := Lib.hid hg
  have HT := Lib.hid htk
  have HD := Lib.hid hD
  have HDL := Lib.hid hdl
  have HCL := Lib.hid hcl
  have SRC := Lib.hid src
  have HXL := Lib.hid hxl
  have hii : (i : Int) ≤ n := by omega
  have hne : ((i : Int) == (i : Int) + 1) = false := beq_false_of_ne (by omega)
  have hw1 : (i : Int) + 1 ≤ n := by omega
  have hw2 : (0 : Int) ≤ (i : Int) + 1 := by omega
  have hw3 : ((i : Int) + 1).toNat = i + 1 := by omega
  have hw4 : (i : Int) ≤ (i : Int) + 1 := by omega
  have hw5 : (i : Int) ≤ c := by omega
  have hnci : ¬ (n = i) := by omega
  have hm2 : n - (i + 1) = m := hm.symm
  clear h hcell hg htk hcs hD hdl h1d h1 src hcl hm hxl
  have G1 : Hid (w.drew.heap[g]? = some (.cells cur.toList.toArray 61 (0, 0))) := Lib.hid HG.out
  have G2 : Hid (i * 3 + D.length ≤ cur.toList.length) := Lib.hid (by rw [HDL.out, HCL.out]; omega)
  have G3 : Hid (i + m ≤ maxLen) := Lib.hid (by unfold maxLen; omega)
  have fin : ∀ w3 (zs : List Value), zs.length = 3 → w3.heap[g]? = some (.cells (splice (splice cur.toList (i * 3) D) ((n - 1) * 3) zs).toArray 61 (0, 0)) → Kept (fun k => k = g) w w3 →
      w3.ownsRow 0 61 3 (.slice (some ⟨g, 0, none⟩) (n - 1) c) (n - 1) (xs.take (i * 3) ++ xs.drop ((i + 1) * 3)) ∧ Kept (fun k => (Value.slice (some ⟨g, 0, none⟩) n c).ownBlock = some k) w w3 := by
    intro w3 zs hz hr k
    have hxl := HXL.out
    obtain ⟨d1, d2⟩ := delN_room xs cur.toList zs (i * 3) 3 (by omega) (by rw [HCL.out]; omega) (by rw [hxl]; exact HT.out) hz
    rw [show i * 3 + 3 = (i + 1) * 3 by omega, ← HD.out, show xs.length - 3 = (n - 1) * 3 by omega] at d1 d2
    refine ⟨⟨?_, .inr ⟨g, c, _, rfl, Nat.zero_le _, hr, by omega, hcm, ?_, ?_⟩⟩, k.mono fun k _ e => by rw [e]; rfl⟩
    · rw [List.length_append, List.length_take, List.length_drop]
      omega
    · simp only [List.size_toArray]
      rw [d2, HCL.out]
    · rw [← HD.out]
      exact d1
  have FIN := Lib.hid fin; clear fin
  by_cases hc1 : c = i + 1
  · have hm0 : m = 0 := by omega
    obtain rfl : n = i + 1 := by omega
    subst hc1 hm0
    have SR := Lib.hid (SRC.out 0 (fun h => absurd h (Nat.lt_irrefl _)) 0)
    clear SRC
    go_enter Try.func78, Try.ntmps78
    go_upto_region 5 with (fail)
    go_region_law (refine step_append_room rfl (.tmp 22) (.tmp 25) 30 30 rfl 61 (.agg #[.string ByteArray.empty, .string ByteArray.empty, .bool false]) 3 40 Try.underlying30 infoPr g i (i + 1) (by simp [Act.eval, Act.put]) (.slice (some ⟨g, 0, none⟩) 0 0) (by simp [Act.eval, Act.put]) 0 D SR.out cur.toList G1.out (by omega) G2.out G3.out ?_; intro w1 R1 K1)
    have Q1 : Hid (i * 3 + 1 * ((.agg #[.string ByteArray.empty, .string ByteArray.empty, .bool false] : Value)).cells.size ≤ (splice cur.toList (i * 3) D).length) := Lib.hid (by show i * 3 + 1 * 3 ≤ _; rw [splice_len _ _ _ G2.out, HCL.out]; omega)
    have hzi : ¬ (i + 1 = i) := by omega
    go_wp2_with (with_reducible refine wpList_clear_k rfl (.tmp 31) 30 rfl 61 (.agg #[.string ByteArray.empty, .string ByteArray.empty, .bool false]) Try.underlying30 zeroPr zeroOne g (i * 3) 1 1 (by omega) rfl _ 61 R1.out Q1.out ?_)
    intro w2 zs hz R3 K2
    have F2 := Lib.hid (FIN.out w2 zs hz R3.out ((Kept.drew (fun k => k = g) w).step (K1.out.step K2.out)))
    go_wp2
    go_ret
    exact ⟨rfl, F2.out⟩
  · have SR := Lib.hid (SRC.out ((i + 1) * 3) (fun _ => rfl) (c - (i + 1)))
    clear SRC
    go_enter Try.func78, Try.ntmps78
    go_upto_region 5 with (fail)
    go_region_law (refine step_append_room rfl (.tmp 22) (.tmp 25) 30 30 rfl 61 (.agg #[.string ByteArray.empty, .string ByteArray.empty, .bool false]) 3 40 Try.underlying30 infoPr g i c (by simp [Act.eval, Act.put]) (.slice (some ⟨g, (i + 1) * 3, none⟩) m (c - (i + 1))) (by simp [Act.eval, Act.put]) m D SR.out cur.toList G1.out (by omega) G2.out G3.out ?_; intro w1 R1 K1)
    have Q1 : Hid ((n - 1) * 3 + 1 * ((.agg #[.string ByteArray.empty, .string ByteArray.empty, .bool false] : Value)).cells.size ≤ (splice cur.toList (i * 3) D).length) := Lib.hid (by show (n - 1) * 3 + 1 * 3 ≤ _; rw [splice_len _ _ _ G2.out, HCL.out]; omega)
    have hzi : ¬ (c = n - 1) := by omega
    have hz1 : n - (n - 1) = 1 := by omega
    go_wp2_with (with_reducible refine wpList_clear_k rfl (.tmp 31) 30 rfl 61 (.agg #[.string ByteArray.empty, .string ByteArray.empty, .bool false]) Try.underlying30 zeroPr zeroOne g ((n - 1) * 3) 1 (c - (n - 1)) (by omega) rfl _ 61 R1.out Q1.out ?_)
    intro w2 zs hz R3 K2
    have F2 := Lib.hid (FIN.out w2 zs hz R3.out ((Kept.drew (fun k => k = g) w).step (K1.out.step K2.out)))
    go_wp2
    go_ret
    exact ⟨rfl, F2.out⟩
end Go.Proofs.Ytgmjnjbmolalmaa.PR
