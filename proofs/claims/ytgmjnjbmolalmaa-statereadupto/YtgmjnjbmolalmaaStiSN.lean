/-
  A pair, or a session, comes into a row of such. No statement is proved here.
-/
import Derived.Test.YtgmjnjbmolalmaaStfSN
import Derived.Test.YtgmjnjbmolalmaaGrew
import Derived.Lib.Overlaps
import Derived.Deep.DeepCutAuto
namespace Go.Proofs.Ytgmjnjbmolalmaa.SN
open Go.RowKit

theorem infoPr : (Try.prog.info? 84).map (fun i => (i.zero, i.size, i.bytes)) = some (some (.agg #[.int .i64 0, .int .i64 0, .int .i64 0, .string ByteArray.empty]), 4, 40) := by kernel_rfl
theorem sizePr : (Try.prog.info? 84).map (·.size) = some 4 := by kernel_rfl

set_option maxRecDepth 100000 in
set_option maxHeartbeats 2000000 in
theorem ins_any (A : Option Addr) (n c i vb : Nat) (xs : List Value) (x : Int × (Int × RepV)) (w : World) (h : w.ownsRow 0 84 4 (.slice A n c) n xs) (h1 : ∀ u ∈ xs, u.oneCell' = true) (hi : i ≤ n) (hn : n ≤ 1099511627776)
    (hv : w.heap[vb]? = some (.cells (enc x).toArray 84 (0, 0))) (hvb : (Value.slice A n c).ownBlock ≠ some vb) :
    Calls Try.prog 69 #[.slice A n c, .int .i64 (i : Int), .slice (some ⟨vb, 0, none⟩) 1 1] w fun e w' => ∃ A' c', e = .returned (.slice A' (n + 1) c') ∧
      w'.ownsRow 0 84 4 (.slice A' (n + 1) c') (n + 1) (xs.take (i * 4) ++ (enc x ++ xs.drop (i * 4))) ∧ Grew w w' (.slice A n c) (.slice A' (n + 1) c') := by
  have hnc : n ≤ c := by obtain ⟨_, _, e, hle⟩ := own_form h; injection e with _ _ e; omega
  have hsrc : Src Try.prog 4 31 (.slice (some ⟨vb, 0, none⟩) 1 1) 1 (enc x) w :=
    Src.ofSlice w Try.underlying31 _ _ _ _ rfl (World.news_of_block hv) (enc_one x)
  have H := Lib.hid h
  have HV := Lib.hid hv
  have hxl := h.1
  clear hv
  by_cases hin : i = n
  · subst hin
    have hii : (i : Int) ≤ i := by omega
    by_cases hci : c = i
    · obtain rfl : i = c := hci.symm
      go_enter Try.func69, Try.ntmps69
      go_wp2_with (at_builtin; refine wpList_append_src rfl _ _ 31 31 rfl 84 _ 4 40 Try.underlying31 infoPr rfl (.slice A i i) i xs rfl H.out _ 1 (enc x) rfl hsrc ?c1 ?c2 ?_)
      case c1 => unfold maxLen; omega
      case c2 => left; omega
      intro A' c' w' o' k' at'
      have O' := Lib.hid o'; clear o'
      have G' := Lib.hid (Grew.mk k' at'); clear k' at'
      go_wp2
      go_ret
      refine ⟨A', c', rfl, ?_, G'.out⟩
      have e : i * 4 = xs.length := hxl.symm
      rw [e, List.take_length, List.drop_length]
      exact O'.out
    · have hcl : (i : Int) ≤ c := by omega
      go_enter Try.func69, Try.ntmps69
      go_wp2_with (at_builtin; refine wpList_append_src rfl _ _ 31 31 rfl 84 _ 4 40 Try.underlying31 infoPr rfl (.slice A i c) i xs rfl H.out _ 1 (enc x) rfl hsrc ?c3 ?c4 ?_)
      case c3 => unfold maxLen; omega
      case c4 => left; omega
      intro A' c' w' o' k' at'
      have O' := Lib.hid o'; clear o'
      have G' := Lib.hid (Grew.mk k' at'); clear k' at'
      go_wp2
      go_ret
      refine ⟨A', c', rfl, ?_, G'.out⟩
      have e : i * 4 = xs.length := hxl.symm
      rw [e, List.take_length, List.drop_length]
      exact O'.out
  · rcases h.2 with ⟨_, rfl⟩ | ⟨g, cap, cur, hA, _, hg, _, hcm, hcs, htk⟩
    · exact absurd hi (by omega)
    injection hA with hA _ hcap
    subst hA hcap
    have hlt : i < n := by omega
    have hci : ¬ (c = i) := by omega
    have hii : (i : Int) ≤ n := by omega
    have hne : ((i : Int) == (n : Int)) = false := beq_false_of_ne (by omega)
    have hcell : ∀ (j : Nat) u, xs[j]? = some u → w.cell? ⟨g, j, none⟩ = some u := fun j u hu => by
      rw [← htk, List.getElem?_take] at hu
      split at hu
      · rw [cell_of_row _ _ _ _ _ _ hg]
        simpa using hu
      · cases hu
    have hgv : g ≠ vb := fun e => hvb (by rw [e]; rfl)
    have HC := Lib.hid hcell
    have HG := Lib.hid hg
    have HT := Lib.hid htk
    have HS := Lib.hid hcs
    have hcl : cur.toList.length = c * 4 := by rw [Array.length_toList]; exact hcs
    have HSL := Lib.hid hcl; clear hcl
    clear h hcell hg htk hcs hvb hsrc
    have hdl : (xs.drop (i * 4)).length = (n - i) * 4 := by rw [List.length_drop, hxl, Nat.sub_mul]
    have h1d : ∀ u ∈ xs.drop (i * 4), u.oneCell' = true := fun u hu => h1 u (List.mem_of_mem_drop hu)
    have h1v : ∀ u ∈ (enc x), u.oneCell' = true := enc_one x
    obtain ⟨D, hD⟩ : ∃ D, D = xs.drop (i * 4) := ⟨_, rfl⟩
    rw [← hD] at hdl h1d
    have HD := Lib.hid hD; clear hD
    have H1d := Lib.hid h1d; clear h1d
    have Hdl := Lib.hid hdl; clear hdl h1
    by_cases hroom : n + 1 ≤ c
    · have hr : ¬ ((c : Int) < (n : Int) + 1) := by omega
      have hci1 : ¬ (c = i + 1) := by omega
      have hov : ∀ lb cb, (callFunc 75 #[.slice (some ⟨vb, 0, none⟩) 1 1, .slice (some ⟨g, (i + 1) * 4, none⟩) lb cb]).run Try.prog w = .ok (.value (.bool false)) w := fun lb cb => by
        rw [run_callFunc_extern Try.func75 (by kernel_rfl) (by kernel_rfl) (by kernel_rfl) (e := Extern.SlicesOverlaps.overlaps #[31, 31] #[4]) (by kernel_rfl),
          Lib.run_overlaps_apart w 31 4 84 Try.underlying31 4 Try.sizeOf84 ⟨vb, 0, none⟩ ⟨g, (i + 1) * 4, none⟩ 1 1 lb cb (Ne.symm hgv) 84 84 4 cur.size (by unfold World.shape?; rw [HV.out]; rfl) (by unfold World.shape?; rw [HG.out]) (by rw [HS.out]; omega) (frozen_of_row _ _ _ _ _ HV.out) (frozen_of_row _ _ _ _ _ HV.out)]
        rfl
      have hw1 : IntKind.i64.wrap ((i : Int) + 1) = (i : Int) + 1 := IntWalk.i64_in _ (by omega)
      have hw2 : (0 : Int) ≤ (i : Int) + 1 := by omega
      have hw4 : (i : Int) ≤ (n : Int) + 1 := by omega
      have hw3 : ((i : Int) + 1).toNat = i + 1 := by omega
      have hii2 : (i : Int) + 1 ≤ (n : Int) + 1 := by omega
      have hnc2 : (n : Int) + 1 ≤ c := by omega
      go_enter Try.func69, Try.ntmps69
      go_upto_region 15 with (simp only [hov])
      clear hov
      have S1 : Hid (w.drew.heap[g]? = some (.cells cur.toList.toArray 84 (0, 0))) := Lib.hid HG.out
      have S2 : Hid (D.length = Nat.min (n + 1 - i) (n - i) * 4) := Lib.hid (by rw [Hdl.out]; congr 1; exact (Nat.min_eq_right (by omega)).symm)
      have S3 : Hid (∀ (j : Nat) v, D[j]? = some v → w.drew.cell? ⟨g, i * 4 + j, none⟩ = some v) := Lib.hid (fun j v hv => HC.out _ v (by rw [← hv, HD.out, List.getElem?_drop]))
      have S4 : Hid ((i + 1) * 4 + D.length ≤ cur.toList.length) := Lib.hid (by rw [Hdl.out, HSL.out]; omega)
      go_region_law (refine step_copy_k rfl (.tmp 73) (.tmp 76) 31 31 rfl 84 4 Try.underlying31 sizePr g ((i + 1) * 4) (n - i) (c - (i + 1)) g (i * 4) (n + 1 - i) (c - i) (by simp [Act.eval, Act.put]) (by simp [Act.eval, Act.put]) cur.toList 84 S1.out D S2.out S3.out S4.out H1d.out ?_; intro w1 R1 K1)
      clear hw1 hw2 hw3 hw4
      have R2 := Lib.hid (K1.out.blk (show w.drew.heap[vb]? = _ from HV.out) (Ne.symm hgv))
      go_wp2_with (with_reducible refine wpList_copy_k rfl (.tmp 80) (.tmp 81) 31 31 rfl 84 4 Try.underlying31 sizePr g (i * 4) (n + 1 - i) (c - i) vb 0 1 1 rfl rfl _ 84 R1.out (enc x) ?_ ?_ ?_ h1v ?_)
      · rw [show Nat.min 1 (n + 1 - i) = 1 from Nat.min_eq_left (by omega)]
        exact enc_len x
      · intro j v hj
        rw [cell_of_row _ _ _ _ _ _ R2.out]
        simpa using hj
      · rw [splice_len _ _ _ S4.out, HSL.out, enc_len]
        omega
      intro w2 R3 K2
      have hl2 : i * 4 ≤ xs.length := by omega
      have hF : (splice (splice cur.toList ((i + 1) * 4) D) (i * 4) (enc x)).length = c * 4 := by
        rw [splice_len _ _ _ (by rw [splice_len _ _ _ S4.out, HSL.out, enc_len]; omega), splice_len _ _ _ S4.out, HSL.out]
      have FIN : Hid (w2.ownsRow 0 84 4 (.slice (some ⟨g, 0, none⟩) (n + 1) c) (n + 1) (xs.take (i * 4) ++ (enc x ++ xs.drop (i * 4))) ∧ Grew w w2 (.slice (some ⟨g, 0, none⟩) n c) (.slice (some ⟨g, 0, none⟩) (n + 1) c)) := by
        refine Lib.hid ⟨⟨?_, .inr ⟨g, c, _, rfl, Nat.zero_le _, R3.out, hroom, hcm, ?_, ?_⟩⟩, ⟨?_, fun k hk => .inl hk⟩⟩
        · simp only [List.length_append, List.length_take, List.length_drop, enc_len]
          omega
        · simpa using hF
        · have := insN_room xs cur.toList (enc x) (i * 4) hl2 (by rw [HSL.out, enc_len]; omega) (by rw [hxl]; exact HT.out)
          rw [← HD.out, enc_len, show i * 4 + 4 = (i + 1) * 4 by omega, hxl, show n * 4 + 4 = (n + 1) * 4 by omega] at this
          rw [HD.out] at this ⊢
          exact this
        · refine ((Kept.drew (fun k => k = g) w).step (K1.out.step K2.out)).mono fun k _ e => ?_
          rw [e]
          rfl
      clear hF S1 S2 S3 S4 R1 R2 R3 K1 K2
      go_wp2
      go_ret
      exact ⟨_, _, rfl, FIN.out⟩
    · have hr : ((c : Int) < (n : Int) + 1) := by omega
      obtain ⟨k, hk⟩ : ∃ k, k = n + 1 - i := ⟨_, rfl⟩
      have hkk : (n : Int) + 1 - (i : Int) = (k : Int) := by omega
      have hk0 : 0 < k := by omega
      have hik : i + k = n + 1 := by omega
      clear hk
      have Z1 : Hid ((xs.take (i * 4)).length = i * 4) := Lib.hid (by rw [List.length_take]; omega)
      go_enter Try.func69, Try.ntmps69
      go_wp2_with (at_builtin; refine wpList_append_zeros rfl _ _ 31 3 rfl 84 (.agg #[.int .i64 0, .int .i64 0, .int .i64 0, .string ByteArray.empty]) 4 40 Try.underlying31 Try.underlying3 infoPr rfl (by omega) g i c k rfl rfl (xs.take (i * 4)) Z1.out ?z2 hk0 ?z3 ?z4 ?z5 ?_)
      case z2 =>
        intro j u hu
        rw [List.getElem?_take] at hu
        split at hu
        · exact HC.out j u hu
        · cases hu
      case z3 => omega
      case z4 => unfold maxLen; omega
      case z5 => omega
      intro w1 cap cur1 R1 hc1 hc2 hc3 T1 K1 hs1
      have R2 := Lib.hid (K1.out.blk HV.out (fun h => h))
      have hcap1 : ¬ (cap = i) := by omega
      have hcap2 : (i : Int) ≤ (n : Int) + 1 := by omega
      go_wp2_with (with_reducible refine wpList_copy_k rfl (.tmp 43) (.tmp 44) 31 31 rfl 84 4 Try.underlying31 sizePr w.heap.size (i * 4) (n + 1 - i) (cap - i) vb 0 1 1 rfl rfl cur1 84 R1.out (enc x) ?_ ?_ ?_ h1v ?_)
      · rw [show Nat.min 1 (n + 1 - i) = 1 from Nat.min_eq_left (by omega)]
        rfl
      · intro j v hj
        rw [cell_of_row _ _ _ _ _ _ R2.out]
        simpa using hj
      · rw [enc_len]
        omega
      intro w2 R3 K2
      have hgw : g < w.heap.size := lt_of_blk HG.out
      have hl2 : i * 4 ≤ xs.length := by omega
      have hF1 : (splice cur1 (i * 4) (enc x)).length = cap * 4 := by rw [splice_len _ _ _ (by rw [enc_len]; omega), hc1]
      have S1 : Hid (w2.drew.heap[w.heap.size]? = some (.cells (splice cur1 (i * 4) (enc x)).toArray 84 (0, 0))) := Lib.hid R3.out
      have S2 : Hid (D.length = Nat.min (n - i) (n - i) * 4) := Lib.hid (by rw [Hdl.out]; congr 1; exact (Nat.min_self _).symm)
      have S3 : Hid (∀ (j : Nat) v, D[j]? = some v → w2.drew.cell? ⟨g, i * 4 + j, none⟩ = some v) := Lib.hid (fun j v hv => K2.out.cell (K1.out.cell (HC.out _ v (by rw [← hv, HD.out, List.getElem?_drop])) (fun h => h)) (by show ¬ g = _; omega))
      have S4 : Hid ((i + 1) * 4 + D.length ≤ (splice cur1 (i * 4) (enc x)).length) := Lib.hid (by rw [Hdl.out, hF1]; omega)
      have hF : (splice (splice cur1 (i * 4) (enc x)) ((i + 1) * 4) D).length = cap * 4 := by rw [splice_len _ _ _ S4.out, hF1]
      have HF := Lib.hid hF; clear hF
      have HF1 := Lib.hid hF1; clear hF1
      have HC1 := Lib.hid hc1; clear hc1
      obtain ⟨G, hG⟩ : ∃ G, G = w.heap.size := ⟨_, rfl⟩
      rw [← hG] at hs1 R1 R3 S1 K2 hgw ⊢
      have HGE := Lib.hid hG; clear hG
      have hw1 : IntKind.i64.wrap ((i : Int) + 1) = (i : Int) + 1 := IntWalk.i64_in _ (by omega)
      have hw2 : (0 : Int) ≤ (i : Int) + 1 := by omega
      have hw3 : ((i : Int) + 1).toNat = i + 1 := by omega
      have hw5 : ¬ (cap = i + 1) := by omega
      have hw6 : (i : Int) + 1 ≤ (n : Int) + 1 := by omega
      obtain ⟨F1, hF1⟩ : ∃ F1, F1 = splice cur1 (i * 4) (enc x) := ⟨_, rfl⟩
      rw [← hF1] at S1 S4 HF R3 HF1
      have HFE := Lib.hid hF1; clear hF1
      go_upto_region 11 with (fail)
      go_region_law (refine step_copy_k rfl (.tmp 50) (.tmp 53) 31 31 rfl 84 4 Try.underlying31 sizePr G ((i + 1) * 4) (n - i) (cap - (i + 1)) g (i * 4) (n - i) (c - i) (by simp [Act.eval, Act.put]) (by simp [Act.eval, Act.put]) F1 84 S1.out D S2.out S3.out S4.out H1d.out ?_; intro w3 R4 K3)
      have FIN : Hid (w3.ownsRow 0 84 4 (.slice (some ⟨G, 0, none⟩) (n + 1) cap) (n + 1) (xs.take (i * 4) ++ (enc x ++ xs.drop (i * 4))) ∧ Grew w w3 (.slice (some ⟨g, 0, none⟩) n c) (.slice (some ⟨G, 0, none⟩) (n + 1) cap)) := by
        refine Lib.hid ⟨⟨?_, .inr ⟨G, cap, _, rfl, Nat.zero_le _, R4.out, hc2, hc3, ?_, ?_⟩⟩, ⟨?_, fun k hk => .inr ?_⟩⟩
        · simp only [List.length_append, List.length_take, List.length_drop, enc_len]
          omega
        · simpa using HF.out
        · have := insN_grow xs cur1 (enc x) (i * 4) hl2 (by rw [HC1.out, enc_len]; omega) T1.out
          rw [← HD.out, enc_len, show i * 4 + 4 = (i + 1) * 4 by omega, hxl, show n * 4 + 4 = (n + 1) * 4 by omega, ← HFE.out] at this
          rw [HD.out] at this ⊢
          exact this
        · refine K1.out.trans (T := fun k => k = G) ((K2.out.step (Kept.drew _ w2)).step K3.out) (fun k hk e => ?_) |>.mono fun k _ h => h.elim
          have := HGE.out
          omega
        · have hk' : G = k := by simpa [Value.ownBlock] using hk
          have := K2.out.size
          have := K3.out.size
          have := HGE.out
          exact ⟨by omega, by rw [← hk']; have h9 : w2.drew.heap.size = w2.heap.size := rfl; omega⟩
      clear hw1 hw2 hw3 hw5 hw6 S1 S2 S3 S4 R1 R2 R3 R4 K1 K2 K3 HF HF1
      go_wp2
      go_ret
      exact ⟨_, _, rfl, FIN.out⟩
end Go.Proofs.Ytgmjnjbmolalmaa.SN
