/-
  The contract of plan.Unneeded. No statement is proved here.
-/
import Derived.Test.YtollmkkbeeeccaaP11Unn
namespace Go.Proofs.Ytollmkkbeeeccaa
open Go.RowKit Tot

/-- Names, as cells. -/
def nmCells (l : List ByteArray) : List Value := l.map Value.string
theorem unnL_len (lst : Option Nat) (b : Int) (L : List RefV) : (unnL lst b L).length ≤ L.length := by
  unfold unnL
  rw [List.length_map]
  exact Nat.le_trans (List.length_filter_le _ _) (by simp)

set_option maxRecDepth 100000 in
set_option maxHeartbeats 1000000 in
theorem unn_any (F : Nat → Prop) (A : Option Addr) (n c : Nat) (f i : Int) (L : List RefV) (w : World) (h : Lies w F A (refCells L)) (hl : L.length = n) (hn : n ≤ 1099511627776) :
    Calls Try.prog 16 #[.agg #[.slice A n c, .int .i64 f], .int .i64 i] w fun e w' => ∃ A' c', e = .returned (.slice A' (unnV L i).length c') ∧ w'.ownsRow w.heap.size 9 1 (.slice A' (unnV L i).length c') (unnV L i).length (nmCells (unnV L i)) ∧ Kept noBlock w w' := by
  have ka := Kept.alloc noBlock w (.cells #[.slice A n c, .int .i64 f] 27)
  have hb := heap_alloc_new w (.cells #[.slice A n c, .int .i64 f] 27)
  have H0 := h.keep ka (fun _ _ h => h)
  have BS := Lib.hid (fun u (k : Kept noBlock (w.alloc (.cells #[.slice A n c, .int .i64 f] 27)) u) => base_any F A n c f i L u (H0.keep k (fun _ _ h => h)) hl hn)
  have LS := Lib.hid (fun u (k : Kept noBlock (w.alloc (.cells #[.slice A n c, .int .i64 f] 27)) u) => last_any F A n c f L u (H0.keep k (fun _ _ h => h)) hl hn)
  have H := Lib.hid H0
  have K1 := Lib.hid ka
  obtain ⟨c0, c1⟩ := pair_cells hb
  have HL := Lib.hid hl
  have HB := Lib.hid hb
  obtain ⟨b, hbs⟩ : ∃ b, b = baseV L i := ⟨_, rfl⟩
  obtain ⟨lst, hls⟩ : ∃ lst, lst = plcO (lastV L) := ⟨_, rfl⟩
  have hz : unnV L i = unnL lst b L := by rw [unnV_eq, hbs, hls]
  rw [← hbs] at BS
  rw [← hls] at LS
  rw [hz]
  clear h hl ka hb H0 hbs hls hz
  go_enter Try.func16, Try.ntmps16
  go_upto_region 1 with (fail)
  generalize w.alloc (.cells #[.slice A n c, .int .i64 f] 27) = w1 at H K1 HB BS LS c0 c1 ⊢
  go_wp2_with fail
  refine (BS.out _ (Kept.refl _ _)).mono ?_
  rintro e w2 ⟨rfl, k2⟩
  obtain ⟨c0, c1⟩ := pair_cells (k2.blk HB.out (fun h => h))
  have K2 := Lib.hid k2
  clear k2
  go_wp2_with fail
  refine (LS.out _ K2.out).mono ?_
  rintro e w3 ⟨rfl, k3⟩
  obtain ⟨c0, c1⟩ := pair_cells ((K2.out.step k3).blk HB.out (fun h => h))
  have K3 := Lib.hid (K1.out.step (K2.out.step k3))
  have H3 := Lib.hid (H.out.keep (K2.out.step k3) (fun _ _ h => h))
  clear k3 BS LS
  go_wp2_with fail
  clear c0 c1
  go_loopw [7, 18] (fun v ix wr => ∃ (j m : Nat) (A' : Option Addr) (c' : Nat), j ≤ n ∧ m ≤ j ∧ v = .slice A' m c' ∧ ix = .int .i64 (j : Int) ∧ Hid (m = (unnL lst b (L.take j)).length) ∧ Hid (wr.ownsRow w3.heap.size 9 1 (.slice A' m c') m (nmCells (unnL lst b (L.take j)))) ∧ Hid (Kept noBlock w3 wr)) (fun _ ix _ => n - (intOf ix).toNat)
  case atStart => exact ⟨0, 0, none, 0, by omega, by omega, rfl, rfl, rfl, World.ownsRow_nil _ _ _ _, Kept.refl _ _⟩
  case round =>
    obtain ⟨j, m, A', c', hjn, hmj, rfl, rfl, HM, HO, HK1⟩ := hrel
    by_cases hlt : j < n
    · obtain ⟨x, hx⟩ : ∃ x, L[j]? = some x := ⟨_, List.getElem?_eq_getElem (by have := HL.out; omega)⟩
      obtain ⟨g, o, rfl, _, cc⟩ := (H3.out.keep HK1.out (fun _ _ h => h)).elem (enc := RefV.cells) ref_len (by omega) hx
      have e0 := cc 0 _ rfl
      have e1 := cc 1 _ rfl
      have e2 := cc 2 _ rfl
      have e3 := cc 3 _ rfl
      rw [Nat.add_zero] at e0
      have ST := Lib.hid (unnL_step (lst := lst) (b := b) hx)
      clear hx cc
      go_upto_region 7 with (fail)
      have k3 := Kept.alloc noBlock wr (.cells #[.string x.name, .int .i64 x.kind, .int .i64 x.from_, .int .i64 x.to_] 37)
      have b3 := heap_alloc_new wr (.cells #[.string x.name, .int .i64 x.kind, .int .i64 x.from_, .int .i64 x.to_] 37)
      obtain ⟨C, hC⟩ : ∃ C, C = wr.heap.size := ⟨_, rfl⟩
      rw [← hC] at b3 ⊢
      generalize wr.alloc (.cells #[.string x.name, .int .i64 x.kind, .int .i64 x.from_, .int .i64 x.to_] 37) = w4 at k3 b3 ⊢
      obtain ⟨d0, d1, d2, d3⟩ := ref_cells b3
      have K4 := Lib.hid (HK1.out.step k3)
      have HB4 := Lib.hid b3
      have OL := Lib.hid (own_keep HO.out k3 (fun _ _ h => h))
      have EN := Lib.hid (ends_any x b w4)
      obtain ⟨a, ha⟩ : ∃ a, a = aheadV x b := ⟨_, rfl⟩
      rw [← ha] at EN ST
      unfold RefV.val at EN
      clear e0 e1 e2 e3 k3 b3 hC ha
      by_cases hls : lst = some j
      · have hbq : ((j : Int) != plcI lst) = false := by rw [hls]; simp [plcI]
        have HS : Hid (unnL lst b (L.take (j + 1)) = unnL lst b (L.take j)) := by unfold Hid; rw [ST.out, if_neg (fun h => h.1 hls), List.append_nil]
        clear hls HO HK1
        go_wp2
        go_roundw
        case rel => exact ⟨j + 1, m, A', c', by omega, by omega, rfl, by go_num, Lib.hid (by rw [HS.out, HM.out]), Lib.hid (by rw [HS.out]; exact OL.out), K4⟩
        case measure => simp [intOf]; omega
      · have hbq : ((j : Int) != plcI lst) = true := by
          cases lst with
          | none => simp [plcI]
          | some k =>
            have hne : (j : Int) ≠ (k : Int) := fun e => hls (by congr 1; omega)
            simpa [plcI] using hne
        cases a with
        | false =>
          have HS : Hid (unnL lst b (L.take (j + 1)) = unnL lst b (L.take j)) := by unfold Hid; rw [ST.out, if_neg (fun h => by cases h.2), List.append_nil]
          clear hls
          go_wp2_with fail
          refine EN.out.mono ?_
          rintro e w5 ⟨rfl, k5⟩
          have K5 := Lib.hid (K4.out.step k5)
          have OL5 := Lib.hid (own_keep OL.out k5 (fun _ _ h => h))
          clear d0 d1 d2 d3 k5 EN HO HK1
          go_wp2
          go_roundw
          case rel => exact ⟨j + 1, m, A', c', by omega, by omega, rfl, by go_num, Lib.hid (by rw [HS.out, HM.out]), Lib.hid (by rw [HS.out]; exact OL5.out), K5⟩
          case measure => simp [intOf]; omega
        | true =>
          have HS : Hid (unnL lst b (L.take (j + 1)) = unnL lst b (L.take j) ++ [x.name]) := by unfold Hid; rw [ST.out, if_pos ⟨hls, rfl⟩]
          obtain ⟨es, hes⟩ : ∃ es, es = unnL lst b (L.take j) := ⟨_, rfl⟩
          rw [← hes] at HO HM HS OL
          clear hls hes
          go_wp2_with fail
          refine EN.out.mono ?_
          rintro e w5 ⟨rfl, k5⟩
          have K5 := Lib.hid (K4.out.step k5)
          have OL5 := Lib.hid (own_keep OL.out k5 (fun _ _ h => h))
          obtain ⟨d0, d1, d2, d3⟩ := ref_cells (k5.blk HB4.out (fun h => h))
          clear k5 EN HO HK1
          go_wp2_with (at_builtin; refine wpList_append_src rfl _ _ 43 43 rfl 9 (.string ⟨#[]⟩) 1 16 Try.underlying43 Try.infoStrU rfl (.slice A' m c') m (nmCells es) rfl (own_base (own_keep OL5.out (Kept.alloc noBlock _ _) (fun _ _ h => h)) (fun _ _ => Nat.zero_le _)) _ 1 [.string x.name] rfl (src_new Try.underlying43 _ rfl (heap_alloc_new _ _)) ?c3 ?c4 ?_)
          case c3 => unfold maxLen; omega
          case c4 => omega
          intro A9 c9 u9 o9 k9 a9
          have ka := Kept.alloc noBlock w5 (.cells #[.string x.name] 9)
          have NX := Lib.hid (own_next (K5.out.step ka) (own_keep OL5.out ka (fun _ _ h => h)) o9 k9 a9)
          clear d0 d1 d2 d3 o9 k9 a9 ka hbq
          go_wp2
          go_roundw
          case rel => exact ⟨j + 1, m + 1, A9, c9, by omega, by omega, rfl, by go_num, Lib.hid (by rw [HS.out, List.length_append, HM.out]; rfl), Lib.hid (by rw [HS.out]; unfold nmCells; rw [List.map_append]; exact NX.out.1), Lib.hid NX.out.2⟩
          case measure => simp [intOf]; omega
    · obtain rfl : j = n := by omega
      have htk : L.take j = L := List.take_of_length_le (by have := HL.out; omega)
      rw [htk] at HM HO
      clear htk
      go_wp2
      go_ret
      have hm := HM.out
      rw [← hm]
      exact ⟨A', c', rfl, own_base HO.out (fun i hi => Nat.le_trans K3.out.size (HO.out.lt i hi).1), K3.out.step HK1.out⟩
end Go.Proofs.Ytollmkkbeeeccaa
