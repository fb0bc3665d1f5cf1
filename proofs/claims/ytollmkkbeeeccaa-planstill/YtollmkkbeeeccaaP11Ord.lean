/-
  The contract of plan.inOrder. No statement is proved here.
-/
import Derived.Test.YtollmkkbeeeccaaP11Ins
import Derived.Test.YtollmkkbeeeccaaTail
namespace Go.Proofs.Ytollmkkbeeeccaa
open Go.RowKit Tot

/-- A row of one's own that grew. -/
theorem own_next {w wr u : World} {t : TypeId} {s m m' c c' : Nat} {A A' : Option Addr} {xs ys : List Value} (hK : Kept noBlock w wr) (h : wr.ownsRow w.heap.size t s (.slice A m c) m xs) (o : u.ownsRow 0 t s (.slice A' m' c') m' ys)
    (k : Kept (fun i => (Value.slice A m c).ownBlock = some i) wr u) (a : ∀ i, (Value.slice A' m' c').ownBlock = some i → (Value.slice A m c).ownBlock = some i ∨ fresh wr u i) : u.ownsRow w.heap.size t s (.slice A' m' c') m' ys ∧ Kept noBlock w u := by
  refine ⟨own_base o (fun i hi => ?_), hK.trans k (fun i hi e => by have := (h.lt i e).1; omega)⟩
  rcases a i hi with e | e
  · exact (h.lt i e).1
  · exact Nat.le_trans hK.size e.1
theorem ofK_step {L : List RefV} {kd : Int} {j : Nat} {x : RefV} (hx : L[j]? = some x) : ofK kd (L.take (j + 1)) = ofK kd (L.take j) ++ if x.kind = kd then [x] else [] := by
  unfold ofK
  rw [take_snoc L j x hx, List.filter_append]
  congr 1
  by_cases h : x.kind = kd
  · rw [if_pos h, List.filter_cons_of_pos (by simpa using h), List.filter_nil]
  · rw [if_neg h, List.filter_cons_of_neg (by simpa using h), List.filter_nil]

set_option maxRecDepth 100000 in
set_option maxHeartbeats 1000000 in
theorem ord_any (F : Nat → Prop) (A : Option Addr) (n c : Nat) (f kd : Int) (L : List RefV) (w : World) (h : Lies w F A (refCells L)) (hl : L.length = n) (hn : n ≤ 1099511627776) (hk : (ofK kd L).length < 20) :
    Calls Try.prog 28 #[.agg #[.slice A n c, .int .i64 f], .int .i64 kd] w fun e w' => ∃ A' c', e = .returned (.slice A' (ordK kd L).length c') ∧ w'.ownsRow w.heap.size 37 4 (.slice A' (ordK kd L).length c') (ordK kd L).length (refCells (ordK kd L)) ∧ Kept noBlock w w' := by
  have ka := Kept.alloc noBlock w (.cells #[.slice A n c, .int .i64 f] 27)
  have hb := heap_alloc_new w (.cells #[.slice A n c, .int .i64 f] 27)
  have H := Lib.hid (h.keep ka (fun _ _ h => h))
  have K1 := Lib.hid ka
  obtain ⟨c0, c1⟩ := pair_cells hb
  have HL := Lib.hid hl
  have HK := Lib.hid hk
  clear h hl ka hb hk
  go_enter Try.func28, Try.ntmps28
  go_upto_region 2 with (fail)
  generalize w.alloc (.cells #[.slice A n c, .int .i64 f] 27) = w1 at H K1 c0 c1 ⊢
  go_wp2_with fail
  clear c0 c1
  go_loopw [5, 11] (fun v i wr => ∃ (j m : Nat) (A' : Option Addr) (c' : Nat), j ≤ n ∧ m ≤ j ∧ v = .slice A' m c' ∧ i = .int .i64 (j : Int) ∧ Hid (m = (ofK kd (L.take j)).length) ∧ Hid (wr.ownsRow w1.heap.size 37 4 (.slice A' m c') m (refCells (ofK kd (L.take j)))) ∧ Hid (Kept noBlock w1 wr)) (fun _ i _ => n - (intOf i).toNat)
  case atStart => exact ⟨0, 0, none, 0, by omega, by omega, rfl, rfl, rfl, World.ownsRow_nil _ _ _ _, Kept.refl _ _⟩
  case round =>
    obtain ⟨j, m, A', c', hjn, hmj, rfl, rfl, HM, HO, HK1⟩ := hrel
    by_cases hlt : j < n
    · obtain ⟨x, hx⟩ : ∃ x, L[j]? = some x := ⟨_, List.getElem?_eq_getElem (by have := HL.out; omega)⟩
      obtain ⟨g, o, rfl, _, cc⟩ := (H.out.keep HK1.out (fun _ _ h => h)).elem (enc := RefV.cells) ref_len (by omega) hx
      have e0 := cc 0 _ rfl
      have e1 := cc 1 _ rfl
      have e2 := cc 2 _ rfl
      have e3 := cc 3 _ rfl
      rw [Nat.add_zero] at e0
      have ST := Lib.hid (ofK_step (kd := kd) hx)
      clear hx cc
      go_upto_region 5 with (fail)
      have k3 := Kept.alloc noBlock wr (.cells #[.string x.name, .int .i64 x.kind, .int .i64 x.from_, .int .i64 x.to_] 37)
      have b3 := heap_alloc_new wr (.cells #[.string x.name, .int .i64 x.kind, .int .i64 x.from_, .int .i64 x.to_] 37)
      obtain ⟨C, hC⟩ : ∃ C, C = wr.heap.size := ⟨_, rfl⟩
      rw [← hC] at b3 ⊢
      generalize wr.alloc (.cells #[.string x.name, .int .i64 x.kind, .int .i64 x.from_, .int .i64 x.to_] 37) = w3 at k3 b3 ⊢
      obtain ⟨d0, d1, d2, d3⟩ := ref_cells b3
      have K3 := Lib.hid k3
      clear e0 e1 e2 e3 k3 b3 hC
      by_cases hkd : x.kind = kd
      · have hbq : (x.kind == kd) = true := by simpa using hkd
        have HS : Hid (ofK kd (L.take (j + 1)) = ofK kd (L.take j) ++ [x]) := by unfold Hid; rw [ST.out, if_pos hkd]
        obtain ⟨es, hes⟩ : ∃ es, es = ofK kd (L.take j) := ⟨_, rfl⟩
        rw [← hes] at HO HM HS
        have OL := Lib.hid (own_keep HO.out K3.out (fun _ _ h => h))
        clear hkd hes
        go_wp2_with (at_builtin; refine wpList_append_src rfl _ _ 25 25 rfl 37 noRef.val 4 40 Try.underlying25 Try.infoRef rfl (.slice A' m c') m (refCells es) rfl (own_base (own_keep OL.out (Kept.alloc noBlock _ _) (fun _ _ h => h)) (fun _ _ => Nat.zero_le _)) _ 1 (refCells [x]) rfl (src_ref x (heap_alloc_new _ _)) ?c3 ?c4 ?_)
        case c3 => unfold maxLen; omega
        case c4 => omega
        intro A9 c9 u9 o9 k9 a9
        have ka := Kept.alloc noBlock w3 (.cells #[.string x.name, .int .i64 x.kind, .int .i64 x.from_, .int .i64 x.to_] 37)
        have NX := Lib.hid (own_next ((HK1.out.step K3.out).step ka) (own_keep OL.out ka (fun _ _ h => h)) o9 k9 a9)
        clear d0 d1 d2 d3 o9 k9 a9 ka hbq
        go_wp2
        go_roundw
        case rel => exact ⟨j + 1, m + 1, A9, c9, by omega, by omega, rfl, by go_num, Lib.hid (by rw [HS.out, List.length_append, HM.out]; rfl), Lib.hid (by rw [HS.out, refCells_append]; exact NX.out.1), Lib.hid NX.out.2⟩
        case measure => simp [intOf]; omega
      · have hbq : (x.kind == kd) = false := by simpa using hkd
        have HS : Hid (ofK kd (L.take (j + 1)) = ofK kd (L.take j)) := by unfold Hid; rw [ST.out, if_neg hkd, List.append_nil]
        have OL := Lib.hid (own_keep HO.out K3.out (fun _ _ h => h))
        have K4 := Lib.hid (HK1.out.step K3.out)
        clear hkd HO HK1
        go_wp2
        go_roundw
        case rel => exact ⟨j + 1, m, A', c', by omega, by omega, rfl, by go_num, Lib.hid (by rw [HS.out, HM.out]), Lib.hid (by rw [HS.out]; exact OL.out), K4⟩
        case measure => simp [intOf]; omega
    · obtain rfl : j = n := by omega
      have htk : L.take j = L := List.take_of_length_le (by have := HL.out; omega)
      rw [htk] at HM HO
      have SS := Lib.hid (ssort_any w1.heap.size m c' A' (ofK kd L) wr HO.out HM.out.symm (by have := HM.out; have := HK.out; omega))
      have HM2 : Hid ((ordK kd L).length = m) := by unfold Hid ordK; rw [ordV_len, HM.out]
      have OL := Lib.hid (fun i hi => (HO.out.lt i hi).1)
      clear htk HM HO
      go_wp2_with fail
      refine SS.out.mono ?_
      rintro e w2 ⟨rfl, o2, k2⟩
      have K2 : Hid (Kept noBlock w w2) := K1.out.step (HK1.out.trans k2 (fun i hi e => by have := OL.out i e; omega))
      have O2 := Lib.hid (own_base o2 (fun i hi => Nat.le_trans K1.out.size (o2.lt i hi).1))
      clear o2 k2 SS
      go_wp2
      go_ret
      rw [HM2.out]
      exact ⟨A', c', rfl, O2.out, K2.out⟩
end Go.Proofs.Ytollmkkbeeeccaa
