/-
  The contracts of plan.baseOf and plan.endsAhead. No statement is proved here.
-/
import Derived.Test.YtollmkkbeeeccaaP11Way
namespace Go.Proofs.Ytollmkkbeeeccaa
open Go.RowKit Tot

theorem maxV_step {xs : List Int} {i : Nat} {x : Int} (h0 : 1 ≤ i) (hx : xs[i]? = some x) : maxV (xs.take (i + 1)) = max (maxV (xs.take i)) x := by
  rw [take_snoc xs i x hx]
  cases xs with
  | nil => simp at hx
  | cons a l =>
    obtain ⟨k, rfl⟩ : ∃ k, i = k + 1 := ⟨i - 1, by omega⟩
    rw [List.take_succ_cons]
    show (l.take k ++ [x]).foldl max a = _
    rw [List.foldl_append]
    rfl
theorem tosV_step {L : List RefV} {f : Int} {j : Nat} {x : RefV} (hx : L[j]? = some x) : tosV (L.take (j + 1)) f = tosV (L.take j) f ++ if x.kind = 0 ∧ x.to_ ≤ f then [x.to_] else [] := by
  unfold tosV
  rw [take_snoc L j x hx, List.filter_append, List.map_append]
  congr 1
  by_cases h : x.kind = 0 ∧ x.to_ ≤ f
  · rw [if_pos h, List.filter_cons_of_pos (by simpa using h)]; rfl
  · rw [if_neg h, List.filter_cons_of_neg (by simpa using h)]; rfl

set_option maxRecDepth 100000 in
set_option maxHeartbeats 1000000 in
theorem smax_any (F : Nat → Prop) (A : Option Addr) (n c : Nat) (xs : List Int) (w : World) (h : Lies w F A (xs.map (Value.int .i64))) (hl : n = xs.length) (hn : n ≤ 1099511627776) (h0 : 0 < n) :
    Calls Try.prog 30 #[.slice A n c] w fun e w' => e = .returned (.int .i64 (maxV xs)) ∧ w = w' := by
  obtain ⟨a, ha⟩ : ∃ a, xs[0]? = some a := ⟨_, List.getElem?_eq_getElem (by omega)⟩
  obtain ⟨ad, rfl, _, c0⟩ := h.at_ (k := 0) (u := .int .i64 a) (by rw [List.getElem?_map, ha]; rfl)
  have hn1 : ¬ ((n : Int) < 1) := by omega
  have hm1 : maxV (xs.take 1) = a := by
    cases xs with
    | nil => simp at ha
    | cons y l => simpa [maxV] using ha
  have c0 : w.cell? ad = some (.int .i64 a) := by simpa [Addr.add] using c0
  have H := Lib.hid h
  have HL := Lib.hid hl
  have HM1 := Lib.hid hm1
  clear h hl hm1 ha
  go_enter Try.func30, Try.ntmps30
  go_wp2
  clear c0
  go_loopw [3, 4] (fun v i wr => wr = w ∧ ∃ (j : Nat) (m : Int), 1 ≤ j ∧ j ≤ n ∧ v = .int .i64 m ∧ i = .int .i64 (j : Int) ∧ Hid (maxV (xs.take j) = m)) (fun _ i _ => n - (intOf i).toNat)
  case atStart => exact ⟨rfl, 1, a, by omega, by omega, rfl, rfl, HM1⟩
  case round =>
    obtain ⟨rfl, j, m, hj1, hjn, rfl, rfl, HM⟩ := hrel
    by_cases hlt : j < n
    · obtain ⟨x, hx⟩ : ∃ x, xs[j]? = some x := ⟨_, List.getElem?_eq_getElem (by have := HL.out; omega)⟩
      obtain ⟨ad', e, _, cj⟩ := H.out.at_ (k := j) (u := .int .i64 x) (by rw [List.getElem?_map, hx]; rfl)
      injection e with e
      subst e
      obtain ⟨m2, hm2⟩ : ∃ m2, m2 = max m x := ⟨_, rfl⟩
      have HM9 : Hid (maxV (xs.take (j + 1)) = m2) := by unfold Hid; rw [maxV_step hj1 hx, HM.out, hm2]
      have hm3 : max m x = m2 := hm2.symm
      clear hx hm2
      go_wp2
      go_roundw
      case rel => exact ⟨by trivial, j + 1, m2, by omega, by omega, rfl, by go_num, HM9⟩
      case measure => simp [intOf]; omega
    · obtain rfl : j = n := by omega
      have hm := HM.out
      rw [List.take_of_length_le (by have := HL.out; omega)] at hm
      have HM9 := Lib.hid hm
      clear hm
      go_wp2
      go_ret
      rw [HM9.out]
      exact ⟨rfl, rfl⟩

set_option maxRecDepth 100000 in
set_option maxHeartbeats 1000000 in
theorem base_any (F : Nat → Prop) (A : Option Addr) (n c : Nat) (f i : Int) (L : List RefV) (w : World) (h : Lies w F A (refCells L)) (hl : L.length = n) (hn : n ≤ 1099511627776) :
    Calls Try.prog 22 #[.agg #[.slice A n c, .int .i64 f], .int .i64 i] w fun e w' => e = .returned (.int .i64 (baseV L i)) ∧ Kept noBlock w w' := by
  have ka := Kept.alloc noBlock w (.cells #[.slice A n c, .int .i64 f] 27)
  have hb := heap_alloc_new w (.cells #[.slice A n c, .int .i64 f] 27)
  have H := Lib.hid (h.keep ka (fun _ _ h => h))
  have K1 := Lib.hid ka
  obtain ⟨c0, c1⟩ := pair_cells hb
  have HL := Lib.hid hl
  obtain ⟨z, hz⟩ : ∃ z, z = baseV L i := ⟨_, rfl⟩
  have HZ := Lib.hid hz
  rw [← hz]
  clear h hl ka hb hz
  go_enter Try.func22, Try.ntmps22
  go_upto_region 2 with (fail)
  generalize w.alloc (.cells #[.slice A n c, .int .i64 f] 27) = w1 at H K1 c0 c1 ⊢
  go_wp2_with fail
  clear c0 c1
  go_loopw [5, 11] (fun v ix wr => ∃ (j m : Nat) (A' : Option Addr) (c' : Nat), j ≤ n ∧ m ≤ j ∧ v = .slice A' m c' ∧ ix = .int .i64 (j : Int) ∧ Hid (m = (tosV (L.take j) i).length) ∧ Hid (wr.ownsRow w1.heap.size 3 1 (.slice A' m c') m ((tosV (L.take j) i).map (Value.int .i64))) ∧ Hid (Kept noBlock w1 wr)) (fun _ ix _ => n - (intOf ix).toNat)
  case atStart => exact ⟨0, 0, none, 0, by omega, by omega, rfl, rfl, rfl, World.ownsRow_nil _ _ _ _, Kept.refl _ _⟩
  case round =>
    obtain ⟨j, m, A', c', hjn, hmj, rfl, rfl, HM, HO, HK1⟩ := hrel
    by_cases hlt : j < n
    · obtain ⟨x, hx⟩ : ∃ x, L[j]? = some x := ⟨_, List.getElem?_eq_getElem (by have := HL.out; omega)⟩
      obtain ⟨g, o, rfl, _, cc⟩ := (H.out.keep HK1.out (fun _ _ h => h)).elem (enc := RefV.cells) ref_len (by omega) hx
      have e0 := cc 0 _ rfl
      have e1 := cc 1 _ rfl
      have e2 := cc 2 _ rfl
      have e3 := cc 3 _ rfl
      rw [Nat.add_zero] at e0
      have ST := Lib.hid (tosV_step (f := i) hx)
      clear hx cc
      go_upto_region 5 with (fail)
      have k3 := Kept.alloc noBlock wr (.cells #[.string x.name, .int .i64 x.kind, .int .i64 x.from_, .int .i64 x.to_] 37)
      have b3 := heap_alloc_new wr (.cells #[.string x.name, .int .i64 x.kind, .int .i64 x.from_, .int .i64 x.to_] 37)
      obtain ⟨C, hC⟩ : ∃ C, C = wr.heap.size := ⟨_, rfl⟩
      rw [← hC] at b3 ⊢
      generalize wr.alloc (.cells #[.string x.name, .int .i64 x.kind, .int .i64 x.from_, .int .i64 x.to_] 37) = w3 at k3 b3 ⊢
      obtain ⟨d0, d1, d2, d3⟩ := ref_cells b3
      have K3 := Lib.hid k3
      clear e0 e1 e2 e3 k3 b3 hC
      have OL := Lib.hid (own_keep HO.out K3.out (fun _ _ h => h))
      have K4 := Lib.hid (HK1.out.step K3.out)
      by_cases hkd : x.kind = 0
      · have hbq : (x.kind == 0) = true := by simpa using hkd
        by_cases hto : x.to_ ≤ i
        · have HS : Hid (tosV (L.take (j + 1)) i = tosV (L.take j) i ++ [x.to_]) := by unfold Hid; rw [ST.out, if_pos ⟨hkd, hto⟩]
          obtain ⟨es, hes⟩ : ∃ es, es = tosV (L.take j) i := ⟨_, rfl⟩
          rw [← hes] at HO HM HS OL
          clear hkd hes
          go_wp2_with (at_builtin; refine wpList_append_src rfl _ _ 70 70 rfl 3 (.int .i64 0) 1 8 Try.underlying70 Try.infoInt rfl (.slice A' m c') m (es.map (Value.int .i64)) rfl (own_base (own_keep OL.out (Kept.alloc noBlock _ _) (fun _ _ h => h)) (fun _ _ => Nat.zero_le _)) _ 1 [.int .i64 x.to_] rfl (src_new Try.underlying70 _ rfl (heap_alloc_new _ _)) ?c3 ?c4 ?_)
          case c3 => unfold maxLen; omega
          case c4 => omega
          intro A9 c9 u9 o9 k9 a9
          have ka := Kept.alloc noBlock w3 (.cells #[.int .i64 x.to_] 3)
          have NX := Lib.hid (own_next (K4.out.step ka) (own_keep OL.out ka (fun _ _ h => h)) o9 k9 a9)
          clear d0 d1 d2 d3 o9 k9 a9 ka hbq hto
          go_wp2
          go_roundw
          case rel => exact ⟨j + 1, m + 1, A9, c9, by omega, by omega, rfl, by go_num, Lib.hid (by rw [HS.out, List.length_append, HM.out]; rfl), Lib.hid (by rw [HS.out, List.map_append]; exact NX.out.1), Lib.hid NX.out.2⟩
          case measure => simp [intOf]; omega
        · have HS : Hid (tosV (L.take (j + 1)) i = tosV (L.take j) i) := by unfold Hid; rw [ST.out, if_neg (fun h => hto h.2), List.append_nil]
          clear hkd HO HK1
          go_wp2
          go_roundw
          case rel => exact ⟨j + 1, m, A', c', by omega, by omega, rfl, by go_num, Lib.hid (by rw [HS.out, HM.out]), Lib.hid (by rw [HS.out]; exact OL.out), K4⟩
          case measure => simp [intOf]; omega
      · have hbq : (x.kind == 0) = false := by simpa using hkd
        have HS : Hid (tosV (L.take (j + 1)) i = tosV (L.take j) i) := by unfold Hid; rw [ST.out, if_neg (fun h => hkd h.1), List.append_nil]
        clear hkd HO HK1
        go_wp2
        go_roundw
        case rel => exact ⟨j + 1, m, A', c', by omega, by omega, rfl, by go_num, Lib.hid (by rw [HS.out, HM.out]), Lib.hid (by rw [HS.out]; exact OL.out), K4⟩
        case measure => simp [intOf]; omega
    · obtain rfl : j = n := by omega
      have htk : L.take j = L := List.take_of_length_le (by have := HL.out; omega)
      rw [htk] at HM HO
      clear htk
      by_cases hm0 : m = 0
      · subst hm0
        have HZ9 : Hid (z = -1) := by
          unfold Hid
          rw [HZ.out]
          unfold baseV
          rw [List.eq_nil_of_length_eq_zero HM.out.symm]
          rfl
        go_wp2
        go_ret
        rw [HZ9.out]
        exact ⟨rfl, K1.out.step HK1.out⟩
      · have hmb : ((m : Int) == 0) = false := by simpa using (by omega : (m : Int) ≠ 0)
        have SM := Lib.hid (fun u => smax_any (fun _ => True) A' m c' (tosV L i) u)
        have HLI := Lib.hid (Lies.of_own HO.out (fun i _ => (trivial : (fun _ => True) i)))
        have SM1 := Lib.hid (SM.out wr HLI.out HM.out (by omega) (by omega))
        have HZ9 : Hid (z = maxV (tosV L i)) := HZ.out
        rw [← HZ9.out] at SM1
        clear SM
        go_wp2_with fail
        refine SM1.out.mono ?_
        rintro e w2 ⟨rfl, rfl⟩
        go_wp2
        go_ret
        exact ⟨rfl, K1.out.step HK1.out⟩

set_option maxRecDepth 100000 in
set_option maxHeartbeats 1000000 in
theorem ends_any (r : RefV) (b : Int) (w : World) : Calls Try.prog 24 #[r.val, .int .i64 b] w fun e w' => e = .returned (.bool (aheadV r b)) ∧ Kept noBlock w w' := by
  obtain ⟨nm, kd, a, t⟩ := r
  have K : Hid (Kept noBlock w (w.alloc (.cells #[.string nm, .int .i64 kd, .int .i64 a, .int .i64 t] 37))) := Kept.alloc _ _ _
  unfold RefV.val aheadV
  simp only
  by_cases h0 : kd = 0
  · subst h0
    rw [if_pos rfl]
    go_enter Try.func24, Try.ntmps24
    go_wp2
    go_ret
    exact ⟨rfl, K.out⟩
  · have hb : (kd == 0) = false := by simpa using h0
    rw [if_neg h0]
    by_cases h1 : t ≤ b
    · skip
      have hz : Hid (∀ q : Bool, (decide (t ≤ b) && q) = q) := fun q => by simp [h1]
      rw [hz.out]
      clear h0
      go_enter Try.func24, Try.ntmps24
      go_wp2
      go_ret
      exact ⟨by first | rfl | simp, K.out⟩
    · have hz : Hid (∀ q : Bool, (decide (t ≤ b) && q) = false) := fun q => by simp [h1]
      rw [hz.out]
      clear h0
      go_enter Try.func24, Try.ntmps24
      go_wp2
      go_ret
      exact ⟨by first | rfl | simp, K.out⟩
end Go.Proofs.Ytollmkkbeeeccaa
