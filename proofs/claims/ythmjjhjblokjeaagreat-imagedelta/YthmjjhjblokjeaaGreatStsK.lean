/-
  Several texts, one behind the other. No statement is proved here.
-/
import Derived.Test.YthmjjhjblokjeaaGreatProg
import Derived.Test.YthmjjhjblokjeaaGreatRowK
import Derived.Test.YthmjjhjblokjeaaGreatStt
import Derived.IntWalk
import Derived.Test.YthmjjhjblokjeaaGreatSayK
import Derived.Lib.Overlaps
import Derived.Deep.DeepCutAuto
/-
  Pairs, or sessions, whose keys rise: where a key stands. No statement is proved here.
-/
namespace Go.Proofs.YthmjjhjblokjeaaGreat.SN
open Go.RowKit Srt Tot

def enc (p : Int × (Int × RepV)) : List Value := [.int .i64 p.1, .int .i64 p.2.1, .int .i64 p.2.2.err, .string p.2.2.value]
def val (p : Int × (Int × RepV)) : Value := .agg #[.int .i64 p.1, .int .i64 p.2.1, .int .i64 p.2.2.err, .string p.2.2.value]
theorem enc_len (p : Int × (Int × RepV)) : (enc p).length = 4 := rfl
theorem enc_one (p : Int × (Int × RepV)) : ∀ u ∈ enc p, u.oneCell' = true := by
  intro u hu
  simp only [enc, List.mem_cons, List.not_mem_nil, or_false] at hu
  rcases hu with rfl | rfl | rfl | rfl <;> rfl
def cells (L : List (Int × (Int × RepV))) : List Value := flat enc L
theorem cells_one (L : List (Int × (Int × RepV))) : ∀ u ∈ cells L, u.oneCell' = true := flat_one' enc_one L
theorem cells_len (L : List (Int × (Int × RepV))) : (cells L).length = L.length * 4 := flat_len enc_len L
def ek : Int → Value := Value.int .i64
def cmpr (x y : Int) : Int := if lt x y = true then -1 else if lt y x = true then 1 else 0

set_option maxRecDepth 100000 in
set_option maxHeartbeats 1000000 in
theorem cmp_any (x y : Int) (w : World) : Calls Tryz.prog 105 #[ek x, ek y] w fun e w' => e = .returned (.int .i64 (cmpr x y)) ∧ w = w' := by
  unfold ek
  cases h1 : lt x y with
  | true =>
    have hv : cmpr x y = -1 := by unfold cmpr; rw [if_pos h1]
    rw [hv]
    have f1 : x < y := by simpa [lt] using h1
    clear h1 hv
    go_enter Tryz.func105, Tryz.ntmps105
    go_wp2
    go_ret
    exact ⟨rfl, rfl⟩
  | false =>
    cases h2 : lt y x with
    | true =>
      have hv : cmpr x y = 1 := by unfold cmpr; rw [if_neg (by rw [h1]; simp), if_pos h2]
      rw [hv]
      have f2 : ¬ x < y := by simpa [lt] using h1
      have f3 : y < x := by simpa [lt] using h2
      clear h1 h2 hv
      go_enter Tryz.func105, Tryz.ntmps105
      go_wp2
      go_ret
      exact ⟨rfl, rfl⟩
    | false =>
      have hv : cmpr x y = 0 := by unfold cmpr; rw [if_neg (by rw [h1]; simp), if_neg (by rw [h2]; simp)]
      rw [hv]
      obtain rfl := tot h1 h2
      have f4 : True := trivial
      clear h1 h2 hv
      go_enter Tryz.func105, Tryz.ntmps105
      go_wp2
      go_ret
      exact ⟨rfl, rfl⟩

set_option maxRecDepth 100000 in
set_option maxHeartbeats 1000000 in
theorem cl_any (p : Int × (Int × RepV)) (k : Int) (w : World) : Calls Tryz.prog 104 #[val p, ek k] w fun e w' => e = .returned (.int .i64 (cmpr p.1 k)) ∧ Kept noBlock w w' := by
  have HC := Lib.hid (cmp_any p.1 k)
  obtain ⟨r, hr⟩ : ∃ r, r = cmpr p.1 k := ⟨_, rfl⟩
  rw [← hr] at HC ⊢
  clear hr
  unfold ek at *
  unfold val
  go_enter Tryz.func104, Tryz.ntmps104
  go_wp2_with fail
  refine (HC.out _).mono ?_
  rintro e w1 ⟨rfl, rfl⟩
  go_wp2
  go_ret
  exact ⟨rfl, Kept.alloc _ _ _⟩

set_option maxRecDepth 100000 in
set_option maxHeartbeats 1000000 in
theorem bs_any (F : Nat → Prop) (a : Option Addr) (n c : Nat) (L : List (Int × (Int × RepV))) (k : Int) (w : World) (h : Lies w F a (cells L)) (hl : L.length = n) (hc : n ≤ c) (hn : n ≤ 1099511627776) (hu : Up L) :
    Calls Tryz.prog 103 #[.slice a n c, ek k, .func (.func 104) #[] #[]] w fun e w' => e = .returned (.tuple #[.int .i64 (pos L k : Nat), .bool (has L k)]) ∧ Kept noBlock w w' := by
  have H := Lib.hid h; clear h
  have HL := Lib.hid hl; clear hl
  have HU := Lib.hid hu; clear hu
  obtain ⟨kv, hkv⟩ : ∃ kv, kv = ek k := ⟨_, rfl⟩
  rw [← hkv]
  have HK := Lib.hid hkv; clear hkv
  go_enter Tryz.func103, Tryz.ntmps103
  go_wp2
  go_loopw [9, 10] (fun p q wr => ∃ (i j : Nat), p = .int .i64 (i : Int) ∧ q = .int .i64 (j : Int) ∧ i ≤ j ∧ j ≤ n ∧ Hid (∀ (m : Nat) (x : Int × (Int × RepV)), m < i → L[m]? = some x → lt x.1 k = true) ∧ Hid (∀ x : Int × (Int × RepV), L[j]? = some x → lt x.1 k = false) ∧ Hid (Kept noBlock w wr)) (fun p q _ => (intOf q).toNat - (intOf p).toNat)
  case atStart => exact ⟨0, n, rfl, rfl, Nat.zero_le _, Nat.le_refl _, Lib.hid (fun m x hm => absurd hm (Nat.not_lt_zero _)), Lib.hid (fun x hx => by rw [List.getElem?_eq_none (by rw [HL.out]; exact Nat.le_refl _)] at hx; cases hx), Lib.hid (Kept.refl _ _)⟩
  case round =>
    obtain ⟨i, j, rfl, rfl, hij, hjn, H1, H2, HW⟩ := hrel
    by_cases hlt : i < j
    · obtain ⟨m, hm⟩ : ∃ m, m = (i + j) / 2 := ⟨_, rfl⟩
      have hm1 : i ≤ m := by omega
      have hm2 : m < j := by omega
      have hq : ((i : Int) + (j : Int)) / 2 = (m : Int) := by omega
      obtain ⟨x, hx⟩ : ∃ x, L[m]? = some x := ⟨L[m]'(by rw [HL.out]; omega), List.getElem?_eq_getElem _⟩
      obtain ⟨g, o, rfl, _, cc⟩ := (H.out.keep HW.out (fun _ _ h => h)).elem enc_len (by omega) hx
      have c0 := cc 0 _ rfl; rw [Nat.add_zero] at c0; have c1 := cc 1 _ rfl; have c2 := cc 2 _ rfl; have c3 := cc 3 _ rfl
      clear cc
      have HX := Lib.hid hx; clear hx hm
      have hmn : m < n := by omega
      have HC := Lib.hid (cl_any x k)
      unfold val at HC
      obtain ⟨r, hr⟩ : ∃ r, r = cmpr x.1 k := ⟨_, rfl⟩
      rw [← hr, ← HK.out] at HC
      have HR := Lib.hid hr; clear hr
      go_wp2_with fail
      refine (HC.out _).mono ?_
      rintro e w1 ⟨rfl, k1⟩
      have HW1 := Lib.hid (HW.out.step k1); clear k1 HC
      by_cases hlx : lt x.1 k = true
      · have hr : r = -1 := by rw [HR.out]; unfold cmpr; rw [if_pos hlx]
        have H1' : Hid (∀ (q : Nat) (y : Int × (Int × RepV)), q < m + 1 → L[q]? = some y → lt y.1 k = true) := Lib.hid (fun q y hq hy => by
          rcases Nat.lt_or_ge q m with h | h
          · exact tr (HU.out.get h hy HX.out) hlx
          · have : q = m := by omega
            subst this
            rw [HX.out] at hy
            injection hy with hy
            rw [← hy]
            exact hlx)
        clear hlx HR
        subst hr
        go_wp2
        go_roundw
        case rel => exact ⟨m + 1, j, by go_num, rfl, by omega, hjn, H1', H2, HW1⟩
        case measure => simp [intOf]; omega
      · have hr : ¬ r < 0 := by rw [HR.out]; unfold cmpr; rw [if_neg hlx]; split <;> omega
        have H2' : Hid (∀ y : Int × (Int × RepV), L[m]? = some y → lt y.1 k = false) := Lib.hid (fun y hy => by
          rw [HX.out] at hy
          injection hy with hy
          rw [← hy]
          simpa using hlx)
        clear hlx HR
        go_wp2
        go_roundw
        case rel => exact ⟨i, m, rfl, rfl, hm1, by omega, H1, H2', HW1⟩
        case measure => simp [intOf]; omega
    · obtain rfl : i = j := by omega
      have HP : Hid (pos L k = i) := Lib.hid (pos_eq (by rw [HL.out]; exact hjn) H1.out H2.out)
      by_cases hin : i < n
      · obtain ⟨x, hx⟩ : ∃ x, L[i]? = some x := ⟨L[i]'(by rw [HL.out]; omega), List.getElem?_eq_getElem _⟩
        obtain ⟨g, o, rfl, _, cc⟩ := (H.out.keep HW.out (fun _ _ h => h)).elem enc_len (by omega) hx
        have c0 := cc 0 _ rfl; rw [Nat.add_zero] at c0; have c1 := cc 1 _ rfl; have c2 := cc 2 _ rfl; have c3 := cc 3 _ rfl
        clear cc
        have HX := Lib.hid hx; clear hx
        have HC := Lib.hid (cl_any x k)
        unfold val at HC
        obtain ⟨r, hr⟩ : ∃ r, r = cmpr x.1 k := ⟨_, rfl⟩
        rw [← hr, ← HK.out] at HC
        have HR := Lib.hid hr; clear hr
        go_wp2_with fail
        refine (HC.out _).mono ?_
        rintro e w1 ⟨rfl, k1⟩
        have HW1 := Lib.hid (HW.out.step k1); clear k1 HC
        have hh : has L k = (r == 0) := by
          have hlx := H2.out x HX.out
          have e1 : Srt.look L k = if x.1 = k then some x.2 else none := by rw [look_at HU.out, HP.out, HX.out]; rfl
          have e2 : r = if lt k x.1 = true then 1 else 0 := by rw [HR.out]; unfold cmpr; rw [if_neg (by rw [hlx]; simp)]
          unfold has
          rw [e1]
          by_cases e : x.1 = k
          · have : lt k x.1 = false := by rw [e]; exact irr k
            rw [if_pos e, e2, this]
            rfl
          · rw [if_neg e, e2, if_pos (lt_of_ne hlx e)]
            rfl
        have HH := Lib.hid hh; clear hh HR
        go_wp2
        go_ret2
        exact ⟨by rw [HP.out, HH.out]; rfl, HW1.out⟩
      · have hh : has L k = false := by
          unfold has
          rw [look_at HU.out, HP.out, List.getElem?_eq_none (by rw [HL.out]; omega)]
          rfl
        have HH := Lib.hid hh; clear hh
        obtain rfl : i = n := by omega
        go_wp2
        go_ret2
        exact ⟨by rw [HP.out, HH.out]; rfl, HW.out⟩

set_option maxRecDepth 100000 in
set_option maxHeartbeats 1000000 in
theorem find_any (F : Nat → Prop) (a : Option Addr) (n c : Nat) (L : List (Int × (Int × RepV))) (k : Int) (w : World) (h : Lies w F a (cells L)) (hl : L.length = n) (hc : n ≤ c) (hn : n ≤ 1099511627776) (hu : Up L) :
    Calls Tryz.prog 93 #[.slice a n c, ek k] w fun e w' => e = .returned (.tuple #[.int .i64 (pos L k : Nat), .bool (has L k)]) ∧ Kept noBlock w w' := by
  have HB := Lib.hid (bs_any F a n c L k w h hl hc hn hu)
  clear h hl hu
  generalize ek k = kv at HB ⊢
  go_enter Tryz.func93, Tryz.ntmps93
  go_wp2_with fail
  refine HB.out.mono ?_
  rintro e w1 ⟨rfl, k1⟩
  go_wp2
  go_ret2
  exact ⟨rfl, k1⟩
end Go.Proofs.YthmjjhjblokjeaaGreat.SN

/-
  A pair, or a session, comes into a row of such. No statement is proved here.
-/
namespace Go.Proofs.YthmjjhjblokjeaaGreat.SN
open Go.RowKit

theorem infoPr : (Tryz.prog.info? 63).map (fun i => (i.zero, i.size, i.bytes)) = some (some (.agg #[.int .i64 0, .int .i64 0, .int .i64 0, .string ByteArray.empty]), 4, 40) := by kernel_rfl
theorem sizePr : (Tryz.prog.info? 63).map (·.size) = some 4 := by kernel_rfl

set_option maxRecDepth 100000 in
set_option maxHeartbeats 2000000 in
theorem ins_any (A : Option Addr) (n c i vb : Nat) (xs : List Value) (x : Int × (Int × RepV)) (w : World) (h : w.ownsRow 0 63 4 (.slice A n c) n xs) (h1 : ∀ u ∈ xs, u.oneCell' = true) (hi : i ≤ n) (hn : n ≤ 1099511627776)
    (hv : w.heap[vb]? = some (.cells (enc x).toArray 63 (0, 0))) (hvb : (Value.slice A n c).ownBlock ≠ some vb) :
    Calls Tryz.prog 94 #[.slice A n c, .int .i64 (i : Int), .slice (some ⟨vb, 0, none⟩) 1 1] w fun e w' => ∃ A' c', e = .returned (.slice A' (n + 1) c') ∧
      w'.ownsRow 0 63 4 (.slice A' (n + 1) c') (n + 1) (xs.take (i * 4) ++ (enc x ++ xs.drop (i * 4))) ∧ Grew w w' (.slice A n c) (.slice A' (n + 1) c') := by
  have hnc : n ≤ c := by obtain ⟨_, _, e, hle⟩ := own_form h; injection e with _ _ e; omega
  have hsrc : Src Tryz.prog 4 25 (.slice (some ⟨vb, 0, none⟩) 1 1) 1 (enc x) w :=
    Src.ofSlice w Tryz.underlying25 _ _ _ _ rfl (World.news_of_block hv) (enc_one x)
  have H := Lib.hid h
  have HV := Lib.hid hv
  have hxl := h.1
  clear hv
  by_cases hin : i = n
  · subst hin
    have hii : (i : Int) ≤ i := by omega
    by_cases hci : c = i
    · obtain rfl : i = c := hci.symm
      go_enter Tryz.func94, Tryz.ntmps94
      go_wp2_with (at_builtin; refine wpList_append_src rfl _ _ 25 25 rfl 63 _ 4 40 Tryz.underlying25 infoPr rfl (.slice A i i) i xs rfl H.out _ 1 (enc x) rfl hsrc ?c1 ?c2 ?_)
      case c1 => unfold maxLen; omega
      case c2 => left; omega
      intro A' c' w' o' k' at'
      have O' := Lib.hid o'; clear o'
      have G' := Lib.hid (Grew.mk k' at'); clear k' at'
      go_wp2
      go_ret
      refine ⟨A', c', rfl, ?_, G'.out⟩
      have e : i * 4 = xs.length := hxl.symm
      rw [e, List.take_length, List.drop_length]
      exact O'.out
    · have hcl : (i : Int) ≤ c := by omega
      go_enter Tryz.func94, Tryz.ntmps94
      go_wp2_with (at_builtin; refine wpList_append_src rfl _ _ 25 25 rfl 63 _ 4 40 Tryz.underlying25 infoPr rfl (.slice A i c) i xs rfl H.out _ 1 (enc x) rfl hsrc ?c3 ?c4 ?_)
      case c3 => unfold maxLen; omega
      case c4 => left; omega
      intro A' c' w' o' k' at'
      have O' := Lib.hid o'; clear o'
      have G' := Lib.hid (Grew.mk k' at'); clear k' at'
      go_wp2
      go_ret
      refine ⟨A', c', rfl, ?_, G'.out⟩
      have e : i * 4 = xs.length := hxl.symm
      rw [e, List.take_length, List.drop_length]
      exact O'.out
  · rcases h.2 with ⟨_, rfl⟩ | ⟨g, cap, cur, hA, _, hg, _, hcm, hcs, htk⟩
    · exact absurd hi (by omega)
    injection hA with hA _ hcap
    subst hA hcap
    have hlt : i < n := by omega
    have hci : ¬ (c = i) := by omega
    have hii : (i : Int) ≤ n := by omega
    have hne : ((i : Int) == (n : Int)) = false := beq_false_of_ne (by omega)
    have hcell : ∀ (j : Nat) u, xs[j]? = some u → w.cell? ⟨g, j, none⟩ = some u := fun j u hu => by
      rw [← htk, List.getElem?_take] at hu
      split at hu
      · rw [cell_of_row _ _ _ _ _ _ hg]
        simpa using hu
      · cases hu
    have hgv : g ≠ vb := fun e => hvb (by rw [e]; rfl)
    have HC := Lib.hid hcell
    have HG := Lib.hid hg
    have HT := Lib.hid htk
    have HS := Lib.hid hcs
    have hcl : cur.toList.length = c * 4 := by rw [Array.length_toList]; exact hcs
    have HSL := Lib.hid hcl; clear hcl
    clear h hcell hg htk hcs hvb hsrc
    have hdl : (xs.drop (i * 4)).length = (n - i) * 4 := by rw [List.length_drop, hxl, Nat.sub_mul]
    have h1d : ∀ u ∈ xs.drop (i * 4), u.oneCell' = true := fun u hu => h1 u (List.mem_of_mem_drop hu)
    have h1v : ∀ u ∈ (enc x), u.oneCell' = true := enc_one x
    obtain ⟨D, hD⟩ : ∃ D, D = xs.drop (i * 4) := ⟨_, rfl⟩
    rw [← hD] at hdl h1d
    have HD := Lib.hid hD; clear hD
    have H1d := Lib.hid h1d; clear h1d
    have Hdl := Lib.hid hdl; clear hdl h1
    by_cases hroom : n + 1 ≤ c
    · have hr : ¬ ((c : Int) < (n : Int) + 1) := by omega
      have hci1 : ¬ (c = i + 1) := by omega
      have hov : ∀ lb cb, (callFunc 106 #[.slice (some ⟨vb, 0, none⟩) 1 1, .slice (some ⟨g, (i + 1) * 4, none⟩) lb cb]).run Tryz.prog w = .ok (.value (.bool false)) w := fun lb cb => by
        rw [run_callFunc_extern Tryz.func106 (by kernel_rfl) (by kernel_rfl) (by kernel_rfl) (e := Extern.SlicesOverlaps.overlaps #[25, 25] #[4]) (by kernel_rfl),
          Lib.run_overlaps_apart w 25 4 63 Tryz.underlying25 4 Tryz.sizeOf63 ⟨vb, 0, none⟩ ⟨g, (i + 1) * 4, none⟩ 1 1 lb cb (Ne.symm hgv) 63 63 4 cur.size (by unfold World.shape?; rw [HV.out]; rfl) (by unfold World.shape?; rw [HG.out]) (by rw [HS.out]; omega) (frozen_of_row _ _ _ _ _ HV.out) (frozen_of_row _ _ _ _ _ HV.out)]
        rfl
      have hw1 : IntKind.i64.wrap ((i : Int) + 1) = (i : Int) + 1 := IntWalk.i64_in _ (by omega)
      have hw2 : (0 : Int) ≤ (i : Int) + 1 := by omega
      have hw4 : (i : Int) ≤ (n : Int) + 1 := by omega
      have hw3 : ((i : Int) + 1).toNat = i + 1 := by omega
      have hii2 : (i : Int) + 1 ≤ (n : Int) + 1 := by omega
      have hnc2 : (n : Int) + 1 ≤ c := by omega
      go_enter Tryz.func94, Tryz.ntmps94
      go_upto_region 15 with (simp only [hov])
      clear hov
      have S1 : Hid (w.drew.heap[g]? = some (.cells cur.toList.toArray 63 (0, 0))) := Lib.hid HG.out
      have S2 : Hid (D.length = Nat.min (n + 1 - i) (n - i) * 4) := Lib.hid (by rw [Hdl.out]; congr 1; exact (Nat.min_eq_right (by omega)).symm)
      have S3 : Hid (∀ (j : Nat) v, D[j]? = some v → w.drew.cell? ⟨g, i * 4 + j, none⟩ = some v) := Lib.hid (fun j v hv => HC.out _ v (by rw [← hv, HD.out, List.getElem?_drop]))
      have S4 : Hid ((i + 1) * 4 + D.length ≤ cur.toList.length) := Lib.hid (by rw [Hdl.out, HSL.out]; omega)
      go_region_law (refine step_copy_k rfl (.tmp 73) (.tmp 76) 25 25 rfl 63 4 Tryz.underlying25 sizePr g ((i + 1) * 4) (n - i) (c - (i + 1)) g (i * 4) (n + 1 - i) (c - i) (by simp [Act.eval, Act.put]) (by simp [Act.eval, Act.put]) cur.toList 63 S1.out D S2.out S3.out S4.out H1d.out ?_; intro w1 R1 K1)
      clear hw1 hw2 hw3 hw4
      have R2 := Lib.hid (K1.out.blk (show w.drew.heap[vb]? = _ from HV.out) (Ne.symm hgv))
      go_wp2_with (with_reducible refine wpList_copy_k rfl (.tmp 80) (.tmp 81) 25 25 rfl 63 4 Tryz.underlying25 sizePr g (i * 4) (n + 1 - i) (c - i) vb 0 1 1 rfl rfl _ 63 R1.out (enc x) ?_ ?_ ?_ h1v ?_)
      · rw [show Nat.min 1 (n + 1 - i) = 1 from Nat.min_eq_left (by omega)]
        exact enc_len x
      · intro j v hj
        rw [cell_of_row _ _ _ _ _ _ R2.out]
        simpa using hj
      · rw [splice_len _ _ _ S4.out, HSL.out, enc_len]
        omega
      intro w2 R3 K2
      have hl2 : i * 4 ≤ xs.length := by omega
      have hF : (splice (splice cur.toList ((i + 1) * 4) D) (i * 4) (enc x)).length = c * 4 := by
        rw [splice_len _ _ _ (by rw [splice_len _ _ _ S4.out, HSL.out, enc_len]; omega), splice_len _ _ _ S4.out, HSL.out]
      have FIN : Hid (w2.ownsRow 0 63 4 (.slice (some ⟨g, 0, none⟩) (n + 1) c) (n + 1) (xs.take (i * 4) ++ (enc x ++ xs.drop (i * 4))) ∧ Grew w w2 (.slice (some ⟨g, 0, none⟩) n c) (.slice (some ⟨g, 0, none⟩) (n + 1) c)) := by
        refine Lib.hid ⟨⟨?_, .inr ⟨g, c, _, rfl, Nat.zero_le _, R3.out, hroom, hcm, ?_, ?_⟩⟩, ⟨?_, fun k hk => .inl hk⟩⟩
        · simp only [List.length_append, List.length_take, List.length_drop, enc_len]
          omega
        · simpa using hF
        · have := insN_room xs cur.toList (enc x) (i * 4) hl2 (by rw [HSL.out, enc_len]; omega) (by rw [hxl]; exact HT.out)
          rw [← HD.out, enc_len, show i * 4 + 4 = (i + 1) * 4 by omega, hxl, show n * 4 + 4 = (n + 1) * 4 by omega] at this
          rw [HD.out] at this ⊢
          exact this
        · refine ((Kept.drew (fun k => k = g) w).step (K1.out.step K2.out)).mono fun k _ e => ?_
          rw [e]
          rfl
      clear hF S1 S2 S3 S4 R1 R2 R3 K1 K2
      go_wp2
      go_ret
      exact ⟨_, _, rfl, FIN.out⟩
    · have hr : ((c : Int) < (n : Int) + 1) := by omega
      obtain ⟨k, hk⟩ : ∃ k, k = n + 1 - i := ⟨_, rfl⟩
      have hkk : (n : Int) + 1 - (i : Int) = (k : Int) := by omega
      have hk0 : 0 < k := by omega
      have hik : i + k = n + 1 := by omega
      clear hk
      have Z1 : Hid ((xs.take (i * 4)).length = i * 4) := Lib.hid (by rw [List.length_take]; omega)
      go_enter Tryz.func94, Tryz.ntmps94
      go_wp2_with (at_builtin; refine wpList_append_zeros rfl _ _ 25 3 rfl 63 (.agg #[.int .i64 0, .int .i64 0, .int .i64 0, .string ByteArray.empty]) 4 40 Tryz.underlying25 Tryz.underlying3 infoPr rfl (by omega) g i c k rfl rfl (xs.take (i * 4)) Z1.out ?z2 hk0 ?z3 ?z4 ?z5 ?_)
      case z2 =>
        intro j u hu
        rw [List.getElem?_take] at hu
        split at hu
        · exact HC.out j u hu
        · cases hu
      case z3 => omega
      case z4 => unfold maxLen; omega
      case z5 => omega
      intro w1 cap cur1 R1 hc1 hc2 hc3 T1 K1 hs1
      have R2 := Lib.hid (K1.out.blk HV.out (fun h => h))
      have hcap1 : ¬ (cap = i) := by omega
      have hcap2 : (i : Int) ≤ (n : Int) + 1 := by omega
      go_wp2_with (with_reducible refine wpList_copy_k rfl (.tmp 43) (.tmp 44) 25 25 rfl 63 4 Tryz.underlying25 sizePr w.heap.size (i * 4) (n + 1 - i) (cap - i) vb 0 1 1 rfl rfl cur1 63 R1.out (enc x) ?_ ?_ ?_ h1v ?_)
      · rw [show Nat.min 1 (n + 1 - i) = 1 from Nat.min_eq_left (by omega)]
        rfl
      · intro j v hj
        rw [cell_of_row _ _ _ _ _ _ R2.out]
        simpa using hj
      · rw [enc_len]
        omega
      intro w2 R3 K2
      have hgw : g < w.heap.size := lt_of_blk HG.out
      have hl2 : i * 4 ≤ xs.length := by omega
      have hF1 : (splice cur1 (i * 4) (enc x)).length = cap * 4 := by rw [splice_len _ _ _ (by rw [enc_len]; omega), hc1]
      have S1 : Hid (w2.drew.heap[w.heap.size]? = some (.cells (splice cur1 (i * 4) (enc x)).toArray 63 (0, 0))) := Lib.hid R3.out
      have S2 : Hid (D.length = Nat.min (n - i) (n - i) * 4) := Lib.hid (by rw [Hdl.out]; congr 1; exact (Nat.min_self _).symm)
      have S3 : Hid (∀ (j : Nat) v, D[j]? = some v → w2.drew.cell? ⟨g, i * 4 + j, none⟩ = some v) := Lib.hid (fun j v hv => K2.out.cell (K1.out.cell (HC.out _ v (by rw [← hv, HD.out, List.getElem?_drop])) (fun h => h)) (by show ¬ g = _; omega))
      have S4 : Hid ((i + 1) * 4 + D.length ≤ (splice cur1 (i * 4) (enc x)).length) := Lib.hid (by rw [Hdl.out, hF1]; omega)
      have hF : (splice (splice cur1 (i * 4) (enc x)) ((i + 1) * 4) D).length = cap * 4 := by rw [splice_len _ _ _ S4.out, hF1]
      have HF := Lib.hid hF; clear hF
      have HF1 := Lib.hid hF1; clear hF1
      have HC1 := Lib.hid hc1; clear hc1
      obtain ⟨G, hG⟩ : ∃ G, G = w.heap.size := ⟨_, rfl⟩
      rw [← hG] at hs1 R1 R3 S1 K2 hgw ⊢
      have HGE := Lib.hid hG; clear hG
      have hw1 : IntKind.i64.wrap ((i : Int) + 1) = (i : Int) + 1 := IntWalk.i64_in _ (by omega)
      have hw2 : (0 : Int) ≤ (i : Int) + 1 := by omega
      have hw3 : ((i : Int) + 1).toNat = i + 1 := by omega
      have hw5 : ¬ (cap = i + 1) := by omega
      have hw6 : (i : Int) + 1 ≤ (n : Int) + 1 := by omega
      obtain ⟨F1, hF1⟩ : ∃ F1, F1 = splice cur1 (i * 4) (enc x) := ⟨_, rfl⟩
      rw [← hF1] at S1 S4 HF R3 HF1
      have HFE := Lib.hid hF1; clear hF1
      go_upto_region 11 with (fail)
      go_region_law (refine step_copy_k rfl (.tmp 50) (.tmp 53) 25 25 rfl 63 4 Tryz.underlying25 sizePr G ((i + 1) * 4) (n - i) (cap - (i + 1)) g (i * 4) (n - i) (c - i) (by simp [Act.eval, Act.put]) (by simp [Act.eval, Act.put]) F1 63 S1.out D S2.out S3.out S4.out H1d.out ?_; intro w3 R4 K3)
      have FIN : Hid (w3.ownsRow 0 63 4 (.slice (some ⟨G, 0, none⟩) (n + 1) cap) (n + 1) (xs.take (i * 4) ++ (enc x ++ xs.drop (i * 4))) ∧ Grew w w3 (.slice (some ⟨g, 0, none⟩) n c) (.slice (some ⟨G, 0, none⟩) (n + 1) cap)) := by
        refine Lib.hid ⟨⟨?_, .inr ⟨G, cap, _, rfl, Nat.zero_le _, R4.out, hc2, hc3, ?_, ?_⟩⟩, ⟨?_, fun k hk => .inr ?_⟩⟩
        · simp only [List.length_append, List.length_take, List.length_drop, enc_len]
          omega
        · simpa using HF.out
        · have := insN_grow xs cur1 (enc x) (i * 4) hl2 (by rw [HC1.out, enc_len]; omega) T1.out
          rw [← HD.out, enc_len, show i * 4 + 4 = (i + 1) * 4 by omega, hxl, show n * 4 + 4 = (n + 1) * 4 by omega, ← HFE.out] at this
          rw [HD.out] at this ⊢
          exact this
        · refine K1.out.trans (T := fun k => k = G) ((K2.out.step (Kept.drew _ w2)).step K3.out) (fun k hk e => ?_) |>.mono fun k _ h => h.elim
          have := HGE.out
          omega
        · have hk' : G = k := by simpa [Value.ownBlock] using hk
          have := K2.out.size
          have := K3.out.size
          have := HGE.out
          exact ⟨by omega, by rw [← hk']; have h9 : w2.drew.heap.size = w2.heap.size := rfl; omega⟩
      clear hw1 hw2 hw3 hw5 hw6 S1 S2 S3 S4 R1 R2 R3 R4 K1 K2 K3 HF HF1
      go_wp2
      go_ret
      exact ⟨_, _, rfl, FIN.out⟩
end Go.Proofs.YthmjjhjblokjeaaGreat.SN

/-
  A row of pairs, or sessions, that is copied. No statement is proved here.
-/
namespace Go.Proofs.YthmjjhjblokjeaaGreat.SN
open Go.RowKit

/-- A row's cells as a source. -/
theorem src_rows {w : World} {F : Nat → Prop} {a : Option Addr} {n c : Nat} {L : List (Int × (Int × RepV))} (h : Lies w F a (cells L)) (hl : L.length = n) : Src Tryz.prog 4 25 (.slice a n c) n (cells L) w := by
  cases a with
  | none =>
    obtain rfl : L = [] := by
      cases L with
      | nil => rfl
      | cons x r => obtain ⟨ad, h, _⟩ := h (by unfold cells; rw [flat_cons]; simp [enc]); cases h
    obtain rfl : n = 0 := by simpa using hl.symm
    exact Src.ofNil w Tryz.underlying25 c
  | some ad =>
    refine Src.ofSlice w Tryz.underlying25 ad n c (cells L) (by rw [cells_len, hl]) (fun j u hu => ?_) (cells_one L)
    obtain ⟨ad', e, _, hc⟩ := h.at_ hu
    injection e with e
    subst e
    exact hc

set_option maxHeartbeats 400000 in
theorem clone_any (F : Nat → Prop) (a : Option Addr) (n c : Nat) (L : List (Int × (Int × RepV))) (w : World) (h : Lies w F a (cells L)) (hl : L.length = n) (hx : n ≤ 1048576) :
    Calls Tryz.prog 20 #[.slice a n c] w fun e w' => ∃ A c', e = .returned (.slice A n c') ∧ w'.ownsRow w.heap.size 63 4 (.slice A n c') n (cells L) ∧ Kept noBlock w w' := by
  have hq : ∀ (w : World) (a : Option Addr) (n c n' c' : Nat), (binOp .eql 25 (.slice a n c) (.slice none n' c')).run Tryz.prog w = .ok (.bool a.isNone) w := fun w a n c n' c' => Lib.run_eql_slice_nil w _ _ a n c n' c' Tryz.underlying25
  cases a with
  | none =>
    obtain rfl : L = [] := by
      cases L with
      | nil => rfl
      | cons x r => obtain ⟨ad, h, _⟩ := h (by unfold cells; rw [flat_cons]; simp [enc]); cases h
    obtain rfl : n = 0 := hl.symm
    go_enter Tryz.func20, Tryz.ntmps20
    go_wp2
    go_ret
    exact ⟨none, 0, rfl, World.ownsRow_nil _ _ _ _, Kept.refl _ _⟩
  | some ad =>
    have hsrc : Src Tryz.prog 4 25 (.slice (some ad) n c) n (cells L) (w.alloc (.cells #[] 63)) :=
      src_rows (h.keep (Kept.alloc noBlock w _) (fun _ _ h => h)) hl
    have hown : (w.alloc (.cells #[] 63)).ownsRow 0 63 4 (.slice (some ⟨w.heap.size, 0, none⟩) 0 0) 0 [] := ⟨rfl, .inr ⟨w.heap.size, 0, #[], rfl, Nat.zero_le _, heap_alloc_new _ _, Nat.le_refl _, Nat.zero_le _, rfl, rfl⟩⟩
    go_enter Tryz.func20, Tryz.ntmps20
    go_wp2_with (at_builtin; refine wpList_append_src rfl (.tmp 5) (.tmp 6) 25 25 rfl 63 (.agg #[.int .i64 0, .int .i64 0, .int .i64 0, .string ByteArray.empty]) 4 40 Tryz.underlying25 infoPr rfl _ 0 [] rfl hown _ n (cells L) rfl hsrc ?c3 ?c4 ?_)
    case c3 => unfold maxLen; omega
    case c4 => left; omega
    intro A' c' w1 hown1 k1 hat
    have R := Lib.hid hown1
    have k2 : Kept noBlock w w1 := (Kept.alloc noBlock w _).trans k1 (fun i hi h => by simp [Value.ownBlock] at h; omega)
    have hb2 : ∀ k, (Value.slice A' n c').ownBlock = some k → w.heap.size ≤ k := fun k hk => by
      rcases hat k hk with h | h
      · simp [Value.ownBlock] at h; omega
      · have := h.1; simp at this; omega
    clear hown1 hat k1
    go_wp2
    go_ret
    refine ⟨A', c', by simp, ?_, k2⟩
    have := own_base R.out hb2
    simpa using this
end Go.Proofs.YthmjjhjblokjeaaGreat.SN
