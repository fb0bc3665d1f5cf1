/-
  FilesFull: what it does with whatever rows. No statement is proved here.
-/
import Derived.Test.YtaelkmcohdfboaaL4Cut
namespace Go.Proofs.Ytaelkmcohdfboaa
open Go.RowKit Go.Maps

/-- A row of bytes that came in. -/
structure Row where
  A : Option Addr
  c : Nat
  row : List UInt8
def Row.val (x : Row) : Value := .slice x.A x.row.length x.c
structure Row.lies (F : Nat → Prop) (w : World) (x : Row) : Prop where
  cells : Lies w F x.A (x.row.map bv)
  cap : x.row.length ≤ x.c
theorem solo_cut_far (room calls vol f : Nat) (safe : Dir) (pend : List Chg) (l : Fl) (n : Int) (h : (l.data.length : Int) < n) : (solo room f safe pend calls l vol).cut [120] n = (14, solo room f safe pend calls l vol) := by
  unfold St.cut St.on
  rw [if_neg (by simp [solo, plain]), show (solo room f safe pend calls l vol).cur = [([120], f)] from rfl, solo_look]
  simp only
  unfold St.cutAt
  have e : (solo room f safe pend calls l vol).file f = l := file_eq (one_self f l)
  rw [e, if_pos (.inr h)]

set_option maxRecDepth 100000 in
set_option maxHeartbeats 2000000 in
theorem full_walk (F : Nat → Prop) (rm : Nat) (a : Option Addr) (n c : Nat) (xs : List Row) (w : World) (h : Lies w F a (xs.map Row.val)) (hx : ∀ x ∈ xs, x.lies F w) (hl : xs.length = n) (hc : n ≤ c) (hm : ∀ x ∈ xs, x.row.length ≤ 9223372036854775807) (hrm : rm < 256) :
    Calls Try.prog 8 #[.int .u8 (rm : Int), .slice a n c] w fun e w' => e = .returned (.bool true) ∧ Kept noBlock w w' := by
  obtain ⟨m, hme⟩ : ∃ m, m = min n 30 := ⟨_, rfl⟩
  have q1 : (if (30 : Int) < (n : Int) then (30 : Int) else (n : Int)) = (m : Int) := by split <;> omega
  have i1 : (m : Int) ≤ c := by omega
  have hmn : m ≤ n := by omega
  have hm30 : m ≤ 30 := by omega
  have hwr : IntKind.i64.wrap (rm : Int) = (rm : Int) := wrap_small (by omega) (by omega)
  have HM := Lib.hid hm; clear hm
  have HX := Lib.hid hx; clear hx
  have HL := Lib.hid hl; clear hl
  have H := Lib.hid h; clear h
  clear hme
  go_enter Try.func8, Try.ntmps8
  go_wp2_with fail
  refine (awake_any w).mono ?_
  rintro e w1 ⟨rfl, k1⟩
  have K1 := Lib.hid k1; clear k1
  go_wp2_with fail
  refine (has_of rm w1 (by omega)).mono ?_
  rintro e w2 ⟨d, rfl, h2⟩
  have H2 := Lib.hid h2; clear h2
  go_wp2_with fail
  refine (H2.out.create [120] (small_name _ (by simp)) (by simp [plain])).mono ?_
  rintro e w3 ⟨f, rfl, h3, hf⟩
  rw [solo_create] at h3 ⊢
  have H3 := Lib.hid h3; clear h3 hf
  obtain ⟨ps, hps⟩ : ∃ ps : List Chg, ps = [⟨[120], [120], some f⟩] := ⟨_, rfl⟩
  have H3' : Hid (Has w1 w3 d (solo rm f [] ps 1 ⟨[], 0⟩ 0)) := by rw [hps]; exact H3
  clear H3 hps
  go_wp2
  go_loopw [6, 24] (fun u v wr => ∃ (k q kc vol : Nat) (D : List UInt8), k ≤ m ∧ v = .int .i64 (k : Int) ∧ u = .int .i64 (q : Int) ∧ q ≤ rm ∧ kc ≤ k + 1 ∧ vol ≤ 60 * k ∧ Hid (D.length = q) ∧ Hid (Has w1 wr d (solo rm f [] ps kc ⟨D, 0⟩ vol))) (fun _ v _ => m - (intOf v).toNat)
  case atStart => exact ⟨0, 0, 1, 0, [], by omega, rfl, rfl, by omega, by omega, by omega, Lib.hid rfl, H3'⟩
  case round =>
    obtain ⟨k, q, kc, vol, D, hk, rfl, rfl, hq, hkc, hvol, HD, HH⟩ := hrel
    by_cases hlt : k < m
    · obtain ⟨x, hxk⟩ : ∃ x, xs[k]? = some x := ⟨xs[k]'(by rw [HL.out]; omega), List.getElem?_eq_getElem _⟩
      have hmem := List.mem_of_getElem? hxk
      have kw : Kept noBlock w wr := K1.out.step HH.out.kept
      obtain ⟨g, o, hae, _, hcell⟩ := H.out.norm (by intro e; have := congrArg List.length e; rw [List.length_map, HL.out] at this; simp at this; omega)
      subst hae
      have hc0 := kw.cell (hcell k x.val (by rw [List.getElem?_map, hxk]; rfl)) (fun h => h)
      unfold Row.val at hc0
      obtain ⟨hxl, hxc⟩ := HX.out x hmem
      have hxm := HM.out x hmem
      obtain ⟨L, hL⟩ : ∃ L, L = x.row.length := ⟨_, rfl⟩
      rw [← hL] at hc0 hxm
      obtain ⟨p, hp⟩ : ∃ p, p = min L 60 := ⟨_, rfl⟩
      have q2 : (if (60 : Int) < (L : Int) then (60 : Int) else (L : Int)) = (p : Int) := by split <;> omega
      obtain ⟨xc, hxc'⟩ : ∃ xc, xc = x.c := ⟨_, rfl⟩
      obtain ⟨xA, hxA⟩ : ∃ xA, xA = x.A := ⟨_, rfl⟩
      rw [← hxc', ← hxA] at hc0
      have i2 : (p : Int) ≤ xc := by omega
      have hp3 : p ≤ 60 := by omega
      obtain ⟨y, hy⟩ : ∃ y, y = x.row.take p := ⟨_, rfl⟩
      have hyl : y.length = p := by rw [hy, List.length_take]; omega
      have hLy : Lies w F xA (y.map bv) := by rw [hy, hxA, List.map_take]; exact hxl.take p
      have hLyr := Lib.hid (hLy.keep kw (fun _ _ h => h))
      have HYL := Lib.hid hyl
      clear hy hyl hLy hp hL hxl hxc hmem hxk hxm hxc' hxA hcell kw
      by_cases hfit : q + p ≤ rm
      · have hfi : (q : Int) + (p : Int) ≤ (rm : Int) := by omega
        have hst := solo_append rm kc vol f [] ps ⟨D, 0⟩ y (by rw [HYL.out]; simp only; rw [HD.out]; omega)
        have HST := Lib.hid hst; clear hst
        go_wp2_with fail
        refine (HH.out.append [120] (small_name _ (by simp)) (by simp [solo, plain]; omega) hLyr.out HYL.out (by simp [solo, plain]; omega)).mono ?_
        rw [HST.out]
        rintro e w4 ⟨rfl, h4⟩
        have H4 := Lib.hid h4; clear h4
        have hu := solo_used rm (kc + 1) (vol + y.length) f [] ps ⟨D ++ y, 0⟩
        have hlen : (D ++ y).length = q + p := by rw [List.length_append, HD.out, HYL.out]
        simp only [hlen] at hu
        have HU := Lib.hid hu; clear hu
        have HLN := Lib.hid hlen; clear hlen
        go_wp2_with fail
        refine (H4.out.used).mono ?_
        rintro e w5 ⟨rfl, k5⟩
        rw [HU.out]
        have H5 := Lib.hid (H4.out.then_ k5); clear k5
        go_wp2
        go_roundw
        case rel => exact ⟨k + 1, q + p, kc + 1, vol + y.length, D ++ y, by omega, by go_num, by go_num, hfit, by omega, by rw [HYL.out]; omega, HLN, H5⟩
        case measure => simp [intOf]; omega
      · have hfi : ¬ (q : Int) + (p : Int) ≤ (rm : Int) := by omega
        have hst := solo_full rm kc vol f [] ps ⟨D, 0⟩ y (by rw [HYL.out]; simp only; rw [HD.out]; omega)
        have HST := Lib.hid hst; clear hst
        go_wp2_with fail
        refine (HH.out.append [120] (small_name _ (by simp)) (by simp [solo, plain]; omega) hLyr.out HYL.out (by simp [solo, plain]; omega)).mono ?_
        rw [HST.out]
        rintro e w4 ⟨rfl, h4⟩
        have H4 := Lib.hid h4; clear h4
        have hu := solo_used rm kc vol f [] ps ⟨D, 0⟩
        simp only [HD.out] at hu
        have HU := Lib.hid hu; clear hu
        go_wp2_with fail
        refine (H4.out.used).mono ?_
        rintro e w5 ⟨rfl, k5⟩
        rw [HU.out]
        have H5 := Lib.hid (H4.out.then_ k5); clear k5
        go_wp2
        go_roundw
        case rel => exact ⟨k + 1, q, kc, vol, D, by omega, by go_num, rfl, hq, by omega, by omega, HD, H5⟩
        case measure => simp [intOf]; omega
    · obtain rfl : k = m := by omega
      have hst := solo_cut rm kc vol f [] ps ⟨D, 0⟩ q (by simp only; rw [HD.out]; exact Nat.le_refl _)
      have HST := Lib.hid hst; clear hst
      go_wp2_with fail
      refine (HH.out.cut [120] (q : Int) (small_name _ (by simp)) (by simp [solo, plain]; omega)).mono ?_
      rw [HST.out]
      rintro e w4 ⟨rfl, h4⟩
      have H4 := Lib.hid h4; clear h4
      have hst2 := solo_cut_far rm (kc + 1) vol f [] ps (Fl.keep ⟨D, 0⟩ q) ((q : Int) + 1) (by unfold Fl.keep; simp only [List.length_take]; rw [HD.out]; omega)
      have HST2 := Lib.hid hst2; clear hst2
      go_wp2_with fail
      refine (H4.out.cut [120] ((q : Int) + 1) (small_name _ (by simp)) (by simp [solo, plain]; omega)).mono ?_
      rw [HST2.out]
      rintro e w5 ⟨rfl, h5⟩
      have K5 := Lib.hid (K1.out.step h5.kept); clear h5
      go_wp2
      go_ret
      exact ⟨rfl, K5.out⟩
end Go.Proofs.Ytaelkmcohdfboaa
