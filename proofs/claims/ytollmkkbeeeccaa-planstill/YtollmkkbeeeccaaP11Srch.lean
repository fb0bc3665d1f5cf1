/-
  The contracts of plan.firstFrom and of sort.Search as it calls it. No statement is proved here.
-/
import Derived.Test.YtollmkkbeeeccaaP11Ord
namespace Go.Proofs.Ytollmkkbeeeccaa
open Go.RowKit Tot

/-- What stands behind a place in the order: from there on. -/
def hereV (p : Int) : RefV := ⟨⟨#[]⟩, 0, p, p⟩
def behV (p : Int) (r : RefV) : Bool := decide (0 < cmpR r (hereV p))
theorem behV_iff (p : Int) (r : RefV) : behV p r = true ↔ p < r.from_ ∨ r.from_ = p ∧ p < r.to_ := by
  unfold behV hereV
  rw [decide_eq_true_iff, cmpR_pos]
def plcI : Option Nat → Int
  | none => -1
  | some k => (k : Int)
theorem findIdx_none {α : Type} {f : α → Bool} {l : List α} (h : ∀ (j : Nat) (y : α), l[j]? = some y → f y = false) : l.findIdx? f = none := by
  rw [List.findIdx?_eq_none_iff]
  intro x hx
  obtain ⟨j, hj⟩ := List.mem_iff_getElem?.1 hx
  exact h j x hj
theorem findIdx_some {α : Type} {f : α → Bool} {l : List α} {k : Nat} {x : α} (hk : l[k]? = some x) (hx : f x = true) (h : ∀ (j : Nat) (y : α), j < k → l[j]? = some y → f y = false) : l.findIdx? f = some k := by
  obtain ⟨hkl, e⟩ := List.getElem?_eq_some_iff.1 hk
  rw [List.findIdx?_eq_some_iff_getElem]
  refine ⟨hkl, by rw [e]; exact hx, fun j hj => ?_⟩
  have := h j _ hj (List.getElem?_eq_getElem (Nat.lt_trans hj hkl))
  rw [this]
  simp
theorem fromV_end {l : List RefV} {p : Int} {k : Nat} (h0 : ∀ (t : Nat) (x : RefV), t < k → l[t]? = some x → behV p x = false) (hk : k = l.length) : fromV l p = none := by
  refine findIdx_none fun j y hj => ?_
  have hb := h0 j y (by have := (List.getElem?_eq_some_iff.1 hj).1; omega) hj
  rw [decide_eq_false_iff_not]
  rintro ⟨h1, h2⟩
  rw [(behV_iff p y).2 (.inr ⟨h1, h2⟩)] at hb
  cases hb
theorem fromV_not {l : List RefV} (hr : Rises l) {p : Int} {k : Nat} {r : RefV} (h0 : ∀ (t : Nat) (x : RefV), t < k → l[t]? = some x → behV p x = false) (hk : l[k]? = some r) (hb : behV p r = true) (hne : r.from_ ≠ p) : fromV l p = none := by
  refine findIdx_none fun j y hj => ?_
  rw [decide_eq_false_iff_not]
  rintro ⟨h1, h2⟩
  rcases Nat.lt_trichotomy j k with hjk | rfl | hjk
  · have := h0 j y hjk hj
    rw [(behV_iff p y).2 (.inr ⟨h1, h2⟩)] at this
    cases this
  · rw [hk] at hj
    injection hj with hj
    exact hne (hj ▸ h1)
  · have h3 := hr.from_le hjk hk hj
    have h4 := (behV_iff p r).1 hb
    omega
theorem fromV_yes {l : List RefV} {p : Int} {k : Nat} {r : RefV} (h0 : ∀ (t : Nat) (x : RefV), t < k → l[t]? = some x → behV p x = false) (hk : l[k]? = some r) (hb : behV p r = true) (he : r.from_ = p) : fromV l p = some k := by
  refine findIdx_some hk ?_ fun j y hjk hj => ?_
  · rw [decide_eq_true_iff]
    have h4 := (behV_iff p r).1 hb
    exact ⟨he, by omega⟩
  · have := h0 j y hjk hj
    rw [decide_eq_false_iff_not]
    rintro ⟨h1, h2⟩
    rw [(behV_iff p y).2 (.inr ⟨h1, h2⟩)] at this
    cases this
theorem behV_up {l : List RefV} (hr : Rises l) (p : Int) {a b : Nat} {x y : RefV} (hab : a ≤ b) (ha : l[a]? = some x) (hb : l[b]? = some y) (h : behV p x = true) : behV p y = true := by
  rcases Nat.eq_or_lt_of_le hab with rfl | hlt
  · rw [ha] at hb
    injection hb with hb
    exact hb ▸ h
  · obtain ⟨h1, e1⟩ := List.getElem?_eq_some_iff.1 ha
    obtain ⟨h2, e2⟩ := List.getElem?_eq_some_iff.1 hb
    have := List.pairwise_iff_getElem.1 hr a b h1 h2 hlt
    rw [e1, e2, ltR_false] at this
    rw [behV_iff] at h ⊢
    omega

set_option maxRecDepth 100000 in
set_option maxHeartbeats 1000000 in
theorem srch_any (n : Nat) (p : Nat → Bool) (D H : Nat) (w : World) (hn : n ≤ 1099511627776) (hf : ∀ u, Kept noBlock w u → ∀ k, k < n → Calls Try.prog 38 #[.int .i64 (k : Int), .pointer (some ⟨D, 0, none⟩), .pointer (some ⟨H, 0, none⟩)] u fun e w' => e = .returned (.bool (p k)) ∧ Kept noBlock u w')
    (hm : ∀ a b, a ≤ b → b < n → p a = true → p b = true) :
    Calls Try.prog 37 #[.int .i64 (n : Int), .func (.func 38) #[] #[.pointer (some ⟨D, 0, none⟩), .pointer (some ⟨H, 0, none⟩)]] w fun e w' => ∃ k : Nat, e = .returned (.int .i64 (k : Int)) ∧ k ≤ n ∧ (∀ t, t < k → p t = false) ∧ (∀ t, k ≤ t → t < n → p t = true) ∧ Kept noBlock w w' := by
  have HF := Lib.hid hf
  have HM := Lib.hid hm
  clear hf hm
  go_enter Try.func37, Try.ntmps37
  go_wp2
  go_loopw [5, 6] (fun a b wr => ∃ lo hi : Nat, a = .int .i64 (lo : Int) ∧ b = .int .i64 (hi : Int) ∧ lo ≤ hi ∧ hi ≤ n ∧ Hid (∀ t, t < lo → p t = false) ∧ Hid (∀ t, hi ≤ t → t < n → p t = true) ∧ Hid (Kept noBlock w wr)) (fun a b _ => (intOf b).toNat - (intOf a).toNat)
  case atStart => exact ⟨0, n, rfl, rfl, Nat.zero_le _, Nat.le_refl _, fun t ht => absurd ht (Nat.not_lt_zero _), fun t h1 h2 => by omega, Kept.refl _ _⟩
  case round =>
    obtain ⟨lo, hi, rfl, rfl, hlh, hin, H1, H2, HK⟩ := hrel
    by_cases hlt : lo < hi
    · have HC := Lib.hid (HF.out wr HK.out ((lo + hi) / 2) (by omega))
      obtain ⟨mid, hmid⟩ : ∃ mid, mid = (lo + hi) / 2 := ⟨_, rfl⟩
      have e2 : ((lo : Int) + (hi : Int)) / 2 = (mid : Int) := by omega
      rw [← hmid] at HC
      have h3 : lo ≤ mid := by omega
      have h4 : mid < hi := by omega
      clear hmid
      cases hp : p mid with
      | false =>
        rw [hp] at HC
        have H19 : Hid (∀ t, t < mid + 1 → p t = false) := fun t ht => by
          cases h : p t with
          | false => rfl
          | true => have := HM.out t mid (by omega) (by omega) h; rw [hp] at this; cases this
        clear hp
        go_wp2_with fail
        (try rw [e2])
        refine HC.out.mono ?_
        rintro e u ⟨rfl, k2⟩
        have K2 := Lib.hid (HK.out.step k2)
        clear k2 HC
        go_wp2
        go_roundw
        case rel => exact ⟨mid + 1, hi, by go_num, rfl, by omega, hin, H19, H2, K2⟩
        case measure => simp [intOf]; omega
      | true =>
        rw [hp] at HC
        have HP := Lib.hid hp
        clear hp
        go_wp2_with fail
        (try rw [e2])
        refine HC.out.mono ?_
        rintro e u ⟨rfl, k2⟩
        have K2 := Lib.hid (HK.out.step k2)
        clear k2 HC
        go_wp2
        go_roundw
        case rel => exact ⟨lo, mid, rfl, by go_num, by omega, by omega, H1, fun t h5 h6 => HM.out mid t h5 h6 HP.out, K2⟩
        case measure => simp [intOf]; omega
    · obtain rfl : hi = lo := by omega
      go_wp2
      go_ret
      exact ⟨hi, rfl, hin, H1.out, H2.out, HK.out⟩

set_option maxRecDepth 100000 in
set_option maxHeartbeats 1000000 in
theorem cl_any (g o n c : Nat) (l : List RefV) (p : Int) (D H k : Nat) (r : RefV) (w : World) (hl : Lies w (fun _ => True) (some ⟨g, o, none⟩) (refCells l)) (hk : l[k]? = some r) (hkn : k < n)
    (hD : w.cell? ⟨D, 0, none⟩ = some (.slice (some ⟨g, o, none⟩) n c)) (hH : w.heap[H]? = some (.cells (hereV p).cells.toArray 37 (0, 0))) :
    Calls Try.prog 38 #[.int .i64 (k : Int), .pointer (some ⟨D, 0, none⟩), .pointer (some ⟨H, 0, none⟩)] w fun e w' => e = .returned (.bool (behV p r)) ∧ Kept noBlock w w' := by
  have hc : ∀ u, Kept noBlock w u → (u.cell? ⟨g, o + k * 4, none⟩ = some (.string r.name) ∧ u.cell? ⟨g, o + k * 4 + 1, none⟩ = some (.int .i64 r.kind) ∧ u.cell? ⟨g, o + k * 4 + 2, none⟩ = some (.int .i64 r.from_) ∧ u.cell? ⟨g, o + k * 4 + 3, none⟩ = some (.int .i64 r.to_)) ∧
      (u.cell? ⟨H, 0, none⟩ = some (.string ⟨#[]⟩) ∧ u.cell? ⟨H, 1, none⟩ = some (.int .i64 0) ∧ u.cell? ⟨H, 2, none⟩ = some (.int .i64 p) ∧ u.cell? ⟨H, 3, none⟩ = some (.int .i64 p)) ∧ u.cell? ⟨D, 0, none⟩ = some (.slice (some ⟨g, o, none⟩) n c) := fun u ku => by
    obtain ⟨g', o', e, _, cc⟩ := (hl.keep ku (fun _ _ h => h)).elem (enc := RefV.cells) ref_len (by omega) hk
    injection e with e
    injection e with e1 e2
    subst e1; subst e2
    exact ⟨⟨cc 0 _ rfl, cc 1 _ rfl, cc 2 _ rfl, cc 3 _ rfl⟩, ref_cells (ku.blk hH (fun h => h)), ku.cell hD (fun h => h)⟩
  have CE := Lib.hid hc
  have GC : Hid (Kept noBlock w w.drew) := Kept.drew _ _
  have CM := Lib.hid (fun u => cmp_any r (hereV p) u)
  obtain ⟨z, hz⟩ : ∃ z, z = cmpR r (hereV p) := ⟨_, rfl⟩
  have HZ : Hid (behV p r = decide (0 < z)) := by unfold Hid behV; rw [hz]
  rw [← hz] at CM
  rw [HZ.out]
  unfold RefV.val hereV at CM
  simp only at CM
  clear hl hk hD hH hc hz
  go_enter Try.func38, Try.ntmps38
  go_upto_region 1 with (fail)
  refine wp_region_noPanic ?_
  refine wp_region_held_drew (S := fun u => (u.cell? ⟨g, o + k * 4, none⟩ = some (.string r.name) ∧ u.cell? ⟨g, o + k * 4 + 1, none⟩ = some (.int .i64 r.kind) ∧ u.cell? ⟨g, o + k * 4 + 2, none⟩ = some (.int .i64 r.from_) ∧ u.cell? ⟨g, o + k * 4 + 3, none⟩ = some (.int .i64 r.to_)) ∧ (u.cell? ⟨H, 0, none⟩ = some (.string ⟨#[]⟩) ∧ u.cell? ⟨H, 1, none⟩ = some (.int .i64 0) ∧ u.cell? ⟨H, 2, none⟩ = some (.int .i64 p) ∧ u.cell? ⟨H, 3, none⟩ = some (.int .i64 p)) ∧ u.cell? ⟨D, 0, none⟩ = some (.slice (some ⟨g, o, none⟩) n c)) (by kernel_rfl) (CE.out _ GC.out) (fun hHeld => ?_)
  refine wpAnyH_take (i := 0) (oi := ⟨some 5, Op.load 25 (Operand.tmp 1), 25, _, _, none⟩) (v := ?v0n1k1) rfl (by kernel_rfl) (by kernel_rfl) (by kernel_rfl) (fun _ _ _ h => h) (Or.inl ⟨by rfl, ?y0n1k1⟩) hHeld ?z0n1k1
  case y0n1k1 => intro w hSw; (try dsimp only at hSw); go_simp <;> rfl
  try simp only [Act.put, List.setIfInBounds_toArray, List.set_cons_zero, List.set_cons_succ]
  refine wpAnyH_take (i := 1) (oi := ⟨some 6, Op.move (Operand.tmp 0), 3, _, _, none⟩) (v := ?v1n1k2) rfl (by kernel_rfl) (by kernel_rfl) (by kernel_rfl) (fun _ _ _ h => h) (Or.inl ⟨by rfl, ?y1n1k2⟩) hHeld ?z1n1k2
  case y1n1k2 => intro w hSw; (try dsimp only at hSw); go_simp <;> rfl
  try simp only [Act.put, List.setIfInBounds_toArray, List.set_cons_zero, List.set_cons_succ]
  refine wpAnyH_take (i := 2) (oi := ⟨some 7, Op.indexAddr 25 (Operand.tmp 5) (Operand.tmp 6), 0, _, _, none⟩) (v := ?v2n1k3) rfl (by kernel_rfl) (by kernel_rfl) (by kernel_rfl) (fun _ _ _ h => h) (Or.inl ⟨by rfl, ?y2n1k3⟩) hHeld ?z2n1k3
  case y2n1k3 => intro w hSw; (try dsimp only at hSw); go_simp <;> rfl
  try simp only [Act.put, List.setIfInBounds_toArray, List.set_cons_zero, List.set_cons_succ]
  refine wpAnyH_take (i := 3) (oi := ⟨some 8, Op.load 37 (Operand.tmp 7), 37, _, _, none⟩) (v := ?v3n1k4) rfl (by kernel_rfl) (by kernel_rfl) (by kernel_rfl) (fun _ _ _ h => h) (Or.inl ⟨by rfl, ?y3n1k4⟩) hHeld ?z3n1k4
  case y3n1k4 => intro w hSw; (try dsimp only at hSw); go_simp <;> rfl
  try simp only [Act.put, List.setIfInBounds_toArray, List.set_cons_zero, List.set_cons_succ]
  refine wpAnyH_take (i := 4) (oi := ⟨some 9, Op.load 37 (Operand.tmp 2), 37, _, _, none⟩) (v := ?v4n1k5) rfl (by kernel_rfl) (by kernel_rfl) (by kernel_rfl) (fun _ _ _ h => h) (Or.inl ⟨by rfl, ?y4n1k5⟩) hHeld ?z4n1k5
  case y4n1k5 => intro w hSw; (try dsimp only at hSw); go_simp <;> rfl
  try simp only [Act.put, List.setIfInBounds_toArray, List.set_cons_zero, List.set_cons_succ]
  refine wpAnyH_ready (rs := [5]) (by kernel_rfl) (by simp) ?_
  refine AllReadyH.cons (o := ⟨some 10, Op.call { callee := Callee.value (Operand.func 31), args := #[Operand.tmp 8, Operand.tmp 9], argTypes := #[37, 37] }, 3, _, _, none⟩) rfl (fun K hK => ?_) AllReadyH.nil
  go_simp
  refine (CM.out _).mono ?_
  rintro en u2 ⟨rfl, k2⟩
  replace GC := Lib.hid (GC.out.step k2.kept)
  clear k2
  refine hK.out _ _ (CE.out _ GC.out) (fun hHeld => ?_)
  clear hK K
  try simp only [Act.put, List.setIfInBounds_toArray, List.set_cons_zero, List.set_cons_succ]
  refine wpAnyH_take (i := 6) (oi := ⟨some 11, Op.binOp BinOp.gtr 3 (Operand.tmp 10) (Operand.const (Value.int IntKind.i64 0)) 3, 4, _, _, none⟩) (v := ?v6n1k6) rfl (by kernel_rfl) (by kernel_rfl) (by kernel_rfl) (fun _ _ _ h => h) (Or.inl ⟨by rfl, ?y6n1k6⟩) hHeld ?z6n1k6
  case y6n1k6 => intro w hSw; (try dsimp only at hSw); go_simp <;> rfl
  try simp only [Act.put, List.setIfInBounds_toArray, List.set_cons_zero, List.set_cons_succ]
  refine wpAnyH_take (i := 7) (oi := ⟨some 4, Op.assign (Operand.tmp 11), 4, _, _, none⟩) (v := ?v7n1k7) rfl (by kernel_rfl) (by kernel_rfl) (by kernel_rfl) (fun _ _ _ h => h) (Or.inl ⟨by rfl, ?y7n1k7⟩) hHeld ?z7n1k7
  case y7n1k7 => intro w hSw; (try dsimp only at hSw); go_simp <;> rfl
  try simp only [Act.put, List.setIfInBounds_toArray, List.set_cons_zero, List.set_cons_succ]
  refine wpAnyH_done (by kernel_rfl) ?_ _
  refine NoPanic.normal ?_
  clear hHeld
  go_wp2
  go_ret
  exact ⟨rfl, GC.out⟩
end Go.Proofs.Ytollmkkbeeeccaa
