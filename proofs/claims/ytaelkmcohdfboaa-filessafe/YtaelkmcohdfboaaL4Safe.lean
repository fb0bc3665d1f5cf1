/-
  FilesSafe: what it does with whatever bytes. No statement is proved here.
-/
import Derived.Test.YtaelkmcohdfboaaL4Cut
namespace Go.Proofs.Ytaelkmcohdfboaa
open Go.RowKit Go.Maps

/-- A disk with two files, x and y, of which x is safe by its name. -/
def duo (f g : Nat) (l : Fl) (vol : Nat) : St := plain 400 [([120], f), ([121], g)] [([120], f)] [⟨[121], [121], some g⟩] 6 (fun k => if k = g then some ⟨[], 0⟩ else one f l k) vol
theorem duo_create (f g : Nat) (l : Fl) (vol : Nat) : (solo 400 f [([120], f)] [] 5 l vol).create [121] g = (0, duo f g l vol) := by
  unfold solo duo
  rw [plain_create 400 5 vol g [([120], f)] [] [([120], f)] (one f l) [121] rfl (by simp)]
  rfl
theorem duo_back (f g : Nat) (l : Fl) (vol : Nat) (hg : g ≠ f) (n b : Int) :
    ((duo f g l vol).restart n b).read [120] = (l.back b.toNat).data ∧ ((duo f g l vol).restart n b).find [120] = (some f, 0) ∧ (((duo f g l vol).restart n b).find [121]).2 = if 0 < n then 0 else 6 := by
  have hfg : ¬ f = g := fun e => hg e.symm
  have hfl : (duo f g l vol).fl f = some l := by unfold duo plain; simp [hfg, one_self]
  by_cases hn : 0 < n
  · have hN : (duo f g l vol).names n.toNat = [([120], f), ([121], g)] := by
      unfold St.names
      rw [List.take_of_length_le (by show 1 ≤ n.toNat; omega)]
      rfl
    have h1 : Dir.look ((duo f g l vol).restart n b).cur [120] = some f := by unfold St.restart; simp only; rw [hN]; rfl
    have h2 : Dir.look ((duo f g l vol).restart n b).cur [121] = some g := by unfold St.restart; simp only; rw [hN]; rfl
    refine ⟨read_of rfl h1 ?_, find_of rfl h1, ?_⟩
    · unfold St.restart
      simp only
      rw [hN, if_pos (by simp [Dir.holds]), hfl]
      rfl
    · rw [find_of rfl h2, if_pos hn]
  · have hN : (duo f g l vol).names n.toNat = [([120], f)] := by
      unfold St.names
      rw [show n.toNat = 0 from by omega]
      rfl
    have h1 : Dir.look ((duo f g l vol).restart n b).cur [120] = some f := by unfold St.restart; simp only; rw [hN]; rfl
    have h2 : Dir.look ((duo f g l vol).restart n b).cur [121] = none := by unfold St.restart; simp only; rw [hN]; rfl
    refine ⟨read_of rfl h1 ?_, find_of rfl h1, ?_⟩
    · unfold St.restart
      simp only
      rw [hN, if_pos (by simp [Dir.holds]), hfl]
      rfl
    · rw [find_of_none rfl h2, if_neg hn]

set_option maxRecDepth 100000 in
set_option maxHeartbeats 2000000 in
theorem safe_walk (F : Nat → Prop) (a b : Option Addr) (n c n' c' : Nat) (l l' : List UInt8) (z : Int) (kp : Nat) (w : World) (h : Lies w F a (l.map bv)) (h' : Lies w F b (l'.map bv)) (hl : l.length = n) (hl' : l'.length = n') (hc : n ≤ c) (hc' : n' ≤ c') (hz1 : -128 ≤ z) (hz2 : z ≤ 127) (hkp : kp < 256) :
    Calls Try.prog 5 #[.slice a n c, .slice b n' c', .int .i8 z, .int .u8 (kp : Int)] w fun e w' => e = .returned (.bool true) ∧ Kept noBlock w w' := by
  obtain ⟨m, hm⟩ : ∃ m, m = min n 100 := ⟨_, rfl⟩
  obtain ⟨m', hm'⟩ : ∃ m', m' = min n' 100 := ⟨_, rfl⟩
  have q1 : (if (100 : Int) < (n : Int) then (100 : Int) else (n : Int)) = (m : Int) := by split <;> omega
  have q2 : (if (100 : Int) < (n' : Int) then (100 : Int) else (n' : Int)) = (m' : Int) := by split <;> omega
  have i1 : (m : Int) ≤ c := by omega
  have i2 : (m' : Int) ≤ c' := by omega
  have hm100 : m ≤ 100 := by omega
  have hm100' : m' ≤ 100 := by omega
  obtain ⟨u, hu⟩ : ∃ u, u = l.take m := ⟨_, rfl⟩
  obtain ⟨u', hu'⟩ : ∃ u', u' = l'.take m' := ⟨_, rfl⟩
  have hul : u.length = m := by rw [hu, List.length_take]; omega
  have hul' : u'.length = m' := by rw [hu', List.length_take]; omega
  have hL : Lies w F a (u.map bv) := by rw [hu, List.map_take]; exact h.take m
  have hL' : Lies w F b (u'.map bv) := by rw [hu', List.map_take]; exact h'.take m'
  have HU := Lib.hid hul; clear hul
  have HU' := Lib.hid hul'; clear hul'
  have HL := Lib.hid hL; clear hL
  have HL' := Lib.hid hL'; clear hL'
  have hwz : IntKind.i64.wrap z = z := wrap_small (by omega) (by omega)
  have hwk : IntKind.i64.wrap (kp : Int) = (kp : Int) := wrap_small (by omega) (by omega)
  obtain ⟨p, hp⟩ : ∃ p, p = min kp m' := ⟨_, rfl⟩
  have q3 : (if (kp : Int) < (m' : Int) then (kp : Int) else (m' : Int)) = (p : Int) := by rw [hp]; split <;> omega
  have q4 : (if kp < m' then (kp : Int) else (m' : Int)) = (p : Int) := by rw [hp]; split <;> omega
  have hpc : p ≤ c' := by omega
  have i3 : (p : Int) ≤ c' := by omega
  have hpm : p ≤ m' := by omega
  have HP := Lib.hid hp
  clear hu hu' h h' hl hl' hm hm' hc hc' hp
  go_enter Try.func5, Try.ntmps5
  go_wp2_with fail
  refine (awake_any w).mono ?_
  rintro e w1 ⟨rfl, k1⟩
  go_wp2_with fail
  refine wp_region_noPanic ?_
  refine wp_region_held_drew (S := fun _ => True) (by kernel_rfl) trivial (fun hHeld => ?_)
  refine wpAnyH_take (i := 0) (oi := ⟨some 17, Op.move (Operand.tmp 0), 32, _, _, none⟩) (v := ?v0n5k1) rfl (by kernel_rfl) (by kernel_rfl) (by kernel_rfl) (fun _ _ _ h => h) (Or.inl ⟨by rfl, ?y0n5k1⟩) hHeld ?z0n5k1
  case y0n5k1 => intro w hSw; (try dsimp only at hSw); go_simp <;> rfl
  try simp only [Act.put, List.setIfInBounds_toArray, List.set_cons_zero, List.set_cons_succ]
  refine wpAnyH_take (i := 1) (oi := ⟨some 18, Op.move (Operand.tmp 0), 32, _, _, none⟩) (v := ?v1n5k2) rfl (by kernel_rfl) (by kernel_rfl) (by kernel_rfl) (fun _ _ _ h => h) (Or.inl ⟨by rfl, ?y1n5k2⟩) hHeld ?z1n5k2
  case y1n5k2 => intro w hSw; (try dsimp only at hSw); go_simp <;> rfl
  try simp only [Act.put, List.setIfInBounds_toArray, List.set_cons_zero, List.set_cons_succ]
  refine wpAnyH_take (i := 2) (oi := ⟨some 19, Op.call { callee := Callee.builtin Builtin.len, args := #[Operand.tmp 18], argTypes := #[32] }, 3, _, _, none⟩) (v := ?v2n5k3) rfl (by kernel_rfl) (by kernel_rfl) (by kernel_rfl) (fun _ _ _ h => h) (Or.inl ⟨by rfl, ?y2n5k3⟩) hHeld ?z2n5k3
  case y2n5k3 => intro w hSw; (try dsimp only at hSw); go_simp <;> rfl
  try simp only [Act.put, List.setIfInBounds_toArray, List.set_cons_zero, List.set_cons_succ]
  refine wpAnyH_take (i := 3) (oi := ⟨some 20, Op.call { callee := Callee.builtin Builtin.min, args := #[Operand.tmp 19, Operand.const (Value.int IntKind.i64 100)], argTypes := #[3, 3] }, 3, _, _, none⟩) (v := ?v3n5k4) rfl (by kernel_rfl) (by kernel_rfl) (by kernel_rfl) (fun _ _ _ h => h) (Or.inl ⟨by rfl, ?y3n5k4⟩) hHeld ?z3n5k4
  case y3n5k4 => intro w hSw; (try dsimp only at hSw); go_simp <;> rfl
  try simp only [Act.put, List.setIfInBounds_toArray, List.set_cons_zero, List.set_cons_succ]
  refine wpAnyH_take (i := 4) (oi := ⟨some 21, Op.slice 32 (Operand.tmp 17) none (some (Operand.tmp 20)) none, 32, _, _, none⟩) (v := ?v4n5k5) rfl (by kernel_rfl) (by kernel_rfl) (by kernel_rfl) (fun _ _ _ h => h) (Or.inl ⟨by rfl, ?y4n5k5⟩) hHeld ?z4n5k5
  case y4n5k5 => intro w hSw; (try dsimp only at hSw); go_simp <;> rfl
  try simp only [Act.put, List.setIfInBounds_toArray, List.set_cons_zero, List.set_cons_succ]
  refine wpAnyH_take (i := 5) (oi := ⟨some 22, Op.move (Operand.tmp 1), 32, _, _, none⟩) (v := ?v5n5k6) rfl (by kernel_rfl) (by kernel_rfl) (by kernel_rfl) (fun _ _ _ h => h) (Or.inl ⟨by rfl, ?y5n5k6⟩) hHeld ?z5n5k6
  case y5n5k6 => intro w hSw; (try dsimp only at hSw); go_simp <;> rfl
  try simp only [Act.put, List.setIfInBounds_toArray, List.set_cons_zero, List.set_cons_succ]
  refine wpAnyH_take (i := 6) (oi := ⟨some 23, Op.move (Operand.tmp 1), 32, _, _, none⟩) (v := ?v6n5k7) rfl (by kernel_rfl) (by kernel_rfl) (by kernel_rfl) (fun _ _ _ h => h) (Or.inl ⟨by rfl, ?y6n5k7⟩) hHeld ?z6n5k7
  case y6n5k7 => intro w hSw; (try dsimp only at hSw); go_simp <;> rfl
  try simp only [Act.put, List.setIfInBounds_toArray, List.set_cons_zero, List.set_cons_succ]
  refine wpAnyH_take (i := 7) (oi := ⟨some 24, Op.call { callee := Callee.builtin Builtin.len, args := #[Operand.tmp 23], argTypes := #[32] }, 3, _, _, none⟩) (v := ?v7n5k8) rfl (by kernel_rfl) (by kernel_rfl) (by kernel_rfl) (fun _ _ _ h => h) (Or.inl ⟨by rfl, ?y7n5k8⟩) hHeld ?z7n5k8
  case y7n5k8 => intro w hSw; (try dsimp only at hSw); go_simp <;> rfl
  try simp only [Act.put, List.setIfInBounds_toArray, List.set_cons_zero, List.set_cons_succ]
  refine wpAnyH_take (i := 8) (oi := ⟨some 25, Op.call { callee := Callee.builtin Builtin.min, args := #[Operand.tmp 24, Operand.const (Value.int IntKind.i64 100)], argTypes := #[3, 3] }, 3, _, _, none⟩) (v := ?v8n5k9) rfl (by kernel_rfl) (by kernel_rfl) (by kernel_rfl) (fun _ _ _ h => h) (Or.inl ⟨by rfl, ?y8n5k9⟩) hHeld ?z8n5k9
  case y8n5k9 => intro w hSw; (try dsimp only at hSw); go_simp <;> rfl
  try simp only [Act.put, List.setIfInBounds_toArray, List.set_cons_zero, List.set_cons_succ]
  refine wpAnyH_take (i := 9) (oi := ⟨some 26, Op.slice 32 (Operand.tmp 22) none (some (Operand.tmp 25)) none, 32, _, _, none⟩) (v := ?v9n5k10) rfl (by kernel_rfl) (by kernel_rfl) (by kernel_rfl) (fun _ _ _ h => h) (Or.inl ⟨by rfl, ?y9n5k10⟩) hHeld ?z9n5k10
  case y9n5k10 => intro w hSw; (try dsimp only at hSw); go_simp <;> rfl
  try simp only [Act.put, List.setIfInBounds_toArray, List.set_cons_zero, List.set_cons_succ]
  refine wpAnyH_take (i := 10) (oi := ⟨some 0, Op.assign (Operand.tmp 21), 32, _, _, none⟩) (v := ?v10n5k11) rfl (by kernel_rfl) (by kernel_rfl) (by kernel_rfl) (fun _ _ _ h => h) (Or.inl ⟨by rfl, ?y10n5k11⟩) hHeld ?z10n5k11
  case y10n5k11 => intro w hSw; (try dsimp only at hSw); go_simp <;> rfl
  try simp only [Act.put, List.setIfInBounds_toArray, List.set_cons_zero]
  refine wpAnyH_take (i := 11) (oi := ⟨some 1, Op.assign (Operand.tmp 26), 32, _, _, none⟩) (v := ?v11n5k12) rfl (by kernel_rfl) (by kernel_rfl) (by kernel_rfl) (fun _ _ _ h => h) (Or.inl ⟨by rfl, ?y11n5k12⟩) hHeld ?z11n5k12
  case y11n5k12 => intro w hSw; (try dsimp only at hSw); go_simp <;> rfl
  try simp only [Act.put, List.setIfInBounds_toArray, List.set_cons_zero, List.set_cons_succ]
  refine wpAnyH_done (by kernel_rfl) ?_ _
  refine NoPanic.normal ?_
  go_wp2_with fail
  have k2 := k1.step (Kept.drew noBlock w1)
  generalize w1.drew = w2 at k2 ⊢
  clear k1
  refine (has_of 400 w2 (by omega)).mono ?_
  rintro e w3 ⟨d, rfl, h3⟩
  have H3 := Lib.hid h3; clear h3
  go_wp2_with fail
  refine (H3.out.create [120] (small_name _ (by simp)) (by simp [plain])).mono ?_
  rintro e w4 ⟨f, rfl, h4, hf⟩
  rw [solo_create] at h4 ⊢
  have hL4 := HL.out.keep (k2.step h4.kept) (fun _ _ h => h)
  have H4 := Lib.hid h4; clear h4 hf
  go_wp2_with fail
  refine ((show Has w2 w4 d _ from H4.out).append [120] (small_name _ (by simp)) (by simp [solo, plain]) hL4 HU.out (by simp [solo, plain]; omega)).mono ?_
  rintro e w5 ⟨rfl, h5⟩
  rw [solo_append 400 1 0 f _ _ ⟨[], 0⟩ u (by simp [HU.out]; omega)] at h5 ⊢
  simp only [List.nil_append] at h5
  have H5 := Lib.hid h5; clear h5 hL4
  go_wp2_with fail
  refine ((show Has w2 w5 d _ from H5.out).sync [120] (small_name _ (by simp)) (by simp [solo, plain])).mono ?_
  rintro e w6 ⟨rfl, h6⟩
  rw [solo_sync] at h6 ⊢
  have H6 := Lib.hid h6; clear h6
  go_wp2_with fail
  refine ((show Has w2 w6 d _ from H6.out).syncDir (by simp [solo, plain])).mono ?_
  rintro e w7 ⟨rfl, h7⟩
  rw [solo_syncDir] at h7 ⊢
  have hL7 := HL'.out.keep (k2.step h7.kept) (fun _ _ h => h)
  have H7 := Lib.hid h7; clear h7
  go_wp2_with fail
  refine ((show Has w2 w7 d _ from H7.out).append [120] (small_name _ (by simp)) (by simp [solo, plain]) hL7 HU'.out (by simp [solo, plain, HU.out]; omega)).mono ?_
  rintro e w8 ⟨rfl, h8⟩
  rw [solo_append _ _ _ _ _ _ _ u' (by simp [HU.out, HU'.out]; omega)] at h8 ⊢
  obtain ⟨L, hLq⟩ : ∃ L : Fl, L = ⟨u ++ u', u.length⟩ := ⟨_, rfl⟩
  obtain ⟨V8, hV8⟩ : ∃ V8, V8 = 0 + u.length + u'.length := ⟨_, rfl⟩
  have H8 : Hid (Has w2 w8 d (solo 400 f [([120], f)] [] 5 L V8)) := by rw [hLq, hV8]; exact Lib.hid h8
  clear h8 hL7
  have HLq := Lib.hid hLq; clear hLq hV8
  go_wp2_with fail
  refine (H8.out.create [121] (small_name _ (by simp)) (by simp [solo, plain])).mono ?_
  rintro e w9 ⟨g, rfl, h9, hg⟩
  have hgf : g ≠ f := fun e => by subst e; have : (one g L) g = none := hg; rw [one_self] at this; cases this
  rw [duo_create] at h9 ⊢
  have H9 := Lib.hid h9; clear h9 hg
  have hdb := duo_back f g L V8 hgf z (kp : Int)
  have hback : (L.back (kp : Int).toNat).data = u ++ u'.take p := by
    rw [HLq.out]
    unfold Fl.back
    have e2 : u.length + min (kp : Int).toNat ((u ++ u').length - u.length) = u.length + p := by
      rw [List.length_append, HU.out, HU'.out, HP.out]
      have : (kp : Int).toNat = kp := rfl
      omega
    simp only [e2]
    rw [List.take_length_add_append]
  rw [hback] at hdb
  have HDB := Lib.hid hdb; clear hdb hback
  have hlen : (u ++ u'.take p).length = m + p := by rw [List.length_append, List.length_take, HU.out, HU'.out]; omega
  have HLN := Lib.hid hlen; clear hlen
  obtain ⟨S9, hS9⟩ : ∃ S9, S9 = (duo f g L V8).restart z (kp : Int) := ⟨_, rfl⟩
  rw [← hS9] at HDB
  go_wp2_with fail
  refine ((show Has w2 w9 d _ from H9.out).restart z (kp : Int)).mono ?_
  rintro e w10 ⟨rfl, h10⟩
  have H10 : Hid (Has w2 w10 d S9) := by rw [hS9]; exact Lib.hid h10
  clear h10 hS9
  go_wp2_with fail
  refine (H10.out.read [120] (small_name _ (by simp))).mono ?_
  rintro e w11 ⟨A', ca, rfl, hLx, kx⟩
  rw [HDB.out.1] at hLx ⊢
  rw [HDB.out.2.1, HLN.out]
  have h11 := H10.out.then_ kx
  have k11 := k2.step h11.kept
  have H11 := Lib.hid h11; clear h11
  have hLb : Lies w11.drew F a (u.map bv) := (HL.out.keep k11 (fun _ _ h => h)).keep (Kept.drew noBlock w11) (fun _ _ h => h)
  have hLm : Lies w11.drew F b ((u'.take p).map bv) := by
    rw [List.map_take]
    exact ((HL'.out.keep k11 (fun _ _ h => h)).keep (Kept.drew noBlock w11) (fun _ _ h => h)).take p
  have hup : (u'.take p).length = p := by rw [List.length_take, HU'.out]; omega
  have v2 := run_str hLb HU.out
  have v3 := run_str hLm hup
  have hLx' := hLx.keep (Kept.drew noBlock w11) (fun _ _ h => h)
  obtain ⟨Y, hY⟩ : ∃ Y, Y = str u := ⟨_, rfl⟩
  obtain ⟨Z, hZ⟩ : ∃ Z, Z = str (u'.take p) := ⟨_, rfl⟩
  obtain ⟨X, hX⟩ : ∃ X, X = str (u ++ u'.take p) := ⟨_, rfl⟩
  rw [← hY] at v2
  rw [← hZ] at v3
  have hfin : (X.toList == (Y ++ Z).toList) = true := by rw [hX, hY, hZ, str_append]; simp
  have sy : Y.size = m := by rw [hY, str_size, HU.out]
  have sz : Z.size = p := by rw [hZ, str_size, hup]
  have hsum : ¬ 9223372036854775807 < m + p := by omega
  have HX := Lib.hid hX
  have HLX := Lib.hid hLx'
  clear hX hY hZ hLb hLm hLx hup hLx' kx
  go_wp2_with fail
  refine wp_region_noPanic ?_
  refine wp_region_held_drew (S := fun w' => (∀ c, (convert 32 9 (.slice a m c)).run Try.prog w' = .ok (.string Y) w') ∧ (∀ c, (convert 32 9 (.slice b p c)).run Try.prog w' = .ok (.string Z) w')) (by kernel_rfl) ⟨v2, v3⟩ (fun hHeld => ?_)
  refine wpAnyH_take (i := 0) (oi := ⟨some 69, Op.move (Operand.tmp 0), 32, _, _, none⟩) (v := ?v0n6k1) rfl (by kernel_rfl) (by kernel_rfl) (by kernel_rfl) (fun _ _ _ h => h) (Or.inl ⟨by rfl, ?y0n6k1⟩) hHeld ?z0n6k1
  case y0n6k1 => intro w hSw; (try dsimp only at hSw); go_simp <;> rfl
  try simp only [Act.put, List.setIfInBounds_toArray, List.set_cons_zero, List.set_cons_succ]
  refine wpAnyH_take (i := 1) (oi := ⟨some 70, Op.convert 32 9 (Operand.tmp 69), 9, _, _, none⟩) (v := ?v1n6k2) rfl (by kernel_rfl) (by kernel_rfl) (by kernel_rfl) (fun _ _ _ h => h) (Or.inl ⟨by rfl, ?y1n6k2⟩) hHeld ?z1n6k2
  case y1n6k2 => intro w hSw; (try dsimp only at hSw); go_simp <;> rfl
  try simp only [Act.put, List.setIfInBounds_toArray, List.set_cons_zero, List.set_cons_succ]
  refine wpAnyH_take (i := 2) (oi := ⟨some 71, Op.move (Operand.tmp 1), 32, _, _, none⟩) (v := ?v2n6k3) rfl (by kernel_rfl) (by kernel_rfl) (by kernel_rfl) (fun _ _ _ h => h) (Or.inl ⟨by rfl, ?y2n6k3⟩) hHeld ?z2n6k3
  case y2n6k3 => intro w hSw; (try dsimp only at hSw); go_simp <;> rfl
  try simp only [Act.put, List.setIfInBounds_toArray, List.set_cons_zero, List.set_cons_succ]
  refine wpAnyH_take (i := 3) (oi := ⟨some 72, Op.move (Operand.tmp 1), 32, _, _, none⟩) (v := ?v3n6k4) rfl (by kernel_rfl) (by kernel_rfl) (by kernel_rfl) (fun _ _ _ h => h) (Or.inl ⟨by rfl, ?y3n6k4⟩) hHeld ?z3n6k4
  case y3n6k4 => intro w hSw; (try dsimp only at hSw); go_simp <;> rfl
  try simp only [Act.put, List.setIfInBounds_toArray, List.set_cons_zero, List.set_cons_succ]
  refine wpAnyH_take (i := 4) (oi := ⟨some 73, Op.call { callee := Callee.builtin Builtin.len, args := #[Operand.tmp 72], argTypes := #[32] }, 3, _, _, none⟩) (v := ?v4n6k5) rfl (by kernel_rfl) (by kernel_rfl) (by kernel_rfl) (fun _ _ _ h => h) (Or.inl ⟨by rfl, ?y4n6k5⟩) hHeld ?z4n6k5
  case y4n6k5 => intro w hSw; (try dsimp only at hSw); go_simp <;> rfl
  try simp only [Act.put, List.setIfInBounds_toArray, List.set_cons_zero, List.set_cons_succ]
  refine wpAnyH_take (i := 5) (oi := ⟨some 74, Op.move (Operand.tmp 3), 5, _, _, none⟩) (v := ?v5n6k6) rfl (by kernel_rfl) (by kernel_rfl) (by kernel_rfl) (fun _ _ _ h => h) (Or.inl ⟨by rfl, ?y5n6k6⟩) hHeld ?z5n6k6
  case y5n6k6 => intro w hSw; (try dsimp only at hSw); go_simp <;> rfl
  try simp only [Act.put, List.setIfInBounds_toArray, List.set_cons_zero, List.set_cons_succ]
  refine wpAnyH_take (i := 6) (oi := ⟨some 75, Op.convert 5 3 (Operand.tmp 74), 3, _, _, none⟩) (v := ?v6n6k7) rfl (by kernel_rfl) (by kernel_rfl) (by kernel_rfl) (fun _ _ _ h => h) (Or.inl ⟨by rfl, ?y6n6k7⟩) hHeld ?z6n6k7
  case y6n6k7 => intro w hSw; (try dsimp only at hSw); go_simp <;> rfl
  try simp only [Act.put, List.setIfInBounds_toArray, List.set_cons_zero, List.set_cons_succ]
  refine wpAnyH_take (i := 7) (oi := ⟨some 76, Op.call { callee := Callee.builtin Builtin.min, args := #[Operand.tmp 73, Operand.tmp 75], argTypes := #[3, 3] }, 3, _, _, none⟩) (v := ?v7n6k8) rfl (by kernel_rfl) (by kernel_rfl) (by kernel_rfl) (fun _ _ _ h => h) (Or.inl ⟨by rfl, ?y7n6k8⟩) hHeld ?z7n6k8
  case y7n6k8 => intro w hSw; (try dsimp only at hSw); go_simp <;> rfl
  try simp only [Act.put, List.setIfInBounds_toArray, List.set_cons_zero, List.set_cons_succ]
  refine wpAnyH_take (i := 8) (oi := ⟨some 77, Op.slice 32 (Operand.tmp 71) none (some (Operand.tmp 76)) none, 32, _, _, none⟩) (v := ?v8n6k9) rfl (by kernel_rfl) (by kernel_rfl) (by kernel_rfl) (fun _ _ _ h => h) (Or.inl ⟨by rfl, ?y8n6k9⟩) hHeld ?z8n6k9
  case y8n6k9 => intro w hSw; (try dsimp only at hSw); go_simp <;> rfl
  try simp only [Act.put, List.setIfInBounds_toArray, List.set_cons_zero, List.set_cons_succ]
  refine wpAnyH_take (i := 9) (oi := ⟨some 78, Op.convert 32 9 (Operand.tmp 77), 9, _, _, none⟩) (v := ?v9n6k10) rfl (by kernel_rfl) (by kernel_rfl) (by kernel_rfl) (fun _ _ _ h => h) (Or.inl ⟨by rfl, ?y9n6k10⟩) hHeld ?z9n6k10
  case y9n6k10 => intro w hSw; (try dsimp only at hSw); go_simp <;> rfl
  try simp only [Act.put, List.setIfInBounds_toArray, List.set_cons_zero, List.set_cons_succ]
  refine wpAnyH_take (i := 10) (oi := ⟨some 79, Op.binOp BinOp.add 9 (Operand.tmp 70) (Operand.tmp 78) 9, 9, _, _, none⟩) (v := ?v10n6k11) rfl (by kernel_rfl) (by kernel_rfl) (by kernel_rfl) (fun _ _ _ h => h) (Or.inl ⟨by rfl, ?y10n6k11⟩) hHeld ?z10n6k11
  case y10n6k11 => intro w hSw; (try dsimp only at hSw); go_simp <;> rfl
  try simp only [Act.put, List.setIfInBounds_toArray, List.set_cons_zero, List.set_cons_succ]
  refine wpAnyH_take (i := 11) (oi := ⟨some 12, Op.assign (Operand.tmp 79), 9, _, _, none⟩) (v := ?v11n6k12) rfl (by kernel_rfl) (by kernel_rfl) (by kernel_rfl) (fun _ _ _ h => h) (Or.inl ⟨by rfl, ?y11n6k12⟩) hHeld ?z11n6k12
  case y11n6k12 => intro w hSw; (try dsimp only at hSw); go_simp <;> rfl
  try simp only [Act.put, List.setIfInBounds_toArray, List.set_cons_zero, List.set_cons_succ]
  refine wpAnyH_done (by kernel_rfl) ?_ _
  refine NoPanic.normal ?_
  have h12 := H11.out.then_ (Kept.drew noBlock w11)
  generalize w11.drew = w12 at h12 HLX ⊢
  have H12 := Lib.hid h12
  have K2 := Lib.hid k2
  clear h12 v2 v3 k11 H11 k2
  go_wp2_with fail
  refine (H12.out.read [121] (small_name _ (by simp))).mono ?_
  rintro e w13 ⟨A2, c2, rfl, _, ky⟩
  have v1 := run_str (HLX.out.keep ky (fun _ _ h => h)) HLN.out
  rw [← HX.out] at v1
  have HK13 := Lib.hid ((K2.out.step H12.out.kept).step ky)
  rw [HDB.out.2.2]
  clear ky
  by_cases hzp : 0 < z
  · rw [if_pos hzp]
    go_wp2
    go_ret
    exact ⟨by simp, HK13.out⟩
  · rw [if_neg hzp]
    go_wp2
    go_ret
    exact ⟨by simp; omega, HK13.out⟩
end Go.Proofs.Ytaelkmcohdfboaa
