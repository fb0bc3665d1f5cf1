/-
  ImageFull: what it does with whatever says, place and change. No statement is proved here.
-/
import Derived.Test.YthmjjhjblokjeaaL9Awake
import Derived.Test.YthmjjhjblokjeaaLawK
import Derived.Laws.BitsAllLaws
namespace Go.Proofs.Ythmjjhjblokjeaa
open Go.RowKit Tot

set_option maxRecDepth 100000 in
set_option maxHeartbeats 2000000 in
theorem ifull_walk (F : Nat → Prop) (a : Option Addr) (n c : Nat) (ss : List SayV) (at_ : Nat) (y : UInt8) (w : World) (hat : at_ < 65536) (h : Lies w F a (sayCells ss)) (hl : ss.length = n) (hnc : n ≤ c) :
    Calls Try.prog 3 #[.slice a n c, .int .u16 (at_ : Int), .int .u8 (y.toNat : Int)] w fun e w' => e = .returned (.bool true) ∧ Kept noBlock w w' := by
  have hsr := someV_right ss
  have hsf := right_fits hsr
  have AW := Lib.hid (awake9_any w)
  have SO : Hid (∀ u, Kept noBlock w u → Calls Try.prog 9 #[.slice a n c] u fun en w' => ∃ A' c' B' d', en = .returned (stv (someV ss) A' c' B' d') ∧ Sv w' (fun _ => True) (someV ss) A' c' B' d' ∧ Kept noBlock u w') := fun u k => by
    refine (some_any F a n c ss u (h.keep k (fun _ _ h => h)) hl hnc).mono ?_
    rintro en w' ⟨A, c, B, d, rfl, sv, k⟩
    exact ⟨A, c, B, d, rfl, sv.mono (fun _ _ => trivial), k⟩
  obtain ⟨s, hs⟩ : ∃ s, s = someV ss := ⟨_, rfl⟩
  rw [← hs] at hsr hsf SO
  obtain ⟨m, hm⟩ : ∃ m, s.bytes.length = m := ⟨_, rfl⟩
  rw [hm] at hsf
  have hfl : (fullB s).length = m + 35 := by rw [fullB_length, hm]; omega
  have FU : Hid (∀ u A c B d, Sv u (fun _ => True) s A c B d → Calls Try.prog 10 #[stv s A c B d] u fun e w' => ∃ P cp, e = .returned (.tuple #[.slice P (m + 35) cp, .int .i64 0]) ∧ w'.ownsRow u.heap.size 5 1 (.slice P (m + 35) cp) (m + 35) ((fullB s).map bv) ∧ Kept noBlock u w') := fun u A c B d sv => full_any _ s A c B d m u sv hm hsf
  have RF : Hid (∀ u P cp, Lies u (fun _ => True) P ((fullB s).map bv) → m + 35 ≤ cp → Calls Try.prog 11 #[.slice P (m + 35) cp] u fun e w' => ∃ A c B d, e = .returned (.tuple #[stv s A c B d, .int .i64 0]) ∧ Sv w' (fun _ => True) s A c B d ∧ Kept noBlock u w') := fun u P cp h1 h2 => by
    have h := rfull_any (fun _ => True) P (m + 35) cp (fullB s) u h1 hfl (by omega) h2
    rw [(okF_full hsr).2, errF_full hsr] at h
    refine h.mono ?_
    rintro e w' ⟨A, c, B, d, rfl, sv, k⟩
    exact ⟨A, c, B, d, rfl, sv.mono (fun _ _ => trivial), k⟩
  have SA : Hid (∀ u A c B d A' c' B' d', Sv u (fun _ => True) s A c B d → Sv u (fun _ => True) s A' c' B' d' → Calls Try.prog 12 #[stv s A c B d, stv s A' c' B' d'] u (Says u true)) := fun u A c B d A' c' B' d' h1 h2 => by
    have h := same_any _ _ s s A c B d A' c' B' d' u h1 h2 (by omega) (by omega)
    rw [decide_eq_true rfl] at h
    exact h
  have SB := Lib.hid (fun u A c B d (sv : Sv u (fun _ => True) s A c B d) => sbytes_any (fun _ => True) s A c B d m u sv hm (by omega))
  have HH : Hid (∀ u, Calls Try.prog 13 #[.int .i64 0, .int .i64 s.index, .int .i64 s.index] u fun e w' => e = .returned (.string (str (headB 0 s.index s.index))) ∧ Kept noBlock u w') := fun u => lhead_any 0 s.index s.index u
  have FO := Lib.hid (fun u P cp (hp : Lies u (fun _ => True) P (s.bytes.map bv)) => form_any (fun _ => True) P m cp s.bytes u hp hm hsf)
  have HCAT : Hid (str (headB 0 s.index s.index) ++ str (frm s.bytes) = str (fullB s)) := by unfold Hid fullB; rw [str_append]
  have HSZ : Hid ((9223372036854775807 < (str (headB 0 s.index s.index)).size + (str (frm s.bytes)).size) = False) := eq_false (by rw [str_size, str_size, headB_length, frm_length]; omega)
  have FLIP := Lib.hid (fun k x (hx : (fullB s)[k]? = some x) hk hy => full_flip hsr k x y hx hk hy)
  obtain ⟨Hd, hHd⟩ : ∃ Hd, Hd = str (headB 0 s.index s.index) := ⟨_, rfl⟩
  obtain ⟨Fb, hFb⟩ : ∃ Fb, Fb = str (frm s.bytes) := ⟨_, rfl⟩
  obtain ⟨L, hL⟩ : ∃ L, L = fullB s := ⟨_, rfl⟩
  rw [← hHd] at HH HCAT HSZ
  rw [← hFb] at FO HCAT HSZ
  rw [← hL] at hfl FU RF HCAT FLIP
  obtain ⟨N, hN⟩ : ∃ N, N = m + 35 := ⟨_, rfl⟩
  rw [← hN] at hfl FU RF
  have HN9 : 35 ≤ N ∧ N ≤ 16419 := by omega
  have HFL := Lib.hid hfl
  clear hHd hFb hL hs hm hfl h hl hN hsr
  go_enter Try.func3, Try.ntmps3
  go_wp2_with fail
  refine AW.out.mono ?_
  rintro e w1 ⟨rfl, k1⟩
  have K1 := Lib.hid k1
  clear AW k1
  go_wp2_with fail
  refine (SO.out w1 K1.out).mono ?_
  rintro e w2 ⟨A, c2, B, d2, rfl, sv2, k2⟩
  unfold stv at *
  go_upto_region 4 with (fail)
  have ka := Kept.alloc noBlock w2 (.cells #[.int .i64 s.index, .int .i64 s.term, .slice A s.pairs.length c2, .slice B s.sess.length d2] 28)
  have ha := heap_alloc_new w2 (.cells #[.int .i64 s.index, .int .i64 s.term, .slice A s.pairs.length c2, .slice B s.sess.length d2] 28)
  generalize w2.alloc (.cells #[.int .i64 s.index, .int .i64 s.term, .slice A s.pairs.length c2, .slice B s.sess.length d2] 28) = w3 at ka ha ⊢
  obtain ⟨X, hX⟩ : ∃ X, X = w2.heap.size := ⟨_, rfl⟩
  rw [← hX] at ha ⊢
  have HA := Lib.hid ha
  have K3 := Lib.hid (K1.out.step (k2.step ka))
  have SV3 := Lib.hid (sv2.kept ka)
  obtain ⟨x0, x1, x2, x3⟩ := st_cells ha
  clear ka ha hX sv2 k2 SO K1
  go_wp2_with fail
  refine (FU.out w3 A c2 B d2 SV3.out).mono ?_
  rintro e w4 ⟨P, cp, rfl, o4, k4⟩
  have hcp : N ≤ cp := by obtain ⟨_, _, e, hle⟩ := own_form o4; injection e with _ _ e; omega
  have O4 := Lib.hid o4
  have L4 := Lib.hid (Lies.of_own (F := fun _ => True) o4 (fun _ _ => trivial))
  have K4 := Lib.hid (K3.out.step k4)
  have HA4 := Lib.hid (k4.blk HA.out (fun h => h))
  have SV4 := Lib.hid (SV3.out.kept k4)
  have Z34 : Hid (w.heap.size ≤ w3.heap.size) := K3.out.size
  clear o4 k4 FU x0 x1 x2 x3 HA SV3
  go_wp2_with fail
  refine (RF.out w4 P cp L4.out hcp).mono ?_
  rintro e w5 ⟨A5, c5, B5, d5, rfl, sv5, k5⟩
  go_upto_region 6 with (fail)
  have ka := Kept.alloc noBlock w5 (.cells #[.int .i64 s.index, .int .i64 s.term, .slice A5 s.pairs.length c5, .slice B5 s.sess.length d5] 28)
  have ha := heap_alloc_new w5 (.cells #[.int .i64 s.index, .int .i64 s.term, .slice A5 s.pairs.length c5, .slice B5 s.sess.length d5] 28)
  generalize w5.alloc (.cells #[.int .i64 s.index, .int .i64 s.term, .slice A5 s.pairs.length c5, .slice B5 s.sess.length d5] 28) = w6 at ka ha ⊢
  obtain ⟨Y, hY⟩ : ∃ Y, Y = w5.heap.size := ⟨_, rfl⟩
  rw [← hY] at ha ⊢
  have K6 := Lib.hid (K4.out.step (k5.step ka))
  have CE : Hid (∀ u, Kept noBlock w6 u → (u.cell? ⟨X, 0, none⟩ = some (.int .i64 s.index) ∧ u.cell? ⟨X, 1, none⟩ = some (.int .i64 s.term) ∧ u.cell? ⟨X, 2, none⟩ = some (.slice A s.pairs.length c2) ∧ u.cell? ⟨X, 3, none⟩ = some (.slice B s.sess.length d2)) ∧
      (u.cell? ⟨Y, 0, none⟩ = some (.int .i64 s.index) ∧ u.cell? ⟨Y, 1, none⟩ = some (.int .i64 s.term) ∧ u.cell? ⟨Y, 2, none⟩ = some (.slice A5 s.pairs.length c5) ∧ u.cell? ⟨Y, 3, none⟩ = some (.slice B5 s.sess.length d5)) ∧
      (convert 30 9 (.slice P N cp)).run Try.prog u = .ok (.string (str L)) u) := fun u k =>
    ⟨st_cells (k.blk (((k5.step ka).blk HA4.out (fun h => h))) (fun h => h)), st_cells (k.blk ha (fun h => h)), run_str9 (L4.out.keep ((k5.step ka).step k) (fun _ _ h => h)) HFL.out cp⟩
  have SVX := Lib.hid (SV4.out.kept (k5.step ka))
  have SVY := Lib.hid (sv5.kept ka)
  have O6 := Lib.hid (own_keep O4.out (k5.step ka) (fun _ _ h => h))
  obtain ⟨T, hT⟩ : ∃ T, T = str L := ⟨_, rfl⟩
  rw [← hT] at CE HCAT
  clear ka ha hY sv5 k5 O4 L4 HA4 SV4 hT K4 K3
  have hcat := HCAT.out
  have hsz := HSZ.out
  refine wp_region_noPanic ?_
  refine wp_region_held_drew (S := fun u => (u.cell? ⟨X, 0, none⟩ = some (.int .i64 s.index) ∧ u.cell? ⟨X, 1, none⟩ = some (.int .i64 s.term) ∧ u.cell? ⟨X, 2, none⟩ = some (.slice A s.pairs.length c2) ∧ u.cell? ⟨X, 3, none⟩ = some (.slice B s.sess.length d2)) ∧ (u.cell? ⟨Y, 0, none⟩ = some (.int .i64 s.index) ∧ u.cell? ⟨Y, 1, none⟩ = some (.int .i64 s.term) ∧ u.cell? ⟨Y, 2, none⟩ = some (.slice A5 s.pairs.length c5) ∧ u.cell? ⟨Y, 3, none⟩ = some (.slice B5 s.sess.length d5)) ∧ (convert 30 9 (.slice P N cp)).run Try.prog u = .ok (.string T) u) (by kernel_rfl) (CE.out _ (Kept.drew _ _)) (fun hHeld => ?_)
  refine wpAnyH_take (i := 0) (oi := ⟨some 29, Op.move (Operand.tmp 9), 31, _, _, none⟩) (v := ?v0n1k1) rfl (by kernel_rfl) (by kernel_rfl) (by kernel_rfl) (fun _ _ _ h => h) (Or.inl ⟨by rfl, ?y0n1k1⟩) hHeld ?z0n1k1
  case y0n1k1 => intro w hSw; (try dsimp only at hSw); go_simp <;> rfl
  try simp only [Act.put, List.setIfInBounds_toArray, List.set_cons_zero, List.set_cons_succ]
  refine wpAnyH_take (i := 1) (oi := ⟨some 30, Op.binOp BinOp.neq 31 (Operand.tmp 29) (Operand.const (Value.int IntKind.i64 0)) 31, 4, _, _, none⟩) (v := ?v1n1k2) rfl (by kernel_rfl) (by kernel_rfl) (by kernel_rfl) (fun _ _ _ h => h) (Or.inl ⟨by rfl, ?y1n1k2⟩) hHeld ?z1n1k2
  case y1n1k2 => intro w hSw; (try dsimp only at hSw); go_simp <;> rfl
  try simp only [Act.put, List.setIfInBounds_toArray, List.set_cons_zero, List.set_cons_succ]
  refine wpAnyH_take (i := 2) (oi := ⟨some 31, Op.move (Operand.tmp 30), 4, _, _, none⟩) (v := ?v2n1k3) rfl (by kernel_rfl) (by kernel_rfl) (by kernel_rfl) (fun _ _ _ h => h) (Or.inl ⟨by rfl, ?y2n1k3⟩) hHeld ?z2n1k3
  case y2n1k3 => intro w hSw; (try dsimp only at hSw); go_simp <;> rfl
  try simp only [Act.put, List.setIfInBounds_toArray, List.set_cons_zero, List.set_cons_succ]
  refine wpAnyH_take (i := 3) (oi := ⟨some 32, Op.move (Operand.tmp 11), 31, _, _, some (2, false)⟩) (v := ?v3n1k4) rfl (by kernel_rfl) (by kernel_rfl) (by kernel_rfl) (fun _ _ _ h => h) (Or.inl ⟨by rfl, ?y3n1k4⟩) hHeld ?z3n1k4
  case y3n1k4 => intro w hSw; (try dsimp only at hSw); go_simp <;> rfl
  try simp only [Act.put, List.setIfInBounds_toArray, List.set_cons_zero, List.set_cons_succ]
  refine wpAnyH_take (i := 4) (oi := ⟨some 33, Op.binOp BinOp.neq 31 (Operand.tmp 32) (Operand.const (Value.int IntKind.i64 0)) 31, 4, _, _, some (2, false)⟩) (v := ?v4n1k5) rfl (by kernel_rfl) (by kernel_rfl) (by kernel_rfl) (fun _ _ _ h => h) (Or.inl ⟨by rfl, ?y4n1k5⟩) hHeld ?z4n1k5
  case y4n1k5 => intro w hSw; (try dsimp only at hSw); go_simp <;> rfl
  try simp only [Act.put, List.setIfInBounds_toArray, List.set_cons_zero, List.set_cons_succ]
  refine wpAnyH_take (i := 5) (oi := ⟨some 34, Op.pick (Operand.tmp 31) (Operand.const (Value.bool true)) (Operand.tmp 33), 4, _, _, none⟩) (v := ?v5n1k6) rfl (by kernel_rfl) (by kernel_rfl) (by kernel_rfl) (fun _ _ _ h => h) (Or.inl ⟨by rfl, ?y5n1k6⟩) hHeld ?z5n1k6
  case y5n1k6 => intro w hSw; (try dsimp only at hSw); go_simp <;> rfl
  try simp only [Act.put, List.setIfInBounds_toArray, List.set_cons_zero, List.set_cons_succ]
  refine wpAnyH_take (i := 6) (oi := ⟨some 35, Op.move (Operand.tmp 34), 4, _, _, none⟩) (v := ?v6n1k7) rfl (by kernel_rfl) (by kernel_rfl) (by kernel_rfl) (fun _ _ _ h => h) (Or.inl ⟨by rfl, ?y6n1k7⟩) hHeld ?z6n1k7
  case y6n1k7 => intro w hSw; (try dsimp only at hSw); go_simp <;> rfl
  try simp only [Act.put, List.setIfInBounds_toArray, List.set_cons_zero, List.set_cons_succ]
  refine wpAnyH_take (i := 7) (oi := ⟨some 36, Op.load 28 (Operand.tmp 7), 28, _, _, some (6, false)⟩) (v := ?v7n1k8) rfl (by kernel_rfl) (by kernel_rfl) (by kernel_rfl) (fun _ _ _ h => h) (Or.inl ⟨by rfl, ?y7n1k8⟩) hHeld ?z7n1k8
  case y7n1k8 => intro w hSw; (try dsimp only at hSw); go_simp <;> rfl
  try simp only [Act.put, List.setIfInBounds_toArray, List.set_cons_zero, List.set_cons_succ]
  refine wpAnyH_take (i := 8) (oi := ⟨some 37, Op.load 28 (Operand.tmp 10), 28, _, _, some (6, false)⟩) (v := ?v8n1k9) rfl (by kernel_rfl) (by kernel_rfl) (by kernel_rfl) (fun _ _ _ h => h) (Or.inl ⟨by rfl, ?y8n1k9⟩) hHeld ?z8n1k9
  case y8n1k9 => intro w hSw; (try dsimp only at hSw); go_simp <;> rfl
  try simp only [Act.put, List.setIfInBounds_toArray, List.set_cons_zero, List.set_cons_succ]
  refine wpAnyH_ready (rs := [9]) (by kernel_rfl) (by simp) ?_
  refine AllReadyH.cons (o := ⟨some 38, Op.call { callee := Callee.value (Operand.func 12), args := #[Operand.tmp 36, Operand.tmp 37], argTypes := #[28, 28] }, 4, _, _, some (6, false)⟩) rfl (fun K hK => ?_) AllReadyH.nil
  go_simp
  refine (SA.out _ _ _ _ _ _ _ _ _ (SVX.out.kept (Kept.drew _ _)) (SVY.out.kept (Kept.drew _ _))).mono ?_
  rintro e w7 ⟨rfl, k7⟩
  have K7 := Lib.hid ((Kept.drew noBlock w6).step k7)
  clear k7
  dsimp only
  refine hK.out _ _ (CE.out _ K7.out) (fun hHeld => ?_)
  clear hK K
  try simp only [Act.put, List.setIfInBounds_toArray, List.set_cons_zero, List.set_cons_succ]
  refine wpAnyH_take (i := 10) (oi := ⟨some 39, Op.unOp UnOp.not 4 (Operand.tmp 38), 4, _, _, some (6, false)⟩) (v := ?v10n1k10) rfl (by kernel_rfl) (by kernel_rfl) (by kernel_rfl) (fun _ _ _ h => h) (Or.inl ⟨by rfl, ?y10n1k10⟩) hHeld ?z10n1k10
  case y10n1k10 => intro w hSw; (try dsimp only at hSw); go_simp <;> rfl
  try simp only [Act.put, List.setIfInBounds_toArray, List.set_cons_zero, List.set_cons_succ]
  refine wpAnyH_take (i := 11) (oi := ⟨some 40, Op.pick (Operand.tmp 35) (Operand.const (Value.bool true)) (Operand.tmp 39), 4, _, _, none⟩) (v := ?v11n1k11) rfl (by kernel_rfl) (by kernel_rfl) (by kernel_rfl) (fun _ _ _ h => h) (Or.inl ⟨by rfl, ?y11n1k11⟩) hHeld ?z11n1k11
  case y11n1k11 => intro w hSw; (try dsimp only at hSw); go_simp <;> rfl
  try simp only [Act.put, List.setIfInBounds_toArray, List.set_cons_zero, List.set_cons_succ]
  refine wpAnyH_take (i := 12) (oi := ⟨some 41, Op.move (Operand.tmp 40), 4, _, _, none⟩) (v := ?v12n1k12) rfl (by kernel_rfl) (by kernel_rfl) (by kernel_rfl) (fun _ _ _ h => h) (Or.inl ⟨by rfl, ?y12n1k12⟩) hHeld ?z12n1k12
  case y12n1k12 => intro w hSw; (try dsimp only at hSw); go_simp <;> rfl
  try simp only [Act.put, List.setIfInBounds_toArray, List.set_cons_zero, List.set_cons_succ]
  refine wpAnyH_take (i := 13) (oi := ⟨some 42, Op.move (Operand.tmp 8), 30, _, _, some (12, false)⟩) (v := ?v13n1k13) rfl (by kernel_rfl) (by kernel_rfl) (by kernel_rfl) (fun _ _ _ h => h) (Or.inl ⟨by rfl, ?y13n1k13⟩) hHeld ?z13n1k13
  case y13n1k13 => intro w hSw; (try dsimp only at hSw); go_simp <;> rfl
  try simp only [Act.put, List.setIfInBounds_toArray, List.set_cons_zero, List.set_cons_succ]
  refine wpAnyH_take (i := 14) (oi := ⟨some 43, Op.convert 30 9 (Operand.tmp 42), 9, _, _, some (12, false)⟩) (v := ?v14n1k14) rfl (by kernel_rfl) (by kernel_rfl) (by kernel_rfl) (fun _ _ _ h => h) (Or.inl ⟨by rfl, ?y14n1k14⟩) hHeld ?z14n1k14
  case y14n1k14 => intro w hSw; (try dsimp only at hSw); go_simp <;> rfl
  try simp only [Act.put, List.setIfInBounds_toArray, List.set_cons_zero, List.set_cons_succ]
  refine wpAnyH_take (i := 15) (oi := ⟨some 44, Op.fieldAddr 28 (Operand.tmp 7) 0, 0, _, _, some (12, false)⟩) (v := ?v15n1k15) rfl (by kernel_rfl) (by kernel_rfl) (by kernel_rfl) (fun _ _ _ h => h) (Or.inl ⟨by rfl, ?y15n1k15⟩) hHeld ?z15n1k15
  case y15n1k15 => intro w hSw; (try dsimp only at hSw); go_simp <;> rfl
  try simp only [Act.put, List.setIfInBounds_toArray, List.set_cons_zero, List.set_cons_succ]
  refine wpAnyH_take (i := 16) (oi := ⟨some 45, Op.load 3 (Operand.tmp 44), 3, _, _, some (12, false)⟩) (v := ?v16n1k16) rfl (by kernel_rfl) (by kernel_rfl) (by kernel_rfl) (fun _ _ _ h => h) (Or.inl ⟨by rfl, ?y16n1k16⟩) hHeld ?z16n1k16
  case y16n1k16 => intro w hSw; (try dsimp only at hSw); go_simp <;> rfl
  try simp only [Act.put, List.setIfInBounds_toArray, List.set_cons_zero, List.set_cons_succ]
  refine wpAnyH_take (i := 17) (oi := ⟨some 46, Op.fieldAddr 28 (Operand.tmp 7) 0, 0, _, _, some (12, false)⟩) (v := ?v17n1k17) rfl (by kernel_rfl) (by kernel_rfl) (by kernel_rfl) (fun _ _ _ h => h) (Or.inl ⟨by rfl, ?y17n1k17⟩) hHeld ?z17n1k17
  case y17n1k17 => intro w hSw; (try dsimp only at hSw); go_simp <;> rfl
  try simp only [Act.put, List.setIfInBounds_toArray, List.set_cons_zero, List.set_cons_succ]
  refine wpAnyH_take (i := 18) (oi := ⟨some 47, Op.load 3 (Operand.tmp 46), 3, _, _, some (12, false)⟩) (v := ?v18n1k18) rfl (by kernel_rfl) (by kernel_rfl) (by kernel_rfl) (fun _ _ _ h => h) (Or.inl ⟨by rfl, ?y18n1k18⟩) hHeld ?z18n1k18
  case y18n1k18 => intro w hSw; (try dsimp only at hSw); go_simp <;> rfl
  try simp only [Act.put, List.setIfInBounds_toArray, List.set_cons_zero, List.set_cons_succ]
  refine wpAnyH_take (i := 20) (oi := ⟨some 49, Op.load 28 (Operand.tmp 7), 28, _, _, some (12, false)⟩) (v := ?v20n1k19) rfl (by kernel_rfl) (by kernel_rfl) (by kernel_rfl) (fun _ _ _ h => h) (Or.inl ⟨by rfl, ?y20n1k19⟩) hHeld ?z20n1k19
  case y20n1k19 => intro w hSw; (try dsimp only at hSw); go_simp <;> rfl
  try simp only [Act.put, List.setIfInBounds_toArray, List.set_cons_zero, List.set_cons_succ]
  refine wpAnyH_ready (rs := [19]) (by kernel_rfl) (by simp) ?_
  refine AllReadyH.cons (o := ⟨some 48, Op.call { callee := Callee.value (Operand.func 13), args := #[Operand.const (Value.int IntKind.i64 0), Operand.tmp 45, Operand.tmp 47], argTypes := #[3, 3, 3] }, 9, _, _, some (12, false)⟩) rfl (fun K hK => ?_) AllReadyH.nil
  go_simp
  refine (HH.out _).mono ?_
  rintro e w8 ⟨rfl, k8⟩
  have K8 := Lib.hid (K7.out.step k8)
  clear k8
  dsimp only
  refine hK.out _ _ (CE.out _ K8.out) (fun hHeld => ?_)
  clear hK K
  try simp only [Act.put, List.setIfInBounds_toArray, List.set_cons_zero, List.set_cons_succ]
  refine wpAnyH_ready (rs := [21]) (by kernel_rfl) (by simp) ?_
  refine AllReadyH.cons (o := ⟨some 50, Op.call { callee := Callee.value (Operand.func 15), args := #[Operand.tmp 49], argTypes := #[28] }, 30, _, _, some (12, false)⟩) rfl (fun K hK => ?_) AllReadyH.nil
  go_simp
  refine (SB.out _ _ _ _ _ (SVX.out.kept K8.out)).mono ?_
  rintro e w9 ⟨P9, c9, rfl, o9, k9⟩
  have K9 := Lib.hid (K8.out.step k9)
  have L9 := Lib.hid (Lies.of_own (F := fun _ => True) o9 (fun _ _ => trivial))
  clear k9 o9
  dsimp only
  refine hK.out _ _ (CE.out _ K9.out) (fun hHeld => ?_)
  clear hK K
  try simp only [Act.put, List.setIfInBounds_toArray, List.set_cons_zero, List.set_cons_succ]
  refine wpAnyH_ready (rs := [22]) (by kernel_rfl) (by simp) ?_
  refine AllReadyH.cons (o := ⟨some 51, Op.call { callee := Callee.value (Operand.func 14), args := #[Operand.tmp 50], argTypes := #[30] }, 9, _, _, some (12, false)⟩) rfl (fun K hK => ?_) AllReadyH.nil
  go_simp
  refine (FO.out _ _ _ L9.out).mono ?_
  rintro e w10 ⟨rfl, k10⟩
  have K10 := Lib.hid (K9.out.step k10)
  clear k10
  dsimp only
  refine hK.out _ _ (CE.out _ K10.out) (fun hHeld => ?_)
  clear hK K
  try simp only [Act.put, List.setIfInBounds_toArray, List.set_cons_zero, List.set_cons_succ]
  refine wpAnyH_take (i := 23) (oi := ⟨some 52, Op.binOp BinOp.add 9 (Operand.tmp 48) (Operand.tmp 51) 9, 9, _, _, some (12, false)⟩) (v := ?v23n1k20) rfl (by kernel_rfl) (by kernel_rfl) (by kernel_rfl) (fun _ _ _ h => h) (Or.inl ⟨by rfl, ?y23n1k20⟩) hHeld ?z23n1k20
  case y23n1k20 => intro w hSw; (try dsimp only at hSw); go_simp <;> rfl
  try simp only [Act.put, List.setIfInBounds_toArray, List.set_cons_zero, List.set_cons_succ]
  refine wpAnyH_take (i := 24) (oi := ⟨some 53, Op.binOp BinOp.neq 9 (Operand.tmp 43) (Operand.tmp 52) 9, 4, _, _, some (12, false)⟩) (v := ?v24n1k21) rfl (by kernel_rfl) (by kernel_rfl) (by kernel_rfl) (fun _ _ _ h => h) (Or.inl ⟨by rfl, ?y24n1k21⟩) hHeld ?z24n1k21
  case y24n1k21 => intro w hSw; (try dsimp only at hSw); go_simp <;> rfl
  try simp only [Act.put, List.setIfInBounds_toArray, List.set_cons_zero, List.set_cons_succ]
  refine wpAnyH_take (i := 25) (oi := ⟨some 54, Op.pick (Operand.tmp 41) (Operand.const (Value.bool true)) (Operand.tmp 53), 4, _, _, none⟩) (v := ?v25n1k22) rfl (by kernel_rfl) (by kernel_rfl) (by kernel_rfl) (fun _ _ _ h => h) (Or.inl ⟨by rfl, ?y25n1k22⟩) hHeld ?z25n1k22
  case y25n1k22 => intro w hSw; (try dsimp only at hSw); go_simp <;> rfl
  try simp only [Act.put, List.setIfInBounds_toArray, List.set_cons_zero, List.set_cons_succ]
  refine wpAnyH_done (by kernel_rfl) ?_ _
  refine NoPanic.normal ?_
  clear hcat hsz
  have K10w := Lib.hid (K6.out.step K10.out)
  have O10 := Lib.hid (own_keep O6.out K10.out (fun _ _ h => h))
  clear SA SB HH FO CE SVX SVY O6 K6 K7 K8 K9 K10 L9 HCAT HSZ
  clear hHeld
  have h35 : 35 ≤ N := HN9.1
  have hN16 : N ≤ 16419 := HN9.2
  clear HN9
  obtain ⟨r1, hr1⟩ : ∃ r, r = at_ % 22 := ⟨_, rfl⟩
  obtain ⟨r2, hr2⟩ : ∃ r, r = at_ % (N - 30) := ⟨_, rfl⟩
  obtain ⟨r3, hr3⟩ : ∃ r, r = at_ % 3 := ⟨_, rfl⟩
  have b1 : r1 < 22 := by rw [hr1]; exact Nat.mod_lt _ (by omega)
  have b2 : r2 < N - 30 := by rw [hr2]; exact Nat.mod_lt _ (by omega)
  have i1 : (at_ : Int) % 22 = (r1 : Int) := by omega
  have i2 : (at_ : Int) % ((N : Int) - 30) = (r2 : Int) := by
    have e : (N : Int) - 30 = ((N - 30 : Nat) : Int) := by omega
    rw [hr2, e]
    omega
  have i3 : (at_ : Int) % 3 = (r3 : Int) := by omega
  obtain ⟨q1, hq1⟩ : ∃ q, q = 4 + r1 := ⟨_, rfl⟩
  obtain ⟨q2, hq2⟩ : ∃ q, q = 30 + r2 := ⟨_, rfl⟩
  have j1 : 4 + (r1 : Int) = (q1 : Int) := by omega
  have j2 : 30 + (r2 : Int) = (q2 : Int) := by omega
  have B1 : Hid (4 ≤ q1 ∧ q1 < 26) := ⟨by omega, by omega⟩
  have B2 : Hid (30 ≤ q2 ∧ q2 < N) := ⟨by omega, by omega⟩
  clear hr1 hr2 hr3 hq1 hq2
  go_upto_if 61 with (fail)
  go_cut [12] (fun x wc => ∃ K : Nat, x = .int .i64 (K : Int) ∧ w10 = wc ∧ Hid (4 ≤ K ∧ K < 26 ∨ 30 ≤ K) ∧ K < N)
  case first =>
    by_cases hr : 0 < r3
    · have hri : (0 : Int) < (r3 : Int) := by omega
      go_wp2
      go_meet
      case rel => exact ⟨q2, rfl, rfl, .inr B2.out.1, B2.out.2⟩
    · obtain rfl : r3 = 0 := by omega
      go_wp2
      go_meet
      case rel => exact ⟨q1, rfl, rfl, .inl B1.out, by have := B1.out.2; omega⟩
  case rest =>
    obtain ⟨K, rfl, rfl, HK, hKN⟩ := hcut
    clear i1 i2 i3 j1 j2 B1 B2 b1 b2
    obtain ⟨g, cap, hv, _, _⟩ := O10.out.form (by omega)
    obtain ⟨rfl, rfl⟩ : P = some ⟨g, 0, none⟩ ∧ cp = cap := by injection hv with a b c; exact ⟨a, c⟩
    have hg := (O10.out.lt g rfl).1
    clear hv
    obtain ⟨x, hx⟩ : ∃ x, L[K]? = some x := ⟨_, List.getElem?_eq_getElem (by have := HFL.out; omega)⟩
    have hcx : w10.cell? ⟨g, K, none⟩ = some (.int .u8 (x.toNat : Int)) := by rw [O10.out.cellAt K (by omega)]; rw [List.getElem?_map, hx]; rfl
    have hf : w10.frozen? ⟨g, K, none⟩ = false := O10.out.frozenAt _
    obtain ⟨z, hz⟩ : ∃ z : UInt8, z = x ^^^ y := ⟨_, rfl⟩
    have hxor : bits BinOp.xor IntKind.u8 (x.toNat : Int) (y.toNat : Int) = (z.toNat : Int) := by rw [hz, UInt8.toNat_xor]; exact u8_xor_nat _ _ x.toNat_lt y.toNat_lt
    have HS := Lib.hid (O10.out.stored K (.int .u8 (z.toNat : Int)))
    have hset : (L.map bv).set K (.int .u8 (z.toNat : Int)) = (L.set K z).map bv := by rw [List.map_set]; rfl
    rw [hset] at HS
    have hKi : (K : Int) < (N : Int) := by omega
    have FL := Lib.hid (fun hy => FLIP.out K x hx HK.out hy)
    rw [← hz] at FL
    have HZ := Lib.hid hz
    have HX := Lib.hid hx
    clear hz hset hx FLIP
    go_upto_region 11 with (fail)
    go_wp2_with fail
    have k3 : Kept noBlock w (w10.setCell ⟨g, K, none⟩ (.int .u8 (z.toNat : Int))) := K10w.out.trans (Kept.setCell (S := fun i => i = g) _ (by rfl) _) (fun i hi h => by have := Z34.out; omega)
    have hl3 := Lies.of_own (F := fun _ => True) HS.out.1 (fun _ _ => trivial)
    generalize w10.setCell ⟨g, K, none⟩ (.int .u8 (z.toNat : Int)) = w11 at k3 hl3 ⊢
    have K11 := Lib.hid k3
    clear hf hcx hxor HS k3 O10 K10w
    refine (rfull_any (fun _ => True) _ N cp (L.set K z) w11 hl3 (by rw [List.length_set, HFL.out]) (by omega) hcp).mono ?_
    by_cases hy : y = 0
    · subst hy
      obtain ⟨G, hG⟩ : ∃ G, G = gotF (L.set K z) := ⟨_, rfl⟩
      obtain ⟨ge, hge⟩ : ∃ ge, ge = errF (L.set K z) := ⟨_, rfl⟩
      rw [← hG, ← hge]
      clear hG hge FL
      rintro e w12 ⟨A6, c6, B6, d6, rfl, _, k12⟩
      have K12 := Lib.hid (K11.out.step k12)
      clear k12
      unfold stv
      go_wp2
      go_ret
      exact ⟨rfl, K12.out.step (Kept.alloc _ _ _)⟩
    · obtain ⟨h1, h2⟩ := FL.out hy
      have hy2 : ((y.toNat : Int) == 0) = false := beq_false_of_ne (fun h => hy (UInt8.toNat_inj.1 (by show y.toNat = 0; omega)))
      rw [h1, h2]
      clear h1 h2 FL hy
      rintro e w12 ⟨A6, c6, B6, d6, rfl, _, k12⟩
      have K12 := Lib.hid (K11.out.step k12)
      clear k12
      unfold stv noState
      go_wp2
      go_ret
      exact ⟨rfl, K12.out.step (Kept.alloc _ _ _)⟩
end Go.Proofs.Ythmjjhjblokjeaa
