/-
  Several texts, one behind the other. No statement is proved here.
-/
import Derived.Test.YthmjjhjblokjeaaGreatLawK
import Derived.Test.YthmjjhjblokjeaaGreatBoxA
import Derived.Test.YthmjjhjblokjeaaGreatStgK
import Derived.Test.YthmjjhjblokjeaaGreatPutK
/-
  A delta as a value; what layer 8's functions are to do, as the statements' walks ask it. No statement is proved here.
-/
namespace Go.Proofs.YthmjjhjblokjeaaGreat
open Go.RowKit Tot

/-- A delta as a value. -/
def dtv (s : DltV) (A : Option Addr) (c : Nat) (B : Option Addr) (d : Nat) : Value := .agg #[.int .i64 s.from_, .int .i64 s.to_, .int .i64 s.term, .slice A s.pairs.length c, .slice B s.sess.length d]
/-- Its rows lie in blocks of F. -/
structure Dv (w : World) (F : Nat → Prop) (s : DltV) (A : Option Addr) (c : Nat) (B : Option Addr) (d : Nat) : Prop where
  lp : Lies w F A (PR.cells s.pairs)
  ls : Lies w F B (SN.cells s.sess)
  cp : s.pairs.length ≤ c
  cs : s.sess.length ≤ d
section
variable {S F G : Nat → Prop} {w w' : World} {s : DltV} {A B : Option Addr} {c d : Nat}
theorem Dv.keep (h : Dv w F s A c B d) (k : Kept S w w') (hd : ∀ i, F i → ¬ S i) : Dv w' F s A c B d := ⟨h.lp.keep k hd, h.ls.keep k hd, h.cp, h.cs⟩
theorem Dv.kept (h : Dv w F s A c B d) (k : Kept noBlock w w') : Dv w' F s A c B d := h.keep k (fun _ _ h => h)
theorem Dv.mono (h : Dv w F s A c B d) (hG : ∀ i, F i → G i) : Dv w G s A c B d := ⟨h.lp.mono hG, h.ls.mono hG, h.cp, h.cs⟩
theorem dl_cells {R : Nat} {x0 x1 x2 x3 x4 : Value} {t : TypeId} {fr : Nat × Nat} (h : w.heap[R]? = some (.cells #[x0, x1, x2, x3, x4] t fr)) :
    w.cell? ⟨R, 0, none⟩ = some x0 ∧ w.cell? ⟨R, 1, none⟩ = some x1 ∧ w.cell? ⟨R, 2, none⟩ = some x2 ∧ w.cell? ⟨R, 3, none⟩ = some x3 ∧ w.cell? ⟨R, 4, none⟩ = some x4 :=
  ⟨cell_of_row _ _ _ _ _ _ h, cell_of_row _ _ _ _ _ _ h, cell_of_row _ _ _ _ _ _ h, cell_of_row _ _ _ _ _ _ h, cell_of_row _ _ _ _ _ _ h⟩
end
/-- What Between does. -/
def BetweenC : Prop := ∀ (F G : Nat → Prop) (s : StV) (A : Option Addr) (c : Nat) (B : Option Addr) (d : Nat) (t : StV) (A' : Option Addr) (c' : Nat) (B' : Option Addr) (d' : Nat) (w : World), Sv w F s A c B d → Sv w G t A' c' B' d' → s.Right → t.Right →
  Calls Tryz.prog 6 #[stv s A c B d, stv t A' c' B' d'] w fun en w' => ∃ A2 c2 B2 d2, en = .returned (.tuple #[dtv (betweenV s t).1 A2 c2 B2 d2, .int .i64 (betweenV s t).2]) ∧ Dv w' (fun i => F i ∨ G i ∨ fresh w w' i) (betweenV s t).1 A2 c2 B2 d2 ∧ Kept noBlock w w'
/-- What Right tells. -/
def DRightC : Prop := ∀ (F : Nat → Prop) (t : DltV) (A : Option Addr) (c : Nat) (B : Option Addr) (d : Nat) (w : World), Dv w F t A c B d → t.pairs.length ≤ 1099511627776 → t.sess.length ≤ 1099511627776 →
  Calls Tryz.prog 55 #[dtv t A c B d] w (Says w (decide t.Right))
/-- What Same tells. -/
def DSameC : Prop := ∀ (F G : Nat → Prop) (s : DltV) (A : Option Addr) (c : Nat) (B : Option Addr) (d : Nat) (t : DltV) (A' : Option Addr) (c' : Nat) (B' : Option Addr) (d' : Nat) (w : World), Dv w F s A c B d → Dv w G t A' c' B' d' → s.bytes.length ≤ 1000000 → t.bytes.length ≤ 1000000 →
  Calls Tryz.prog 11 #[dtv s A c B d, dtv t A' c' B' d'] w (Says w (decide (s.bytes = t.bytes)))
end Go.Proofs.YthmjjhjblokjeaaGreat

/-
  The contract of delta.Right. No statement is proved here.
-/
namespace Go.Proofs.YthmjjhjblokjeaaGreat
open Go.RowKit Tot

theorem dwithin_yes (n a b : Int) (w : World) (h1 : a ≤ n) (h2 : n ≤ b) : Calls Tryz.prog 83 #[.int .i64 n, .int .i64 a, .int .i64 b] w fun e w' => e = .returned (.bool true) ∧ w = w' := by
  go_enter Tryz.func83, Tryz.ntmps83
  go_wp2
  go_ret
  exact ⟨rfl, rfl⟩
theorem dwithin_no (n a b : Int) (w : World) (h : ¬ (a ≤ n ∧ n ≤ b)) : Calls Tryz.prog 83 #[.int .i64 n, .int .i64 a, .int .i64 b] w fun e w' => e = .returned (.bool false) ∧ w = w' := by
  by_cases h1 : a ≤ n
  · have h2 : ¬ n ≤ b := fun h2 => h ⟨h1, h2⟩
    clear h
    go_enter Tryz.func83, Tryz.ntmps83
    go_wp2
    go_ret
    exact ⟨rfl, rfl⟩
  · clear h
    go_enter Tryz.func83, Tryz.ntmps83
    go_wp2
    go_ret
    exact ⟨rfl, rfl⟩

set_option maxRecDepth 100000 in
set_option maxHeartbeats 1000000 in
theorem dright_any : DRightC := by
  intro F t A c B d w h hlp hls
  have RW := Lib.hid (fun u (k : Kept noBlock w u) => rows_any F A t.pairs.length c B t.sess.length d t.pairs t.sess 512 u (h.kept k).lp rfl h.cp hlp (h.kept k).ls rfl h.cs hls)
  have HA := Lib.hid (heap_alloc_new w (.cells #[.int .i64 t.from_, .int .i64 t.to_, .int .i64 t.term, .slice A t.pairs.length c, .slice B t.sess.length d] 31))
  have KA := Lib.hid (Kept.alloc noBlock w (.cells #[.int .i64 t.from_, .int .i64 t.to_, .int .i64 t.term, .slice A t.pairs.length c, .slice B t.sess.length d] 31))
  have NO : Hid (∀ u, Kept noBlock w u → ¬ t.Right → Says w (decide t.Right) (.returned (.bool false)) u) := fun u k hn => by
    rw [decide_eq_false hn]
    exact ⟨rfl, k⟩
  clear h hlp hls
  unfold dtv
  go_enter Tryz.func55, Tryz.ntmps55
  go_upto_region 1 with (fail)
  generalize w.alloc (.cells #[.int .i64 t.from_, .int .i64 t.to_, .int .i64 t.term, .slice A t.pairs.length c, .slice B t.sess.length d] 31) = w1 at HA KA ⊢
  obtain ⟨c0, c1, c2, c3, c4⟩ := dl_cells HA.out
  by_cases h1 : 0 ≤ t.from_ ∧ t.from_ ≤ t.to_
  · have H1 := Lib.hid h1
    clear h1
    go_wp2_with fail
    refine (dwithin_yes _ _ _ _ H1.out.1 H1.out.2).mono ?_
    rintro e w2 ⟨rfl, rfl⟩
    by_cases h3 : t.to_ ≤ 1048576
    · by_cases h4 : 0 ≤ t.term ∧ t.term ≤ 1048576
      · have H4 := Lib.hid h4
        clear h4
        go_wp2_with fail
        refine (dwithin_yes _ _ _ _ H4.out.1 H4.out.2).mono ?_
        rintro e w2 ⟨rfl, rfl⟩
        go_wp2_with fail
        refine (RW.out _ KA.out).mono ?_
        rintro e w2 ⟨rfl, k2⟩
        have FIN : Hid (Says w (decide t.Right) (.returned (.bool (decide (RowsOk t.pairs t.sess 512)))) w2) := by
          refine ⟨?_, KA.out.step k2⟩
          congr 2
          exact decide_eq_decide.2 ⟨fun h => ⟨⟨H1.out.1, H1.out.2, h3⟩, H4.out, h⟩, fun h => h.2.2⟩
        generalize decide (RowsOk t.pairs t.sess 512) = gb at FIN ⊢
        clear k2 NO RW
        go_wp2
        go_ret
        exact FIN.out
      · have N := Lib.hid (show ¬ t.Right from fun h => h4 h.2.1)
        go_wp2_with fail
        refine (dwithin_no _ _ _ _ h4).mono ?_
        rintro e w2 ⟨rfl, rfl⟩
        go_wp2
        go_ret
        exact NO.out _ KA.out N.out
    · have N := Lib.hid (show ¬ t.Right from fun h => h3 h.1.2.2)
      go_wp2
      go_ret
      exact NO.out _ KA.out N.out
  · have N := Lib.hid (show ¬ t.Right from fun h => h1 ⟨h.1.1, h.1.2.1⟩)
    go_wp2_with fail
    refine (dwithin_no _ _ _ _ h1).mono ?_
    rintro e w2 ⟨rfl, rfl⟩
    go_wp2
    go_ret
    exact NO.out _ KA.out N.out
end Go.Proofs.YthmjjhjblokjeaaGreat

/-
  The contracts of delta.Bytes and delta.Same, for code that writes the three numbers in a chain and then the rows, and compares bytes. No statement is proved here.
-/
namespace Go.Proofs.YthmjjhjblokjeaaGreat
open Go.RowKit Tot

theorem DltV.bytes_length (s : DltV) : s.bytes.length = 24 + (rowsB s.pairs s.sess).length := by
  unfold DltV.bytes
  simp only [List.length_append, be8_length]
  omega

set_option maxRecDepth 100000 in
set_option maxHeartbeats 1000000 in
theorem dbytes_any (F : Nat → Prop) (s : DltV) (A : Option Addr) (c : Nat) (B : Option Addr) (d : Nat) (n : Nat) (w : World) (h : Dv w F s A c B d) (hn : s.bytes.length = n) (hx : n ≤ 140737488355328) :
    Calls Tryz.prog 14 #[dtv s A c B d] w fun e w' => ∃ P cp, e = .returned (.slice P n cp) ∧ w'.ownsRow w.heap.size 5 1 (.slice P n cp) n (s.bytes.map bv) ∧ Kept noBlock w w' := by
  have ka := Kept.alloc noBlock w (.cells #[.int .i64 s.from_, .int .i64 s.to_, .int .i64 s.term, .slice A s.pairs.length c, .slice B s.sess.length d] 31)
  have ha := heap_alloc_new w (.cells #[.int .i64 s.from_, .int .i64 s.to_, .int .i64 s.term, .slice A s.pairs.length c, .slice B s.sess.length d] 31)
  have hs1 : (w.alloc (.cells #[.int .i64 s.from_, .int .i64 s.to_, .int .i64 s.term, .slice A s.pairs.length c, .slice B s.sess.length d] 31)).heap.size = w.heap.size + 1 := by simp
  have KA := Lib.hid ka
  have HA := Lib.hid ha
  have HS1 := Lib.hid hs1
  have hlen := s.bytes_length
  rw [hn] at hlen
  have HLEN := Lib.hid hlen
  have HN := Lib.hid hn
  have HL1 := Lib.hid h.lp.lt
  have HL2 := Lib.hid h.ls.lt
  have hcp := h.cp
  have hcs := h.cs
  clear ka ha hs1 hlen hn h
  unfold dtv
  go_enter Tryz.func14, Tryz.ntmps14
  go_upto_region 1 with (fail)
  generalize w.alloc (.cells #[.int .i64 s.from_, .int .i64 s.to_, .int .i64 s.term, .slice A s.pairs.length c, .slice B s.sess.length d] 31) = w1 at KA HA HS1 ⊢
  have p0 := Pen.new w1
  obtain ⟨b, hb⟩ : ∃ b, b = w1.heap.size := ⟨_, rfl⟩
  have kn := Kept.alloc noBlock w1 (.cells #[.slice none 0 0] 90)
  have CE : Hid (∀ u xs, Pen (w1.alloc (.cells #[.slice none 0 0] 90)) u b xs → u.cell? ⟨w.heap.size, 0, none⟩ = some (.int .i64 s.from_) ∧ u.cell? ⟨w.heap.size, 1, none⟩ = some (.int .i64 s.to_) ∧ u.cell? ⟨w.heap.size, 2, none⟩ = some (.int .i64 s.term) ∧ u.cell? ⟨w.heap.size, 3, none⟩ = some (.slice A s.pairs.length c) ∧ u.cell? ⟨w.heap.size, 4, none⟩ = some (.slice B s.sess.length d)) := fun u xs h => dl_cells (h.1.blk (kn.blk HA.out (fun h => h)) (by rw [hb, HS1.out]; omega))
  have CE0 : Hid (∀ u, Kept noBlock w1 u → u.cell? ⟨w.heap.size, 0, none⟩ = some (.int .i64 s.from_) ∧ u.cell? ⟨w.heap.size, 1, none⟩ = some (.int .i64 s.to_) ∧ u.cell? ⟨w.heap.size, 2, none⟩ = some (.int .i64 s.term)) := fun u k => by
    obtain ⟨a0, a1, a2, _, _⟩ := dl_cells (k.blk HA.out (fun h => h))
    exact ⟨a0, a1, a2⟩
  rw [← hb] at p0
  have HB := Lib.hid hb
  have KN := Lib.hid kn
  have p1 := p0.drew
  clear p0 hb kn
  refine wp_region_noPanic ?_
  refine wp_region_held_drew (S := fun u => u.cell? ⟨w.heap.size, 0, none⟩ = some (.int .i64 s.from_) ∧ u.cell? ⟨w.heap.size, 1, none⟩ = some (.int .i64 s.to_) ∧ u.cell? ⟨w.heap.size, 2, none⟩ = some (.int .i64 s.term)) (by kernel_rfl) (CE0.out _ (Kept.drew _ _)) (fun hHeld => ?_)
  refine wpAnyH_take (i := 1) (oi := ⟨some 5, Op.fieldAddr 31 (Operand.tmp 1) 0, 0, _, _, none⟩) (v := ?v1n13k1) rfl (by kernel_rfl) (by kernel_rfl) (by kernel_rfl) (fun _ _ _ h => h) (Or.inl ⟨by rfl, ?y1n13k1⟩) hHeld ?z1n13k1
  case y1n13k1 => intro w hSw; (try dsimp only at hSw); go_simp <;> rfl
  try simp only [Act.put, List.setIfInBounds_toArray, List.set_cons_zero, List.set_cons_succ]
  refine wpAnyH_take (i := 2) (oi := ⟨some 6, Op.load 3 (Operand.tmp 5), 3, _, _, none⟩) (v := ?v2n13k2) rfl (by kernel_rfl) (by kernel_rfl) (by kernel_rfl) (fun _ _ _ h => h) (Or.inl ⟨by rfl, ?y2n13k2⟩) hHeld ?z2n13k2
  case y2n13k2 => intro w hSw; (try dsimp only at hSw); go_simp <;> rfl
  try simp only [Act.put, List.setIfInBounds_toArray, List.set_cons_zero, List.set_cons_succ]
  refine wpAnyH_take (i := 4) (oi := ⟨some 8, Op.fieldAddr 31 (Operand.tmp 1) 1, 0, _, _, none⟩) (v := ?v4n13k3) rfl (by kernel_rfl) (by kernel_rfl) (by kernel_rfl) (fun _ _ _ h => h) (Or.inl ⟨by rfl, ?y4n13k3⟩) hHeld ?z4n13k3
  case y4n13k3 => intro w hSw; (try dsimp only at hSw); go_simp <;> rfl
  try simp only [Act.put, List.setIfInBounds_toArray, List.set_cons_zero, List.set_cons_succ]
  refine wpAnyH_take (i := 5) (oi := ⟨some 9, Op.load 3 (Operand.tmp 8), 3, _, _, none⟩) (v := ?v5n13k4) rfl (by kernel_rfl) (by kernel_rfl) (by kernel_rfl) (fun _ _ _ h => h) (Or.inl ⟨by rfl, ?y5n13k4⟩) hHeld ?z5n13k4
  case y5n13k4 => intro w hSw; (try dsimp only at hSw); go_simp <;> rfl
  try simp only [Act.put, List.setIfInBounds_toArray, List.set_cons_zero, List.set_cons_succ]
  refine wpAnyH_take (i := 7) (oi := ⟨some 11, Op.fieldAddr 31 (Operand.tmp 1) 2, 0, _, _, none⟩) (v := ?v7n13k5) rfl (by kernel_rfl) (by kernel_rfl) (by kernel_rfl) (fun _ _ _ h => h) (Or.inl ⟨by rfl, ?y7n13k5⟩) hHeld ?z7n13k5
  case y7n13k5 => intro w hSw; (try dsimp only at hSw); go_simp <;> rfl
  try simp only [Act.put, List.setIfInBounds_toArray, List.set_cons_zero, List.set_cons_succ]
  refine wpAnyH_take (i := 8) (oi := ⟨some 12, Op.load 3 (Operand.tmp 11), 3, _, _, none⟩) (v := ?v8n13k6) rfl (by kernel_rfl) (by kernel_rfl) (by kernel_rfl) (fun _ _ _ h => h) (Or.inl ⟨by rfl, ?y8n13k6⟩) hHeld ?z8n13k6
  case y8n13k6 => intro w hSw; (try dsimp only at hSw); go_simp <;> rfl
  try simp only [Act.put, List.setIfInBounds_toArray, List.set_cons_zero, List.set_cons_succ]
  refine wpAnyH_ready (rs := [0]) (by kernel_rfl) (by simp) ?_
  refine AllReadyH.cons (o := ⟨some 4, Op.alloc 90, 88, _, _, none⟩) rfl (fun K hK => ?_) AllReadyH.nil
  go_simp
  refine hK.out _ _ (CE0.out _ (KN.out.step (Kept.drew _ _))) (fun hHeld => ?_)
  clear hK K
  try simp only [Act.put, List.setIfInBounds_toArray, List.set_cons_zero, List.set_cons_succ]
  refine wpAnyH_ready (rs := [3]) (by kernel_rfl) (by simp) ?_
  refine AllReadyH.cons (o := ⟨some 7, Op.call { callee := Callee.value (Operand.func 37), args := #[Operand.tmp 4, Operand.tmp 6], argTypes := #[88, 3] }, 88, _, _, none⟩) rfl (fun K hK => ?_) AllReadyH.nil
  go_simp
  rw [← HB.out]
  refine (pen_num p1 _ (by simp)).mono ?_
  rintro e w2 ⟨rfl, p2⟩
  dsimp only
  refine hK.out _ _ ⟨(CE.out _ _ p2).1, (CE.out _ _ p2).2.1, (CE.out _ _ p2).2.2.1⟩ (fun hHeld => ?_)
  clear hK K
  try simp only [Act.put, List.setIfInBounds_toArray, List.set_cons_zero, List.set_cons_succ]
  refine wpAnyH_ready (rs := [6]) (by kernel_rfl) (by simp) ?_
  refine AllReadyH.cons (o := ⟨some 10, Op.call { callee := Callee.value (Operand.func 37), args := #[Operand.tmp 7, Operand.tmp 9], argTypes := #[88, 3] }, 88, _, _, none⟩) rfl (fun K hK => ?_) AllReadyH.nil
  go_simp
  refine (pen_num p2 _ (by simp [be8_length])).mono ?_
  rintro e w3 ⟨rfl, p3⟩
  dsimp only
  refine hK.out _ _ ⟨(CE.out _ _ p3).1, (CE.out _ _ p3).2.1, (CE.out _ _ p3).2.2.1⟩ (fun hHeld => ?_)
  clear hK K
  try simp only [Act.put, List.setIfInBounds_toArray, List.set_cons_zero, List.set_cons_succ]
  refine wpAnyH_ready (rs := [9]) (by kernel_rfl) (by simp) ?_
  refine AllReadyH.cons (o := ⟨some 13, Op.call { callee := Callee.value (Operand.func 37), args := #[Operand.tmp 10, Operand.tmp 12], argTypes := #[88, 3] }, 88, _, _, none⟩) rfl (fun K hK => ?_) AllReadyH.nil
  go_simp
  refine (pen_num p3 _ (by simp [be8_length])).mono ?_
  rintro e w3' ⟨rfl, p4⟩
  dsimp only
  refine hK.out _ _ ⟨(CE.out _ _ p4).1, (CE.out _ _ p4).2.1, (CE.out _ _ p4).2.2.1⟩ (fun hHeld => ?_)
  clear hK K
  try simp only [Act.put, List.setIfInBounds_toArray, List.set_cons_zero, List.set_cons_succ]
  refine wpAnyH_take (i := 10) (oi := ⟨some 3, Op.assign (Operand.tmp 13), 88, _, _, none⟩) (v := ?v10n13k7) rfl (by kernel_rfl) (by kernel_rfl) (by kernel_rfl) (fun _ _ _ h => h) (Or.inl ⟨by rfl, ?y10n13k7⟩) hHeld ?z10n13k7
  case y10n13k7 => intro w hSw; (try dsimp only at hSw); go_simp <;> rfl
  try simp only [Act.put, List.setIfInBounds_toArray, List.set_cons_zero, List.set_cons_succ]
  refine wpAnyH_done (by kernel_rfl) ?_ _
  refine NoPanic.normal ?_
  clear hHeld p1 p2 p3
  obtain ⟨c0, c1, c2, c3, c4⟩ := CE.out _ _ p4
  have P3 := Lib.hid p4
  clear p4
  have PUT := Lib.hid (put_any (fun i => i < w.heap.size) (w1.alloc (.cells #[.slice none 0 0] 90)) b ([] ++ be8 s.from_ ++ be8 s.to_ ++ be8 s.term) A s.pairs.length c B s.sess.length d s.pairs s.sess w3' P3.out
    (HL1.out.keep (KA.out.step KN.out) (fun _ _ h => h)) (HL2.out.keep (KA.out.step KN.out) (fun _ _ h => h)) (fun i hi e => by have := HB.out; have := HS1.out; omega) rfl rfl hcp hcs (by have := HLEN.out; simp only [List.length_append, be8_length, List.length_nil]; omega))
  go_wp2_with fail
  refine PUT.out.mono ?_
  rintro e w4 ⟨rfl, p4⟩
  have he : [] ++ be8 s.from_ ++ be8 s.to_ ++ be8 s.term ++ rowsB s.pairs s.sess = s.bytes := by unfold DltV.bytes; simp
  rw [he] at p4
  clear PUT c0 c1 c2 c3 c4 he
  go_wp2_with fail
  refine (pen_bytes p4 n HN.out hx).mono ?_
  rintro e w5 ⟨P, cp, rfl, ho, k5⟩
  have R := Lib.hid ho
  clear ho
  go_wp2
  go_ret
  refine ⟨P, cp, rfl, own_base R.out (fun i hi => ?_), (KA.out.step KN.out).trans k5 (fun i hi h => by have := HB.out; have := KA.out.size; omega)⟩
  have := (R.out.lt i hi).1
  have := (KA.out.step KN.out).size
  omega

set_option maxRecDepth 100000 in
set_option maxHeartbeats 1000000 in
theorem dsame_walk (F G : Nat → Prop) (s t : DltV) (A : Option Addr) (c : Nat) (B : Option Addr) (d : Nat) (A' : Option Addr) (c' : Nat) (B' : Option Addr) (d' : Nat) (w : World) (h : Dv w F s A c B d) (h' : Dv w G t A' c' B' d') (hn : s.bytes.length ≤ 140737488355328) (hm : t.bytes.length ≤ 140737488355328) :
    Calls Tryz.prog 11 #[dtv s A c B d, dtv t A' c' B' d'] w (Says w (decide (s.bytes = t.bytes))) := by
  have BS := Lib.hid (fun u (k : Kept noBlock w u) => dbytes_any F s A c B d _ u (h.kept k) rfl hn)
  have BT := Lib.hid (fun u (k : Kept noBlock w u) => dbytes_any G t A' c' B' d' _ u (h'.kept k) rfl hm)
  obtain ⟨w1, hw1⟩ : ∃ w1, w1 = (w.alloc (.cells #[.int .i64 s.from_, .int .i64 s.to_, .int .i64 s.term, .slice A s.pairs.length c, .slice B s.sess.length d] 31)).alloc (.cells #[.int .i64 t.from_, .int .i64 t.to_, .int .i64 t.term, .slice A' t.pairs.length c', .slice B' t.sess.length d'] 31) := ⟨_, rfl⟩
  have k1 : Kept noBlock w w1 := by rw [hw1]; exact (Kept.alloc _ _ _).step (Kept.alloc _ _ _)
  have hs : w1.heap[w.heap.size]? = some (.cells #[.int .i64 s.from_, .int .i64 s.to_, .int .i64 s.term, .slice A s.pairs.length c, .slice B s.sess.length d] 31 (0, 0)) := by rw [hw1]; exact (Kept.alloc noBlock _ _).blk (heap_alloc_new w _) (fun h => h)
  have ht : w1.heap[w.heap.size + 1]? = some (.cells #[.int .i64 t.from_, .int .i64 t.to_, .int .i64 t.term, .slice A' t.pairs.length c', .slice B' t.sess.length d'] 31 (0, 0)) := by
    rw [hw1]
    have := heap_alloc_new (w.alloc (.cells #[.int .i64 s.from_, .int .i64 s.to_, .int .i64 s.term, .slice A s.pairs.length c, .slice B s.sess.length d] 31)) (.cells #[.int .i64 t.from_, .int .i64 t.to_, .int .i64 t.term, .slice A' t.pairs.length c', .slice B' t.sess.length d'] 31)
    simpa using this
  obtain ⟨X, hX⟩ : ∃ X, X = s.bytes := ⟨_, rfl⟩
  obtain ⟨Y, hY⟩ : ∃ Y, Y = t.bytes := ⟨_, rfl⟩
  rw [← hX] at BS ⊢
  rw [← hY] at BT ⊢
  obtain ⟨n, hnn⟩ : ∃ n, X.length = n := ⟨_, rfl⟩
  obtain ⟨m, hmm⟩ : ∃ m, Y.length = m := ⟨_, rfl⟩
  simp only [hnn] at BS
  simp only [hmm] at BT
  have K1 := Lib.hid k1
  have HS := Lib.hid hs
  have HT := Lib.hid ht
  have HN := Lib.hid hnn
  have HM := Lib.hid hmm
  have CE : Hid (∀ u, Kept noBlock w1 u → (u.cell? ⟨w.heap.size, 0, none⟩ = some (.int .i64 s.from_) ∧ u.cell? ⟨w.heap.size, 1, none⟩ = some (.int .i64 s.to_) ∧ u.cell? ⟨w.heap.size, 2, none⟩ = some (.int .i64 s.term) ∧ u.cell? ⟨w.heap.size, 3, none⟩ = some (.slice A s.pairs.length c) ∧ u.cell? ⟨w.heap.size, 4, none⟩ = some (.slice B s.sess.length d)) ∧
      (u.cell? ⟨w.heap.size + 1, 0, none⟩ = some (.int .i64 t.from_) ∧ u.cell? ⟨w.heap.size + 1, 1, none⟩ = some (.int .i64 t.to_) ∧ u.cell? ⟨w.heap.size + 1, 2, none⟩ = some (.int .i64 t.term) ∧ u.cell? ⟨w.heap.size + 1, 3, none⟩ = some (.slice A' t.pairs.length c') ∧ u.cell? ⟨w.heap.size + 1, 4, none⟩ = some (.slice B' t.sess.length d'))) := fun u k => ⟨dl_cells (k.blk hs (fun h => h)), dl_cells (k.blk ht (fun h => h))⟩
  clear k1 hs ht hX hY hnn hmm h h' hn hm
  unfold dtv at *
  go_enter Tryz.func11, Tryz.ntmps11
  go_upto_region 1 with (fail)
  rw [← hw1]
  clear hw1
  refine wp_region_noPanic ?_
  refine wp_region_held_drew (S := fun u => (u.cell? ⟨w.heap.size, 0, none⟩ = some (.int .i64 s.from_) ∧ u.cell? ⟨w.heap.size, 1, none⟩ = some (.int .i64 s.to_) ∧ u.cell? ⟨w.heap.size, 2, none⟩ = some (.int .i64 s.term) ∧ u.cell? ⟨w.heap.size, 3, none⟩ = some (.slice A s.pairs.length c) ∧ u.cell? ⟨w.heap.size, 4, none⟩ = some (.slice B s.sess.length d)) ∧ (u.cell? ⟨w.heap.size + 1, 0, none⟩ = some (.int .i64 t.from_) ∧ u.cell? ⟨w.heap.size + 1, 1, none⟩ = some (.int .i64 t.to_) ∧ u.cell? ⟨w.heap.size + 1, 2, none⟩ = some (.int .i64 t.term) ∧ u.cell? ⟨w.heap.size + 1, 3, none⟩ = some (.slice A' t.pairs.length c') ∧ u.cell? ⟨w.heap.size + 1, 4, none⟩ = some (.slice B' t.sess.length d'))) (by kernel_rfl) (CE.out _ (Kept.drew _ _)) (fun hHeld => ?_)
  refine wpAnyH_take (i := 0) (oi := ⟨some 5, Op.load 31 (Operand.tmp 2), 31, _, _, none⟩) (v := ?v0n14k1) rfl (by kernel_rfl) (by kernel_rfl) (by kernel_rfl) (fun _ _ _ h => h) (Or.inl ⟨by rfl, ?y0n14k1⟩) hHeld ?z0n14k1
  case y0n14k1 => intro w hSw; (try dsimp only at hSw); go_simp <;> rfl
  try simp only [Act.put, List.setIfInBounds_toArray, List.set_cons_zero, List.set_cons_succ]
  refine wpAnyH_take (i := 2) (oi := ⟨some 7, Op.load 31 (Operand.tmp 3), 31, _, _, none⟩) (v := ?v2n14k2) rfl (by kernel_rfl) (by kernel_rfl) (by kernel_rfl) (fun _ _ _ h => h) (Or.inl ⟨by rfl, ?y2n14k2⟩) hHeld ?z2n14k2
  case y2n14k2 => intro w hSw; (try dsimp only at hSw); go_simp <;> rfl
  try simp only [Act.put, List.setIfInBounds_toArray, List.set_cons_zero, List.set_cons_succ]
  refine wpAnyH_ready (rs := [1]) (by kernel_rfl) (by simp) ?_
  refine AllReadyH.cons (o := ⟨some 6, Op.call { callee := Callee.value (Operand.func 14), args := #[Operand.tmp 5], argTypes := #[31] }, 35, _, _, none⟩) rfl (fun K hK => ?_) AllReadyH.nil
  go_simp
  refine (BS.out _ (K1.out.step (Kept.drew _ _))).mono ?_
  rintro e w2 ⟨P, cp, rfl, o2, k2⟩
  have K2 := Lib.hid ((Kept.drew noBlock w1).step k2)
  have L2 := Lib.hid (Lies.of_own (F := fun _ => True) o2 (fun _ _ => trivial))
  clear o2 k2
  dsimp only
  refine hK.out _ _ (CE.out _ K2.out) (fun hHeld => ?_)
  clear hK K
  try simp only [Act.put, List.setIfInBounds_toArray, List.set_cons_zero, List.set_cons_succ]
  refine wpAnyH_ready (rs := [3]) (by kernel_rfl) (by simp) ?_
  refine AllReadyH.cons (o := ⟨some 8, Op.call { callee := Callee.value (Operand.func 14), args := #[Operand.tmp 7], argTypes := #[31] }, 35, _, _, none⟩) rfl (fun K hK => ?_) AllReadyH.nil
  go_simp
  refine (BT.out _ (K1.out.step K2.out)).mono ?_
  rintro e w3 ⟨P', cp', rfl, o3, k3⟩
  have K3 := Lib.hid (K2.out.step k3)
  have L3 := Lib.hid (Lies.of_own (F := fun _ => True) o3 (fun _ _ => trivial))
  have L2' := Lib.hid (L2.out.keep k3 (fun _ _ h => h))
  clear o3 k3
  dsimp only
  refine hK.out _ _ (CE.out _ K3.out) (fun hHeld => ?_)
  clear hK K
  try simp only [Act.put, List.setIfInBounds_toArray, List.set_cons_zero, List.set_cons_succ]
  refine wpAnyH_ready (rs := [4]) (by kernel_rfl) (by simp) ?_
  refine AllReadyH.cons (o := ⟨some 9, Op.call { callee := Callee.value (Operand.func 29), args := #[Operand.tmp 6, Operand.tmp 8], argTypes := #[35, 35] }, 4, _, _, none⟩) rfl (fun K hK => ?_) AllReadyH.nil
  go_simp
  refine (equal_any _ _ _ _ _ _ _ _ X Y _ L2'.out HN.out L3.out HM.out).mono ?_
  rintro e w4 ⟨rfl, rfl⟩
  dsimp only
  refine hK.out _ _ (CE.out _ K3.out) (fun hHeld => ?_)
  clear hK K
  try simp only [Act.put, List.setIfInBounds_toArray, List.set_cons_zero, List.set_cons_succ]
  refine wpAnyH_take (i := 5) (oi := ⟨some 4, Op.assign (Operand.tmp 9), 4, _, _, none⟩) (v := ?v5n14k3) rfl (by kernel_rfl) (by kernel_rfl) (by kernel_rfl) (fun _ _ _ h => h) (Or.inl ⟨by rfl, ?y5n14k3⟩) hHeld ?z5n14k3
  case y5n14k3 => intro w hSw; (try dsimp only at hSw); go_simp <;> rfl
  try simp only [Act.put, List.setIfInBounds_toArray, List.set_cons_zero, List.set_cons_succ]
  refine wpAnyH_done (by kernel_rfl) ?_ _
  refine NoPanic.normal ?_
  go_wp2
  go_ret
  exact ⟨rfl, K1.out.step K3.out⟩
theorem dsame_any : DSameC := fun F G s A c B d t A' c' B' d' w h h' hn hm => dsame_walk F G s t A c B d A' c' B' d' w h h' (by omega) (by omega)
end Go.Proofs.YthmjjhjblokjeaaGreat
