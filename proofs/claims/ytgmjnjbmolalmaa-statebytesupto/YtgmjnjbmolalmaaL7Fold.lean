/-
  The walk of StateFold. No statement is proved here.
-/
import Derived.Test.YtgmjnjbmolalmaaL7Plain
import Derived.Test.YtgmjnjbmolalmaaStBytes
namespace Go.Proofs.Ytgmjnjbmolalmaa
open Go.RowKit Tot

theorem flatMap_bound {α : Type} (f : α → List UInt8) (M : Nat) : ∀ L : List α, (∀ x ∈ L, (f x).length ≤ M) → (L.flatMap f).length ≤ L.length * M
  | [], _ => by simp
  | x :: r, h => by
    have h1 := h x (by simp)
    have h2 := flatMap_bound f M r (fun y hy => h y (by simp [hy]))
    rw [List.flatMap_cons, List.length_append, List.length_cons, Nat.add_mul]
    omega
/-- A right state has few bytes. -/
theorem right_bytes {s : StV} (h : s.Right) : s.bytes.length ≤ 10000 := by
  have h1 := flatMap_bound prB 41 s.pairs (fun p hp => by rw [prB_length]; have := h.2.2.1.2.1.2 p hp; unfold PairOk at this; omega)
  have h2 := flatMap_bound snB 48 s.sess (fun x hx => by rw [snB_length]; have := h.2.2.1.2.2.2 x hx; unfold SessOk at this; omega)
  have := h.len
  have := h.lens
  rw [s.bytes_length, rowsB_length]
  omega
/-- A place for a state, at a step of a region that draws its order. -/
theorem step_allocT {w : World} {ops : Array Oper} {d : Nat} {ty : TypeId} {pos : String} {aft : Array Edge} {act : Act} {K : Act → World → Prop} {Q : Exit → Act → World → Prop} {E : Prop}
    (hK : ∀ X u, Kept noBlock w u → w.heap.size ≤ X → u.heap[X]? = some (.cells #[.int .i64 0, .int .i64 0, .slice none 0 0, .slice none 0 0] 33 (0, 0)) → K (act.put (some d) (.pointer (some ⟨X, 0, none⟩))) u) :
    if Region.wanted ⟨some d, .alloc 33, ty, pos, aft, none⟩ (yielded ops act.tmps) = true then Oper.wp Try.prog ⟨some d, .alloc 33, ty, pos, aft, none⟩ act w K Q else E := by
  rw [if_pos (by simp [Region.wanted])]
  have hk := hK _ _ (Kept.alloc noBlock w _) (Nat.le_refl _) (heap_alloc_new w _)
  clear hK
  go_simp
  exact hk
theorem ents_drop' {w : World} {F : Nat → Prop} {a : Option Addr} {es : List EntryV} (h : Lies w F a (entCells es)) (k cap : Nat) (hc : es.length ≤ cap) : Lies w F (if cap = k then a else a.map (·.add (k * 8))) (entCells (es.drop k)) := fun hx => by
  have hk : k < es.length := by
    rcases Nat.lt_or_ge k es.length with h1 | h1
    · exact h1
    · rw [List.drop_eq_nil_of_le h1] at hx
      exact absurd rfl hx
  have hne : entCells es ≠ [] := fun e => by
    have := congrArg List.length e
    rw [entCells_length] at this
    simp only [List.length_nil] at this
    omega
  obtain ⟨ad, rfl, hf, hcell⟩ := h hne
  rw [if_neg (by omega)]
  refine ⟨ad.add (k * 8), rfl, by rw [block_add]; exact hf, fun j u hu => ?_⟩
  rw [add_add]
  exact hcell _ u (by rw [← hu, entCells_drop, List.getElem?_drop])

theorem Sv.lt {F : Nat → Prop} {w : World} {s : StV} {A B : Option Addr} {c d : Nat} (h : Sv w F s A c B d) : Sv w (fun i => i < w.heap.size) s A c B d := ⟨h.lp.lt, h.ls.lt, h.cp, h.cs⟩
/-- A state that was stored at its place. -/
theorem fold_end {w2 u : World} {X : Nat} {b : StV} {A B : Option Addr} {c d : Nat} {x0 x1 x2 x3 : Value} (hx : u.heap[X]? = some (.cells #[x0, x1, x2, x3] 33 (0, 0))) (sv : Sv u (fun i => i ≠ X) b A c B d) (k : Kept noBlock w2 u) (hX : w2.heap.size ≤ X) :
    ∃ X' A' c' B' d', Value.pointer (some ⟨X, 0, none⟩) = Value.pointer (some ⟨X', 0, none⟩) ∧ Hid ((setT u X b A c B d).heap[X']? = some (.cells #[.int .i64 b.index, .int .i64 b.term, .slice A' b.pairs.length c', .slice B' b.sess.length d'] 33 (0, 0))) ∧ Hid (Sv (setT u X b A c B d) (fun _ => True) b A' c' B' d') ∧ Hid (Kept noBlock w2 (setT u X b A c B d)) := by
  have kz := setT_kept u X b A c B d
  refine ⟨X, A, c, B, d, rfl, setT_block hx, (sv.keep kz (fun i hi e => hi e)).mono (fun _ _ => trivial), ?_⟩
  exact ((k.mono (T := fun i => w2.heap.size ≤ i) (fun _ _ h => h.elim)).trans kz (fun i _ h => by omega)).mono (fun i hi h => by omega)

set_option maxRecDepth 100000 in
set_option maxHeartbeats 1000000 in
theorem fold_walk (F : Nat → Prop) (a : Option Addr) (n cp : Nat) (ss : List SayV) (cut : UInt8) (w : World) (h : Lies w F a (sayCells ss)) (hl : ss.length = n) (hnc : n ≤ cp) :
    Calls Try.prog 6 #[.slice a n cp, .int .u8 (cut.toNat : Int)] w fun e w' => e = .returned (.bool true) ∧ Kept noBlock w w' := by
  obtain ⟨es, hes⟩ : ∃ es, es = entsS ss := ⟨_, rfl⟩
  obtain ⟨m, hm⟩ : ∃ m, es.length = m := ⟨_, rfl⟩
  have hm80 : m ≤ 80 := by rw [← hm, hes]; exact entsS_length ss
  have hidx : (foldV noState es).index = (m : Int) := by rw [← hm, hes]; exact (someV_facts ss).1
  have hcu := cut.toNat_lt
  obtain ⟨k, hk⟩ : ∃ k, k = cut.toNat % (m + 1) := ⟨_, rfl⟩
  have hkm : k ≤ m := by have := Nat.mod_lt cut.toNat (show 0 < m + 1 by omega); omega
  have t1 : ((cut.toNat : Int)).tmod ((m : Int) + 1) = (k : Int) := by rw [hk]; exact tmod_nat _ (m + 1)
  have EN := Lib.hid (fun u (ku : Kept noBlock w u) => ents_any F a n cp 1 0 ss es u (h.keep ku (fun _ _ h => h)) hl hnc hes (by decide) (by decide) (by decide) (by decide))
  simp only [hm] at EN
  have FO1 : Hid (∀ u A cc, Lies u (fun _ => True) A (entCells es) → k ≤ cc → Calls Try.prog 22 #[.agg #[.int .i64 0, .int .i64 0, .slice none 0 0, .slice none 0 0], .slice A k cc] u fun en w' => ∃ A' c' B' d', en = .returned (stv (foldV noState (es.take k)) A' c' B' d') ∧ Sv w' (fresh u w') (foldV noState (es.take k)) A' c' B' d' ∧ Kept noBlock u w') := fun u A cc h1 h3 =>
    fold_any (fun _ => True) noState none 0 none 0 A k cc (es.take k) u (Sv.none _ _) noState_right (by rw [entCells_take]; exact h1.take _) (by rw [List.length_take, hm]; omega) h3 (by omega)
  have FO2 : Hid (∀ u A cc G A' c' B' d', Lies u (fun _ => True) A (entCells (es.drop k)) → m - k ≤ cc → Sv u G (foldV noState (es.take k)) A' c' B' d' → Calls Try.prog 22 #[stv (foldV noState (es.take k)) A' c' B' d', .slice A (m - k) cc] u fun en w' => ∃ A' c' B' d', en = .returned (stv (foldV noState es) A' c' B' d') ∧ Sv w' (fresh u w') (foldV noState es) A' c' B' d' ∧ Kept noBlock u w') := fun u A cc G A' c' B' d' h1 h3 hsv => by
    have hh := fold_any (fun _ => True) (foldV noState (es.take k)) A' c' B' d' A (m - k) cc (es.drop k) u (hsv.mono (fun _ _ => trivial)) (foldV_right noState_right _) h1 (by rw [List.length_drop, hm]) h3 (by omega)
    rw [← foldV_append, List.take_append_drop] at hh
    exact hh
  have FO3 : Hid (∀ u A cc, Lies u (fun _ => True) A (entCells es) → m ≤ cc → Calls Try.prog 22 #[.agg #[.int .i64 0, .int .i64 0, .slice none 0 0, .slice none 0 0], .slice A m cc] u fun en w' => ∃ A' c' B' d', en = .returned (stv (foldV noState es) A' c' B' d') ∧ Sv w' (fresh u w') (foldV noState es) A' c' B' d' ∧ Kept noBlock u w') := fun u A cc h1 h3 =>
    fold_any (fun _ => True) noState none 0 none 0 A m cc es u (Sv.none _ _) noState_right h1 hm h3 (by omega)
  have hr := foldV_right noState_right es
  obtain ⟨b, hb⟩ : ∃ b, b = foldV noState es := ⟨_, rfl⟩
  obtain ⟨q, hq⟩ : ∃ q, q = foldV noState (es.take k) := ⟨_, rfl⟩
  rw [← hb] at FO2 FO3 hidx hr
  rw [← hq] at FO1 FO2
  have HI := Lib.hid hidx
  have HM := Lib.hid hm
  have HR := Lib.hid hr
  clear hb hq hidx hm hr hk hes h hl hnc
  unfold stv at *
  go_enter Try.func6, Try.ntmps6
  go_wp2_with fail
  refine (awake_any w).mono ?_
  rintro e w1 ⟨rfl, k1⟩
  go_wp2_with fail
  refine (EN.out w1 k1).mono ?_
  rintro e w2 ⟨A, cc, rfl, h2, k2⟩
  have hcc : m ≤ cc := by obtain ⟨_, _, e, hle⟩ := own_form h2; injection e with _ _ e; omega
  have L2 := Lib.hid (Lies.of_rows (F := fun _ => True) h2 (fun _ _ => trivial))
  have K2 := Lib.hid (k1.step k2)
  have D2 := Lib.hid (ents_drop' L2.out k cc (by rw [HM.out]; exact hcc))
  clear h2 k1 k2 EN
  go_upto_region 5 with (fail)
  go_cut [7] (fun p wc => ∃ X A' c' B' d', p = .pointer (some ⟨X, 0, none⟩) ∧ Hid (wc.heap[X]? = some (.cells #[.int .i64 b.index, .int .i64 b.term, .slice A' b.pairs.length c', .slice B' b.sess.length d'] 33 (0, 0))) ∧ Hid (Sv wc (fun _ => True) b A' c' B' d') ∧ Hid (Kept noBlock w2 wc))
  case first =>
    have KC : Hid (Kept noBlock w2 w2.drew) := Kept.drew _ _
    by_cases hck : cc = k
    · have hkm' : (k : Int) ≤ (m : Int) := by omega
      have d3 := D2.out
      rw [if_pos hck] at d3
      have D3 := Lib.hid d3
      have hz : m - k = 0 := by omega
      rw [hz] at FO2
      clear d3 D2 hz
      subst hck
      refine wp_region_noPanic ?_
      refine wp_region_any_drew (by kernel_rfl) ?_
      refine wpAny_tail (S := fun _ => True) 10 10 trivial (fun hHeld => ?_)
      refine wpAnyT_take (i := 0) (oi := ⟨some 19, Op.build 33 #[], 33, _, _, none⟩) (v := ?v0n16k1) rfl (by kernel_rfl) (by kernel_rfl) (by kernel_rfl) (fun _ _ _ h => h) (Or.inl ⟨by rfl, ?y0n16k1⟩) hHeld ?z0n16k1
      case y0n16k1 => intro w hSw; (try dsimp only at hSw); go_simp <;> rfl
      try simp only [Act.put, List.setIfInBounds_toArray, List.set_cons_zero, List.set_cons_succ]
      refine wpAnyT_take (i := 1) (oi := ⟨some 20, Op.move (Operand.tmp 5), 34, _, _, none⟩) (v := ?v1n16k2) rfl (by kernel_rfl) (by kernel_rfl) (by kernel_rfl) (fun _ _ _ h => h) (Or.inl ⟨by rfl, ?y1n16k2⟩) hHeld ?z1n16k2
      case y1n16k2 => intro w hSw; (try dsimp only at hSw); go_simp <;> rfl
      try simp only [Act.put, List.setIfInBounds_toArray, List.set_cons_zero, List.set_cons_succ]
      refine wpAnyT_take (i := 2) (oi := ⟨some 21, Op.move (Operand.tmp 6), 3, _, _, none⟩) (v := ?v2n16k3) rfl (by kernel_rfl) (by kernel_rfl) (by kernel_rfl) (fun _ _ _ h => h) (Or.inl ⟨by rfl, ?y2n16k3⟩) hHeld ?z2n16k3
      case y2n16k3 => intro w hSw; (try dsimp only at hSw); go_simp <;> rfl
      try simp only [Act.put, List.setIfInBounds_toArray, List.set_cons_zero, List.set_cons_succ]
      refine wpAnyT_take (i := 3) (oi := ⟨some 22, Op.slice 34 (Operand.tmp 20) none (some (Operand.tmp 21)) none, 34, _, _, none⟩) (v := ?v3n16k4) rfl (by kernel_rfl) (by kernel_rfl) (by kernel_rfl) (fun _ _ _ h => h) (Or.inl ⟨by rfl, ?y3n16k4⟩) hHeld ?z3n16k4
      case y3n16k4 => intro w hSw; (try dsimp only at hSw); go_simp <;> rfl
      try simp only [Act.put, List.setIfInBounds_toArray, List.set_cons_zero, List.set_cons_succ]
      refine wpAnyT_take (i := 5) (oi := ⟨some 24, Op.move (Operand.tmp 5), 34, _, _, none⟩) (v := ?v5n16k5) rfl (by kernel_rfl) (by kernel_rfl) (by kernel_rfl) (fun _ _ _ h => h) (Or.inl ⟨by rfl, ?y5n16k5⟩) hHeld ?z5n16k5
      case y5n16k5 => intro w hSw; (try dsimp only at hSw); go_simp <;> rfl
      try simp only [Act.put, List.setIfInBounds_toArray, List.set_cons_zero, List.set_cons_succ]
      refine wpAnyT_take (i := 6) (oi := ⟨some 25, Op.move (Operand.tmp 6), 3, _, _, none⟩) (v := ?v6n16k6) rfl (by kernel_rfl) (by kernel_rfl) (by kernel_rfl) (fun _ _ _ h => h) (Or.inl ⟨by rfl, ?y6n16k6⟩) hHeld ?z6n16k6
      case y6n16k6 => intro w hSw; (try dsimp only at hSw); go_simp <;> rfl
      try simp only [Act.put, List.setIfInBounds_toArray, List.set_cons_zero, List.set_cons_succ]
      refine wpAnyT_take (i := 7) (oi := ⟨some 26, Op.slice 34 (Operand.tmp 24) (some (Operand.tmp 25)) none none, 34, _, _, none⟩) (v := ?v7n16k7) rfl (by kernel_rfl) (by kernel_rfl) (by kernel_rfl) (fun _ _ _ h => h) (Or.inl ⟨by rfl, ?y7n16k7⟩) hHeld ?z7n16k7
      case y7n16k7 => intro w hSw; (try dsimp only at hSw); go_simp <;> rfl
      try simp only [Act.put, List.setIfInBounds_toArray, List.set_cons_zero, List.set_cons_succ]
      refine wpAnyT_ready (rs := [4, 9]) (by kernel_rfl) (by simp) ?_
      refine (AllReadyT.cons (o := ⟨some 23, Op.call { callee := Callee.value (Operand.func 22), args := #[Operand.tmp 19, Operand.tmp 22], argTypes := #[33, 34] }, 33, _, _, none⟩) rfl (fun K hK => ?b4n16k9) (AllReadyT.cons (o := ⟨some 7, Op.alloc 33, 0, _, _, none⟩) rfl (fun K hK => ?b9n16k8) AllReadyT.nil))
      case b4n16k9 =>
        go_simp
        refine (FO1.out _ A cc (L2.out.keep KC.out (fun _ _ h => h)) (by omega)).mono ?_
        rintro e u4 ⟨A4, c4, B4, d4, rfl, sv4, k4⟩
        have SV4 := Lib.hid (sv4.mono (G := fun _ => True) (fun _ _ => trivial))
        try have HX2 := Lib.hid (k4.blk HX.out (fun h => h))
        try clear HX
        try have HX := HX2
        try clear HX2
        replace KC := Lib.hid (KC.out.step k4)
        clear sv4 k4
        dsimp only
        refine hK.out _ _ trivial (fun hHeld => ?_)
        clear hK K
        try simp only [Act.put, List.setIfInBounds_toArray, List.set_cons_zero, List.set_cons_succ]
        refine wpAnyT_ready (rs := [8, 9]) (by kernel_rfl) (by simp) ?_
        refine (AllReadyT.cons (o := ⟨some 27, Op.call { callee := Callee.value (Operand.func 22), args := #[Operand.tmp 23, Operand.tmp 26], argTypes := #[33, 34] }, 33, _, _, none⟩) rfl (fun K hK => ?b8n16k11) (AllReadyT.cons (o := ⟨some 7, Op.alloc 33, 0, _, _, none⟩) rfl (fun K hK => ?b9n16k10) AllReadyT.nil))
        case b8n16k11 =>
          go_simp
          refine (FO2.out _ _ _ _ A4 c4 B4 d4 (D3.out.keep KC.out (fun _ _ h => h)) (by omega) SV4.out).mono ?_
          rintro e u8 ⟨A8, c8, B8, d8, rfl, sv8, k8⟩
          first
            | have SV8 := Lib.hid (sv8.mono (G := fun i => i ≠ X) (fun i hi e => by have h1 := hi.1; have h2 := lt_of_blk HX.out; omega))
            | have SV8 := Lib.hid (sv8.mono (G := fun _ => True) (fun _ _ => trivial))
          try have HX2 := Lib.hid (k8.blk HX.out (fun h => h))
          try clear HX
          try have HX := HX2
          try clear HX2
          replace KC := Lib.hid (KC.out.step k8)
          clear sv8 k8
          dsimp only
          refine hK.out _ _ trivial (fun hHeld => ?_)
          clear hK K
          try simp only [Act.put, List.setIfInBounds_toArray, List.set_cons_zero, List.set_cons_succ]
          refine wpAnyT_ready (rs := [9]) (by kernel_rfl) (by simp) ?_
          refine AllReadyT.cons (o := ⟨some 7, Op.alloc 33, 0, _, _, none⟩) rfl (fun K hK => ?_) AllReadyT.nil
          refine step_allocT ?_
          intro X u9 k9 hX9 hx9
          have HX := Lib.hid hx9
          have LX : Hid (w2.heap.size ≤ X) := Nat.le_trans KC.out.size hX9
          replace KC := Lib.hid (KC.out.step k9)
          try have SV5 := Lib.hid (SV4.out.kept k9)
          try clear SV4
          try have SV4 := SV5
          try clear SV5
          try have SV9 := Lib.hid ((SV8.out.lt.kept k9).mono (G := fun i => i ≠ X) (fun i hi e => by omega))
          try clear SV8
          try have SV8 := SV9
          try clear SV9
          clear k9 hX9 hx9
          refine hK.out _ _ trivial (fun hHeld => ?_)
          clear hK K
          try simp only [Act.put, List.setIfInBounds_toArray, List.set_cons_zero, List.set_cons_succ]
          refine wpAnyT_done (by kernel_rfl) ?_
          simp only [List.drop_succ_cons, List.drop_zero]
          obtain ⟨r0, r1, r2, r3⟩ := st_cells HX.out
          have hfz : ∀ u : World, u.heap[X]? = some (.cells #[.int .i64 0, .int .i64 0, .slice none 0 0, .slice none 0 0] 33 (0, 0)) → ∀ j, u.frozen? ⟨X, j, none⟩ = false := fun u hu j => frozen_of_row _ _ _ _ _ hu
          have f0 := hfz _ HX.out 0
          have f1 := hfz _ HX.out 1
          have f2 := hfz _ HX.out 2
          have f3 := hfz _ HX.out 3
          have R := Lib.hid (fold_end HX.out SV8.out KC.out LX.out)
          clear hfz
          go_wp2
          refine NoPanic.normal ?_
          go_wp2
          go_meet
          case rel => exact R.out
        case b9n16k10 =>
          refine step_allocT ?_
          intro X u9 k9 hX9 hx9
          have HX := Lib.hid hx9
          have LX : Hid (w2.heap.size ≤ X) := Nat.le_trans KC.out.size hX9
          replace KC := Lib.hid (KC.out.step k9)
          try have SV5 := Lib.hid (SV4.out.kept k9)
          try clear SV4
          try have SV4 := SV5
          try clear SV5
          try have SV9 := Lib.hid ((SV8.out.lt.kept k9).mono (G := fun i => i ≠ X) (fun i hi e => by omega))
          try clear SV8
          try have SV8 := SV9
          try clear SV9
          clear k9 hX9 hx9
          refine hK.out _ _ trivial (fun hHeld => ?_)
          clear hK K
          try simp only [Act.put, List.setIfInBounds_toArray, List.set_cons_zero, List.set_cons_succ]
          refine wpAnyT_ready (rs := [8]) (by kernel_rfl) (by simp) ?_
          refine AllReadyT.cons (o := ⟨some 27, Op.call { callee := Callee.value (Operand.func 22), args := #[Operand.tmp 23, Operand.tmp 26], argTypes := #[33, 34] }, 33, _, _, none⟩) rfl (fun K hK => ?_) AllReadyT.nil
          go_simp
          refine (FO2.out _ _ _ _ A4 c4 B4 d4 (D3.out.keep KC.out (fun _ _ h => h)) (by omega) SV4.out).mono ?_
          rintro e u8 ⟨A8, c8, B8, d8, rfl, sv8, k8⟩
          first
            | have SV8 := Lib.hid (sv8.mono (G := fun i => i ≠ X) (fun i hi e => by have h1 := hi.1; have h2 := lt_of_blk HX.out; omega))
            | have SV8 := Lib.hid (sv8.mono (G := fun _ => True) (fun _ _ => trivial))
          try have HX2 := Lib.hid (k8.blk HX.out (fun h => h))
          try clear HX
          try have HX := HX2
          try clear HX2
          replace KC := Lib.hid (KC.out.step k8)
          clear sv8 k8
          dsimp only
          refine hK.out _ _ trivial (fun hHeld => ?_)
          clear hK K
          try simp only [Act.put, List.setIfInBounds_toArray, List.set_cons_zero, List.set_cons_succ]
          refine wpAnyT_done (by kernel_rfl) ?_
          simp only [List.drop_succ_cons, List.drop_zero]
          obtain ⟨r0, r1, r2, r3⟩ := st_cells HX.out
          have hfz : ∀ u : World, u.heap[X]? = some (.cells #[.int .i64 0, .int .i64 0, .slice none 0 0, .slice none 0 0] 33 (0, 0)) → ∀ j, u.frozen? ⟨X, j, none⟩ = false := fun u hu j => frozen_of_row _ _ _ _ _ hu
          have f0 := hfz _ HX.out 0
          have f1 := hfz _ HX.out 1
          have f2 := hfz _ HX.out 2
          have f3 := hfz _ HX.out 3
          have R := Lib.hid (fold_end HX.out SV8.out KC.out LX.out)
          clear hfz
          go_wp2
          refine NoPanic.normal ?_
          go_wp2
          go_meet
          case rel => exact R.out
      case b9n16k8 =>
        refine step_allocT ?_
        intro X u9 k9 hX9 hx9
        have HX := Lib.hid hx9
        have LX : Hid (w2.heap.size ≤ X) := Nat.le_trans KC.out.size hX9
        replace KC := Lib.hid (KC.out.step k9)
        try have SV5 := Lib.hid (SV4.out.kept k9)
        try clear SV4
        try have SV4 := SV5
        try clear SV5
        try have SV9 := Lib.hid ((SV8.out.lt.kept k9).mono (G := fun i => i ≠ X) (fun i hi e => by omega))
        try clear SV8
        try have SV8 := SV9
        try clear SV9
        clear k9 hX9 hx9
        refine hK.out _ _ trivial (fun hHeld => ?_)
        clear hK K
        try simp only [Act.put, List.setIfInBounds_toArray, List.set_cons_zero, List.set_cons_succ]
        refine wpAnyT_ready (rs := [4]) (by kernel_rfl) (by simp) ?_
        refine AllReadyT.cons (o := ⟨some 23, Op.call { callee := Callee.value (Operand.func 22), args := #[Operand.tmp 19, Operand.tmp 22], argTypes := #[33, 34] }, 33, _, _, none⟩) rfl (fun K hK => ?_) AllReadyT.nil
        go_simp
        refine (FO1.out _ A cc (L2.out.keep KC.out (fun _ _ h => h)) (by omega)).mono ?_
        rintro e u4 ⟨A4, c4, B4, d4, rfl, sv4, k4⟩
        have SV4 := Lib.hid (sv4.mono (G := fun _ => True) (fun _ _ => trivial))
        try have HX2 := Lib.hid (k4.blk HX.out (fun h => h))
        try clear HX
        try have HX := HX2
        try clear HX2
        replace KC := Lib.hid (KC.out.step k4)
        clear sv4 k4
        dsimp only
        refine hK.out _ _ trivial (fun hHeld => ?_)
        clear hK K
        try simp only [Act.put, List.setIfInBounds_toArray, List.set_cons_zero, List.set_cons_succ]
        refine wpAnyT_ready (rs := [8]) (by kernel_rfl) (by simp) ?_
        refine AllReadyT.cons (o := ⟨some 27, Op.call { callee := Callee.value (Operand.func 22), args := #[Operand.tmp 23, Operand.tmp 26], argTypes := #[33, 34] }, 33, _, _, none⟩) rfl (fun K hK => ?_) AllReadyT.nil
        go_simp
        refine (FO2.out _ _ _ _ A4 c4 B4 d4 (D3.out.keep KC.out (fun _ _ h => h)) (by omega) SV4.out).mono ?_
        rintro e u8 ⟨A8, c8, B8, d8, rfl, sv8, k8⟩
        first
          | have SV8 := Lib.hid (sv8.mono (G := fun i => i ≠ X) (fun i hi e => by have h1 := hi.1; have h2 := lt_of_blk HX.out; omega))
          | have SV8 := Lib.hid (sv8.mono (G := fun _ => True) (fun _ _ => trivial))
        try have HX2 := Lib.hid (k8.blk HX.out (fun h => h))
        try clear HX
        try have HX := HX2
        try clear HX2
        replace KC := Lib.hid (KC.out.step k8)
        clear sv8 k8
        dsimp only
        refine hK.out _ _ trivial (fun hHeld => ?_)
        clear hK K
        try simp only [Act.put, List.setIfInBounds_toArray, List.set_cons_zero, List.set_cons_succ]
        refine wpAnyT_done (by kernel_rfl) ?_
        simp only [List.drop_succ_cons, List.drop_zero]
        obtain ⟨r0, r1, r2, r3⟩ := st_cells HX.out
        have hfz : ∀ u : World, u.heap[X]? = some (.cells #[.int .i64 0, .int .i64 0, .slice none 0 0, .slice none 0 0] 33 (0, 0)) → ∀ j, u.frozen? ⟨X, j, none⟩ = false := fun u hu j => frozen_of_row _ _ _ _ _ hu
        have f0 := hfz _ HX.out 0
        have f1 := hfz _ HX.out 1
        have f2 := hfz _ HX.out 2
        have f3 := hfz _ HX.out 3
        have R := Lib.hid (fold_end HX.out SV8.out KC.out LX.out)
        clear hfz
        go_wp2
        refine NoPanic.normal ?_
        go_wp2
        go_meet
        case rel => exact R.out
    · have d3 := D2.out
      have hkc : k ≤ cc := by omega
      have hkc' : (k : Int) ≤ (cc : Int) := by omega
      have hkm' : (k : Int) ≤ (m : Int) := by omega
      rw [if_neg hck] at d3
      have D3 := Lib.hid d3
      clear d3 D2
      refine wp_region_noPanic ?_
      refine wp_region_any_drew (by kernel_rfl) ?_
      refine wpAny_tail (S := fun _ => True) 10 10 trivial (fun hHeld => ?_)
      refine wpAnyT_take (i := 0) (oi := ⟨some 19, Op.build 33 #[], 33, _, _, none⟩) (v := ?v0n17k1) rfl (by kernel_rfl) (by kernel_rfl) (by kernel_rfl) (fun _ _ _ h => h) (Or.inl ⟨by rfl, ?y0n17k1⟩) hHeld ?z0n17k1
      case y0n17k1 => intro w hSw; (try dsimp only at hSw); go_simp <;> rfl
      try simp only [Act.put, List.setIfInBounds_toArray, List.set_cons_zero, List.set_cons_succ]
      refine wpAnyT_take (i := 1) (oi := ⟨some 20, Op.move (Operand.tmp 5), 34, _, _, none⟩) (v := ?v1n17k2) rfl (by kernel_rfl) (by kernel_rfl) (by kernel_rfl) (fun _ _ _ h => h) (Or.inl ⟨by rfl, ?y1n17k2⟩) hHeld ?z1n17k2
      case y1n17k2 => intro w hSw; (try dsimp only at hSw); go_simp <;> rfl
      try simp only [Act.put, List.setIfInBounds_toArray, List.set_cons_zero, List.set_cons_succ]
      refine wpAnyT_take (i := 2) (oi := ⟨some 21, Op.move (Operand.tmp 6), 3, _, _, none⟩) (v := ?v2n17k3) rfl (by kernel_rfl) (by kernel_rfl) (by kernel_rfl) (fun _ _ _ h => h) (Or.inl ⟨by rfl, ?y2n17k3⟩) hHeld ?z2n17k3
      case y2n17k3 => intro w hSw; (try dsimp only at hSw); go_simp <;> rfl
      try simp only [Act.put, List.setIfInBounds_toArray, List.set_cons_zero, List.set_cons_succ]
      refine wpAnyT_take (i := 3) (oi := ⟨some 22, Op.slice 34 (Operand.tmp 20) none (some (Operand.tmp 21)) none, 34, _, _, none⟩) (v := ?v3n17k4) rfl (by kernel_rfl) (by kernel_rfl) (by kernel_rfl) (fun _ _ _ h => h) (Or.inl ⟨by rfl, ?y3n17k4⟩) hHeld ?z3n17k4
      case y3n17k4 => intro w hSw; (try dsimp only at hSw); go_simp <;> rfl
      try simp only [Act.put, List.setIfInBounds_toArray, List.set_cons_zero, List.set_cons_succ]
      refine wpAnyT_take (i := 5) (oi := ⟨some 24, Op.move (Operand.tmp 5), 34, _, _, none⟩) (v := ?v5n17k5) rfl (by kernel_rfl) (by kernel_rfl) (by kernel_rfl) (fun _ _ _ h => h) (Or.inl ⟨by rfl, ?y5n17k5⟩) hHeld ?z5n17k5
      case y5n17k5 => intro w hSw; (try dsimp only at hSw); go_simp <;> rfl
      try simp only [Act.put, List.setIfInBounds_toArray, List.set_cons_zero, List.set_cons_succ]
      refine wpAnyT_take (i := 6) (oi := ⟨some 25, Op.move (Operand.tmp 6), 3, _, _, none⟩) (v := ?v6n17k6) rfl (by kernel_rfl) (by kernel_rfl) (by kernel_rfl) (fun _ _ _ h => h) (Or.inl ⟨by rfl, ?y6n17k6⟩) hHeld ?z6n17k6
      case y6n17k6 => intro w hSw; (try dsimp only at hSw); go_simp <;> rfl
      try simp only [Act.put, List.setIfInBounds_toArray, List.set_cons_zero, List.set_cons_succ]
      refine wpAnyT_take (i := 7) (oi := ⟨some 26, Op.slice 34 (Operand.tmp 24) (some (Operand.tmp 25)) none none, 34, _, _, none⟩) (v := ?v7n17k7) rfl (by kernel_rfl) (by kernel_rfl) (by kernel_rfl) (fun _ _ _ h => h) (Or.inl ⟨by rfl, ?y7n17k7⟩) hHeld ?z7n17k7
      case y7n17k7 => intro w hSw; (try dsimp only at hSw); go_simp <;> rfl
      try simp only [Act.put, List.setIfInBounds_toArray, List.set_cons_zero, List.set_cons_succ]
      refine wpAnyT_ready (rs := [4, 9]) (by kernel_rfl) (by simp) ?_
      refine (AllReadyT.cons (o := ⟨some 23, Op.call { callee := Callee.value (Operand.func 22), args := #[Operand.tmp 19, Operand.tmp 22], argTypes := #[33, 34] }, 33, _, _, none⟩) rfl (fun K hK => ?b4n17k9) (AllReadyT.cons (o := ⟨some 7, Op.alloc 33, 0, _, _, none⟩) rfl (fun K hK => ?b9n17k8) AllReadyT.nil))
      case b4n17k9 =>
        go_simp
        refine (FO1.out _ A cc (L2.out.keep KC.out (fun _ _ h => h)) (by omega)).mono ?_
        rintro e u4 ⟨A4, c4, B4, d4, rfl, sv4, k4⟩
        have SV4 := Lib.hid (sv4.mono (G := fun _ => True) (fun _ _ => trivial))
        try have HX2 := Lib.hid (k4.blk HX.out (fun h => h))
        try clear HX
        try have HX := HX2
        try clear HX2
        replace KC := Lib.hid (KC.out.step k4)
        clear sv4 k4
        dsimp only
        refine hK.out _ _ trivial (fun hHeld => ?_)
        clear hK K
        try simp only [Act.put, List.setIfInBounds_toArray, List.set_cons_zero, List.set_cons_succ]
        refine wpAnyT_ready (rs := [8, 9]) (by kernel_rfl) (by simp) ?_
        refine (AllReadyT.cons (o := ⟨some 27, Op.call { callee := Callee.value (Operand.func 22), args := #[Operand.tmp 23, Operand.tmp 26], argTypes := #[33, 34] }, 33, _, _, none⟩) rfl (fun K hK => ?b8n17k11) (AllReadyT.cons (o := ⟨some 7, Op.alloc 33, 0, _, _, none⟩) rfl (fun K hK => ?b9n17k10) AllReadyT.nil))
        case b8n17k11 =>
          go_simp
          refine (FO2.out _ _ _ _ A4 c4 B4 d4 (D3.out.keep KC.out (fun _ _ h => h)) (by omega) SV4.out).mono ?_
          rintro e u8 ⟨A8, c8, B8, d8, rfl, sv8, k8⟩
          first
            | have SV8 := Lib.hid (sv8.mono (G := fun i => i ≠ X) (fun i hi e => by have h1 := hi.1; have h2 := lt_of_blk HX.out; omega))
            | have SV8 := Lib.hid (sv8.mono (G := fun _ => True) (fun _ _ => trivial))
          try have HX2 := Lib.hid (k8.blk HX.out (fun h => h))
          try clear HX
          try have HX := HX2
          try clear HX2
          replace KC := Lib.hid (KC.out.step k8)
          clear sv8 k8
          dsimp only
          refine hK.out _ _ trivial (fun hHeld => ?_)
          clear hK K
          try simp only [Act.put, List.setIfInBounds_toArray, List.set_cons_zero, List.set_cons_succ]
          refine wpAnyT_ready (rs := [9]) (by kernel_rfl) (by simp) ?_
          refine AllReadyT.cons (o := ⟨some 7, Op.alloc 33, 0, _, _, none⟩) rfl (fun K hK => ?_) AllReadyT.nil
          refine step_allocT ?_
          intro X u9 k9 hX9 hx9
          have HX := Lib.hid hx9
          have LX : Hid (w2.heap.size ≤ X) := Nat.le_trans KC.out.size hX9
          replace KC := Lib.hid (KC.out.step k9)
          try have SV5 := Lib.hid (SV4.out.kept k9)
          try clear SV4
          try have SV4 := SV5
          try clear SV5
          try have SV9 := Lib.hid ((SV8.out.lt.kept k9).mono (G := fun i => i ≠ X) (fun i hi e => by omega))
          try clear SV8
          try have SV8 := SV9
          try clear SV9
          clear k9 hX9 hx9
          refine hK.out _ _ trivial (fun hHeld => ?_)
          clear hK K
          try simp only [Act.put, List.setIfInBounds_toArray, List.set_cons_zero, List.set_cons_succ]
          refine wpAnyT_done (by kernel_rfl) ?_
          simp only [List.drop_succ_cons, List.drop_zero]
          obtain ⟨r0, r1, r2, r3⟩ := st_cells HX.out
          have hfz : ∀ u : World, u.heap[X]? = some (.cells #[.int .i64 0, .int .i64 0, .slice none 0 0, .slice none 0 0] 33 (0, 0)) → ∀ j, u.frozen? ⟨X, j, none⟩ = false := fun u hu j => frozen_of_row _ _ _ _ _ hu
          have f0 := hfz _ HX.out 0
          have f1 := hfz _ HX.out 1
          have f2 := hfz _ HX.out 2
          have f3 := hfz _ HX.out 3
          have R := Lib.hid (fold_end HX.out SV8.out KC.out LX.out)
          clear hfz
          go_wp2
          refine NoPanic.normal ?_
          go_wp2
          go_meet
          case rel => exact R.out
        case b9n17k10 =>
          refine step_allocT ?_
          intro X u9 k9 hX9 hx9
          have HX := Lib.hid hx9
          have LX : Hid (w2.heap.size ≤ X) := Nat.le_trans KC.out.size hX9
          replace KC := Lib.hid (KC.out.step k9)
          try have SV5 := Lib.hid (SV4.out.kept k9)
          try clear SV4
          try have SV4 := SV5
          try clear SV5
          try have SV9 := Lib.hid ((SV8.out.lt.kept k9).mono (G := fun i => i ≠ X) (fun i hi e => by omega))
          try clear SV8
          try have SV8 := SV9
          try clear SV9
          clear k9 hX9 hx9
          refine hK.out _ _ trivial (fun hHeld => ?_)
          clear hK K
          try simp only [Act.put, List.setIfInBounds_toArray, List.set_cons_zero, List.set_cons_succ]
          refine wpAnyT_ready (rs := [8]) (by kernel_rfl) (by simp) ?_
          refine AllReadyT.cons (o := ⟨some 27, Op.call { callee := Callee.value (Operand.func 22), args := #[Operand.tmp 23, Operand.tmp 26], argTypes := #[33, 34] }, 33, _, _, none⟩) rfl (fun K hK => ?_) AllReadyT.nil
          go_simp
          refine (FO2.out _ _ _ _ A4 c4 B4 d4 (D3.out.keep KC.out (fun _ _ h => h)) (by omega) SV4.out).mono ?_
          rintro e u8 ⟨A8, c8, B8, d8, rfl, sv8, k8⟩
          first
            | have SV8 := Lib.hid (sv8.mono (G := fun i => i ≠ X) (fun i hi e => by have h1 := hi.1; have h2 := lt_of_blk HX.out; omega))
            | have SV8 := Lib.hid (sv8.mono (G := fun _ => True) (fun _ _ => trivial))
          try have HX2 := Lib.hid (k8.blk HX.out (fun h => h))
          try clear HX
          try have HX := HX2
          try clear HX2
          replace KC := Lib.hid (KC.out.step k8)
          clear sv8 k8
          dsimp only
          refine hK.out _ _ trivial (fun hHeld => ?_)
          clear hK K
          try simp only [Act.put, List.setIfInBounds_toArray, List.set_cons_zero, List.set_cons_succ]
          refine wpAnyT_done (by kernel_rfl) ?_
          simp only [List.drop_succ_cons, List.drop_zero]
          obtain ⟨r0, r1, r2, r3⟩ := st_cells HX.out
          have hfz : ∀ u : World, u.heap[X]? = some (.cells #[.int .i64 0, .int .i64 0, .slice none 0 0, .slice none 0 0] 33 (0, 0)) → ∀ j, u.frozen? ⟨X, j, none⟩ = false := fun u hu j => frozen_of_row _ _ _ _ _ hu
          have f0 := hfz _ HX.out 0
          have f1 := hfz _ HX.out 1
          have f2 := hfz _ HX.out 2
          have f3 := hfz _ HX.out 3
          have R := Lib.hid (fold_end HX.out SV8.out KC.out LX.out)
          clear hfz
          go_wp2
          refine NoPanic.normal ?_
          go_wp2
          go_meet
          case rel => exact R.out
      case b9n17k8 =>
        refine step_allocT ?_
        intro X u9 k9 hX9 hx9
        have HX := Lib.hid hx9
        have LX : Hid (w2.heap.size ≤ X) := Nat.le_trans KC.out.size hX9
        replace KC := Lib.hid (KC.out.step k9)
        try have SV5 := Lib.hid (SV4.out.kept k9)
        try clear SV4
        try have SV4 := SV5
        try clear SV5
        try have SV9 := Lib.hid ((SV8.out.lt.kept k9).mono (G := fun i => i ≠ X) (fun i hi e => by omega))
        try clear SV8
        try have SV8 := SV9
        try clear SV9
        clear k9 hX9 hx9
        refine hK.out _ _ trivial (fun hHeld => ?_)
        clear hK K
        try simp only [Act.put, List.setIfInBounds_toArray, List.set_cons_zero, List.set_cons_succ]
        refine wpAnyT_ready (rs := [4]) (by kernel_rfl) (by simp) ?_
        refine AllReadyT.cons (o := ⟨some 23, Op.call { callee := Callee.value (Operand.func 22), args := #[Operand.tmp 19, Operand.tmp 22], argTypes := #[33, 34] }, 33, _, _, none⟩) rfl (fun K hK => ?_) AllReadyT.nil
        go_simp
        refine (FO1.out _ A cc (L2.out.keep KC.out (fun _ _ h => h)) (by omega)).mono ?_
        rintro e u4 ⟨A4, c4, B4, d4, rfl, sv4, k4⟩
        have SV4 := Lib.hid (sv4.mono (G := fun _ => True) (fun _ _ => trivial))
        try have HX2 := Lib.hid (k4.blk HX.out (fun h => h))
        try clear HX
        try have HX := HX2
        try clear HX2
        replace KC := Lib.hid (KC.out.step k4)
        clear sv4 k4
        dsimp only
        refine hK.out _ _ trivial (fun hHeld => ?_)
        clear hK K
        try simp only [Act.put, List.setIfInBounds_toArray, List.set_cons_zero, List.set_cons_succ]
        refine wpAnyT_ready (rs := [8]) (by kernel_rfl) (by simp) ?_
        refine AllReadyT.cons (o := ⟨some 27, Op.call { callee := Callee.value (Operand.func 22), args := #[Operand.tmp 23, Operand.tmp 26], argTypes := #[33, 34] }, 33, _, _, none⟩) rfl (fun K hK => ?_) AllReadyT.nil
        go_simp
        refine (FO2.out _ _ _ _ A4 c4 B4 d4 (D3.out.keep KC.out (fun _ _ h => h)) (by omega) SV4.out).mono ?_
        rintro e u8 ⟨A8, c8, B8, d8, rfl, sv8, k8⟩
        first
          | have SV8 := Lib.hid (sv8.mono (G := fun i => i ≠ X) (fun i hi e => by have h1 := hi.1; have h2 := lt_of_blk HX.out; omega))
          | have SV8 := Lib.hid (sv8.mono (G := fun _ => True) (fun _ _ => trivial))
        try have HX2 := Lib.hid (k8.blk HX.out (fun h => h))
        try clear HX
        try have HX := HX2
        try clear HX2
        replace KC := Lib.hid (KC.out.step k8)
        clear sv8 k8
        dsimp only
        refine hK.out _ _ trivial (fun hHeld => ?_)
        clear hK K
        try simp only [Act.put, List.setIfInBounds_toArray, List.set_cons_zero, List.set_cons_succ]
        refine wpAnyT_done (by kernel_rfl) ?_
        simp only [List.drop_succ_cons, List.drop_zero]
        obtain ⟨r0, r1, r2, r3⟩ := st_cells HX.out
        have hfz : ∀ u : World, u.heap[X]? = some (.cells #[.int .i64 0, .int .i64 0, .slice none 0 0, .slice none 0 0] 33 (0, 0)) → ∀ j, u.frozen? ⟨X, j, none⟩ = false := fun u hu j => frozen_of_row _ _ _ _ _ hu
        have f0 := hfz _ HX.out 0
        have f1 := hfz _ HX.out 1
        have f2 := hfz _ HX.out 2
        have f3 := hfz _ HX.out 3
        have R := Lib.hid (fold_end HX.out SV8.out KC.out LX.out)
        clear hfz
        go_wp2
        refine NoPanic.normal ?_
        go_wp2
        go_meet
        case rel => exact R.out
  case rest =>
    obtain ⟨X, A7, c7, B7, d7, rfl, HX, SV, KC⟩ := hcut
    have LC := Lib.hid (L2.out.keep KC.out (fun _ _ h => h))
    have KW := Lib.hid (K2.out.step KC.out)
    clear L2 K2 KC D2 FO1 FO2
    go_wp2_with fail
    refine (FO3.out wc A cc LC.out hcc).mono ?_
    rintro e w3 ⟨A3, c3, B3, d3, rfl, sv3, k3⟩
    have ka := Kept.alloc noBlock w3 (.cells #[.int .i64 b.index, .int .i64 b.term, .slice A3 b.pairs.length c3, .slice B3 b.sess.length d3] 33)
    have ha := heap_alloc_new w3 (.cells #[.int .i64 b.index, .int .i64 b.term, .slice A3 b.pairs.length c3, .slice B3 b.sess.length d3] 33)
    go_upto_region 7 with (fail)
    generalize w3.alloc (.cells #[.int .i64 b.index, .int .i64 b.term, .slice A3 b.pairs.length c3, .slice B3 b.sess.length d3] 33) = w4 at ka ha ⊢
    have SA := Lib.hid (same_any _ _ b b A7 c7 B7 d7 A3 c3 B3 d3 w4 (SV.out.kept (k3.step ka)) (sv3.kept ka) (by have := right_bytes HR.out; omega) (by have := right_bytes HR.out; omega))
    rw [decide_eq_true rfl] at SA
    have HX4 := Lib.hid ((k3.step ka).blk HX.out (fun h => h))
    have K4 := Lib.hid (KW.out.step (k3.step ka))
    obtain ⟨x0, x1, x2, x3⟩ := st_cells HX4.out
    obtain ⟨y0, y1, y2, y3⟩ := st_cells ha
    have q1 : (b.index == (m : Int)) = true := by rw [HI.out]; simp
    unfold stv at SA
    clear ka k3 sv3
    go_wp2_with fail
    refine SA.out.mono ?_
    rintro e w5 ⟨rfl, k5⟩
    have z0 := k5.cell y0 (fun h => h)
    clear x0 x1 x2 x3 y0 y1 y2 y3 ha
    go_wp2
    go_ret
    exact ⟨rfl, K4.out.step k5⟩
end Go.Proofs.Ytgmjnjbmolalmaa
