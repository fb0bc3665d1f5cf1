/-
  Several texts, one behind the other. No statement is proved here.
-/
import Derived.Test.YthmjjhjblokjeaaGreatBoxA
import Derived.Test.YthmjjhjblokjeaaGreatEntK
/-
  The contract of state.PutRows. No statement is proved here.
-/
namespace Go.Proofs.YthmjjhjblokjeaaGreat
open Go.RowKit Tot

theorem prB_length (p : ByteArray × (ByteArray × Bool)) : (prB p).length = 17 + p.1.size + p.2.1.size := by
  unfold prB
  simp only [List.length_append, tx_length, List.length_singleton]
  omega
theorem snB_length (x : Int × (Int × RepV)) : (snB x).length = 32 + x.2.2.value.size := by
  unfold snB
  simp only [List.length_append, tx_length, be8_length]
  omega
theorem flatMap_take {α : Type} (f : α → List UInt8) (L : List α) (k : Nat) (x : α) (h : L[k]? = some x) : (L.take (k + 1)).flatMap f = (L.take k).flatMap f ++ f x := by
  rw [take_snoc L k x h, List.flatMap_append]
  simp
theorem flatMap_le {α : Type} (f : α → List UInt8) (L : List α) (k : Nat) : ((L.take k).flatMap f).length ≤ (L.flatMap f).length := by
  conv => rhs; rw [← List.take_append_drop k L, List.flatMap_append, List.length_append]
  omega
theorem rowsB_length (ps : Prs) (xs : Sns) : (rowsB ps xs).length = 16 + (ps.flatMap prB).length + (xs.flatMap snB).length := by
  unfold rowsB
  simp only [List.length_append, be8_length]
  omega
def goneB (g : Bool) : UInt8 := if g = true then 1 else 0
theorem gonebyte_any (g : Bool) (w : World) : Calls Tryz.prog 71 #[.bool g] w fun e w' => e = .returned (.int .u8 ((goneB g).toNat : Int)) ∧ w = w' := by
  cases g
  · go_enter Tryz.func71, Tryz.ntmps71
    go_wp2
    go_ret
    exact ⟨rfl, rfl⟩
  · go_enter Tryz.func71, Tryz.ntmps71
    go_wp2
    go_ret
    exact ⟨rfl, rfl⟩
theorem Pen.lies {w1 w : World} {b : Nat} {xs : List UInt8} (h : Pen w1 w b xs) {F : Nat → Prop} {a : Option Addr} {cs : List Value} (hl : Lies w1 F a cs) (hF : ∀ i, F i → i ≠ b) : Lies w F a cs := hl.keep h.1 hF

/-- The same, where a block X that is none of the Writer's has what it had. -/
def PenX (w1 w : World) (b X : Nat) (o : Obj) (xs : List UInt8) : Prop := Kept (fun k => k = b) w1 w ∧ w.heap[X]? = some o ∧ ∃ F : Nat → Prop, Wr w F b xs ∧ (∀ i, F i → i = b ∨ w1.heap.size ≤ i) ∧ ¬ F X
theorem PenX.start {w1 w : World} {b : Nat} {xs : List UInt8} (h : Pen w1 w b xs) (o : Obj) : PenX w1 (w.alloc o) b w.heap.size o xs := by
  obtain ⟨k, F, hw, hF⟩ := h
  have ka := Kept.alloc noBlock w o
  exact ⟨k.trans ka (fun _ _ h => h.elim), heap_alloc_new w o, F, hw.keep ka (fun _ _ h => h), hF, fun h => Nat.lt_irrefl _ (hw.lt _ h)⟩
theorem PenX.pen {w1 w : World} {b X : Nat} {o : Obj} {xs : List UInt8} (h : PenX w1 w b X o xs) : Pen w1 w b xs := by
  obtain ⟨k, _, F, hw, hF, _⟩ := h
  exact ⟨k, F, hw, hF⟩
theorem PenX.keep {w1 w w' : World} {b X : Nat} {o : Obj} {xs : List UInt8} (h : PenX w1 w b X o xs) (kk : Kept noBlock w w') : PenX w1 w' b X o xs := by
  obtain ⟨k, hx, F, hw, hF, hn⟩ := h
  exact ⟨k.trans kk (fun _ _ h => h.elim), kk.blk hx (fun h => h), F, hw.keep kk (fun _ _ h => h), hF, hn⟩
theorem PenX.drew {w1 w : World} {b X : Nat} {o : Obj} {xs : List UInt8} (h : PenX w1 w b X o xs) : PenX w1 w.drew b X o xs := h.keep (Kept.drew _ _)
theorem PenX.step {w1 w w' : World} {b X : Nat} {o : Obj} {ys : List UInt8} {F : Nat → Prop} (k : Kept (fun k => k = b) w1 w) (hx : w.heap[X]? = some o) (hF : ∀ i, F i → i = b ∨ w1.heap.size ≤ i) (hn : ¬ F X) (k2 : Kept F w w') (h2 : Wr w' (fun k => F k ∨ fresh w w' k) b ys) : PenX w1 w' b X o ys :=
  ⟨k.trans k2 (fun i hi h => by rcases hF i h with h | h; exact h; omega), k2.blk hx hn, _, h2, fun i hi => by rcases hi with h | h; exact hF i h; exact .inr (Nat.le_trans k.size h.1), fun h => by
    rcases h with h | h
    · exact hn h
    · exact Nat.lt_irrefl _ (Nat.lt_of_lt_of_le (lt_of_blk hx) h.1)⟩
theorem penx_num {w1 w : World} {b X : Nat} {o : Obj} {xs : List UInt8} (h : PenX w1 w b X o xs) (n : Int) (hx : xs.length + 8 ≤ 140737488355328) :
    Calls Tryz.prog 37 #[.pointer (some ⟨b, 0, none⟩), .int .i64 n] w fun e w' => e = .returned (.pointer (some ⟨b, 0, none⟩)) ∧ PenX w1 w' b X o (xs ++ be8 n) := by
  obtain ⟨k, hX, F, hw, hF, hn⟩ := h
  refine (wnum_any b F xs n w hw hx).mono ?_
  rintro e w' ⟨rfl, k2, h2⟩
  exact ⟨rfl, PenX.step k hX hF hn k2 h2⟩
theorem penx_byte {w1 w : World} {b X : Nat} {o : Obj} {xs : List UInt8} (h : PenX w1 w b X o xs) (c : UInt8) (hx : xs.length + 1 ≤ 140737488355328) :
    Calls Tryz.prog 36 #[.pointer (some ⟨b, 0, none⟩), .int .u8 (c.toNat : Int)] w fun e w' => e = .returned (.pointer (some ⟨b, 0, none⟩)) ∧ PenX w1 w' b X o (xs ++ [c]) := by
  obtain ⟨k, hX, F, hw, hF, hn⟩ := h
  refine (wbyte_any b F xs c w hw hx).mono ?_
  rintro e w' ⟨rfl, k2, h2⟩
  exact ⟨rfl, PenX.step k hX hF hn k2 h2⟩
theorem penx_text {w1 w : World} {b X : Nat} {o : Obj} {xs : List UInt8} (h : PenX w1 w b X o xs) (s : ByteArray) (hx : xs.length + 8 + s.size ≤ 140737488355328) :
    Calls Tryz.prog 70 #[.pointer (some ⟨b, 0, none⟩), .string s] w fun e w' => e = .returned (.pointer (some ⟨b, 0, none⟩)) ∧ PenX w1 w' b X o (xs ++ tx s) := by
  obtain ⟨k, hX, F, hw, hF, hn⟩ := h
  refine (wtext_any b F xs s w hw hx).mono ?_
  rintro e w' ⟨rfl, k2, h2⟩
  exact ⟨rfl, PenX.step k hX hF hn k2 h2⟩

set_option maxRecDepth 100000 in
set_option maxHeartbeats 1000000 in
theorem put_any (F : Nat → Prop) (w1 : World) (b : Nat) (acc : List UInt8) (A : Option Addr) (n c : Nat) (B : Option Addr) (m d : Nat) (ps : Prs) (xs : Sns) (w : World) (hp : Pen w1 w b acc) (h1 : Lies w1 F A (PR.cells ps)) (h2 : Lies w1 F B (SN.cells xs)) (hF : ∀ i, F i → i ≠ b)
    (hn : ps.length = n) (hm : xs.length = m) (hc : n ≤ c) (hd : m ≤ d) (hb : acc.length + (rowsB ps xs).length ≤ 140737488355328) :
    Calls Tryz.prog 39 #[.pointer (some ⟨b, 0, none⟩), .slice A n c, .slice B m d] w fun e w' => e = .returned (.tuple #[]) ∧ Pen w1 w' b (acc ++ rowsB ps xs) := by
  rw [rowsB_length] at hb
  have nle : n ≤ 140737488355328 := by
    have : ps.length ≤ (ps.flatMap prB).length := by
      clear hb h1 hn
      induction ps with
      | nil => simp
      | cons p r ih => rw [List.flatMap_cons, List.length_append, prB_length, List.length_cons]; omega
    omega
  have mle : m ≤ 140737488355328 := by
    have : xs.length ≤ (xs.flatMap snB).length := by
      clear hb h2 hm
      induction xs with
      | nil => simp
      | cons p r ih => rw [List.flatMap_cons, List.length_append, snB_length, List.length_cons]; omega
    omega
  have H1 := Lib.hid h1
  have H2 := Lib.hid h2
  have HF := Lib.hid hF
  have HN := Lib.hid hn
  have HM := Lib.hid hm
  have FIN : Hid (∀ w' acc', acc' = acc ++ be8 (n : Int) ++ ps.flatMap prB ++ be8 (m : Int) ++ xs.flatMap snB → Pen w1 w' b acc' → Pen w1 w' b (acc ++ rowsB ps xs)) := fun w' acc' e h => by
    rw [e] at h
    unfold rowsB
    rw [hn, hm]
    simpa using h
  have LP : Hid (∀ k x, ps[k]? = some x → acc.length + 16 + ((ps.take k).flatMap prB).length + (17 + x.1.size + x.2.1.size) + (xs.flatMap snB).length ≤ 140737488355328) := fun k x hx => by
    have h3 := flatMap_le prB ps (k + 1)
    rw [flatMap_take prB ps k x hx, List.length_append, prB_length] at h3
    omega
  have LS : Hid (∀ k x, xs[k]? = some x → acc.length + 16 + (ps.flatMap prB).length + ((xs.take k).flatMap snB).length + (32 + x.2.2.value.size) ≤ 140737488355328) := fun k x hx => by
    have h3 := flatMap_le snB xs (k + 1)
    rw [flatMap_take snB xs k x hx, List.length_append, snB_length] at h3
    omega
  have HBND := Lib.hid hb
  clear h1 h2 hF hn hm
  go_enter Tryz.func39, Tryz.ntmps39
  go_wp2_with fail
  refine (pen_num hp _ (by omega)).mono ?_
  rintro e w2 ⟨rfl, p2⟩
  have P2 := Lib.hid p2
  clear p2 hp hb
  go_wp2_with fail
  go_loopw [16] (fun i wr => ∃ (k : Nat) (ac : List UInt8), k ≤ n ∧ i = .int .i64 (k : Int) ∧ Hid (ac = acc ++ be8 (n : Int) ++ (ps.take k).flatMap prB) ∧ Hid (Pen w1 wr b ac)) (fun i _ => n - (intOf i).toNat)
  case atStart => exact ⟨0, _, by omega, rfl, rfl, by unfold Hid; simpa using P2.out⟩
  case round =>
    obtain ⟨k, ac, hk, rfl, HA, HP⟩ := hrel
    by_cases hlt : k < n
    · obtain ⟨x, hx⟩ : ∃ x, ps[k]? = some x := ⟨_, List.getElem?_eq_getElem (by have := HN.out; omega)⟩
      obtain ⟨g, o, rfl, _, cc⟩ := (HP.out.lies H1.out HF.out).elem PR.enc_len (by omega) hx
      have c0 := cc 0 _ rfl
      have c1 := cc 1 _ rfl
      have c2 := cc 2 _ rfl
      rw [Nat.add_zero] at c0
      have hlen := LP.out k x hx
      have hac : ac.length = acc.length + 8 + ((ps.take k).flatMap prB).length := by rw [HA.out]; simp only [List.length_append, be8_length]
      have HX := Lib.hid hx
      obtain ⟨xk, xv, xg⟩ := x
      simp only at c0 c1 c2 hlen
      have q1 : ac.length + 8 + xk.size ≤ 140737488355328 := by omega
      have q2 : ac.length + 8 + xk.size + 8 + xv.size + 1 ≤ 140737488355328 := by omega
      have px := PenX.start HP.out (.cells #[.string xk, .string xv, .bool xg] 68)
      clear hx cc hlen hac
      go_upto_region 4 with (fail)
      generalize wr.alloc (.cells #[.string xk, .string xv, .bool xg] 68) = u at px ⊢
      have CE : Hid (∀ u ys, PenX w1 u b wr.heap.size (.cells #[.string xk, .string xv, .bool xg] 68 (0, 0)) ys → u.cell? ⟨wr.heap.size, 0, none⟩ = some (.string xk) ∧ u.cell? ⟨wr.heap.size, 1, none⟩ = some (.string xv) ∧ u.cell? ⟨wr.heap.size, 2, none⟩ = some (.bool xg)) := fun u ys h => ⟨cell_of_row _ _ _ _ _ _ h.2.1, cell_of_row _ _ _ _ _ _ h.2.1, cell_of_row _ _ _ _ _ _ h.2.1⟩
      have px0 := px.drew
      clear px c0 c1 c2
      refine wp_region_noPanic ?_
      refine wp_region_held_drew (S := fun w' => w'.cell? ⟨wr.heap.size, 0, none⟩ = some (.string xk) ∧ w'.cell? ⟨wr.heap.size, 1, none⟩ = some (.string xv) ∧ w'.cell? ⟨wr.heap.size, 2, none⟩ = some (.bool xg)) (by kernel_rfl) (CE.out _ _ px0) (fun hHeld => ?_)
      refine wpAnyH_take (i := 0) (oi := ⟨some 20, Op.move (Operand.tmp 0), 88, _, _, none⟩) (v := ?v0n17k1) rfl (by kernel_rfl) (by kernel_rfl) (by kernel_rfl) (fun _ _ _ h => h) (Or.inl ⟨by rfl, ?y0n17k1⟩) hHeld ?z0n17k1
      case y0n17k1 => intro w hSw; (try dsimp only at hSw); go_simp <;> rfl
      try simp only [Act.put, List.setIfInBounds_toArray, List.set_cons_zero, List.set_cons_succ]
      refine wpAnyH_take (i := 1) (oi := ⟨some 21, Op.fieldAddr 68 (Operand.tmp 7) 0, 0, _, _, none⟩) (v := ?v1n17k2) rfl (by kernel_rfl) (by kernel_rfl) (by kernel_rfl) (fun _ _ _ h => h) (Or.inl ⟨by rfl, ?y1n17k2⟩) hHeld ?z1n17k2
      case y1n17k2 => intro w hSw; (try dsimp only at hSw); go_simp <;> rfl
      try simp only [Act.put, List.setIfInBounds_toArray, List.set_cons_zero, List.set_cons_succ]
      refine wpAnyH_take (i := 2) (oi := ⟨some 22, Op.load 9 (Operand.tmp 21), 9, _, _, none⟩) (v := ?v2n17k3) rfl (by kernel_rfl) (by kernel_rfl) (by kernel_rfl) (fun _ _ _ h => h) (Or.inl ⟨by rfl, ?y2n17k3⟩) hHeld ?z2n17k3
      case y2n17k3 => intro w hSw; (try dsimp only at hSw); go_simp <;> rfl
      try simp only [Act.put, List.setIfInBounds_toArray, List.set_cons_zero, List.set_cons_succ]
      refine wpAnyH_take (i := 4) (oi := ⟨some 24, Op.fieldAddr 68 (Operand.tmp 7) 1, 0, _, _, none⟩) (v := ?v4n17k4) rfl (by kernel_rfl) (by kernel_rfl) (by kernel_rfl) (fun _ _ _ h => h) (Or.inl ⟨by rfl, ?y4n17k4⟩) hHeld ?z4n17k4
      case y4n17k4 => intro w hSw; (try dsimp only at hSw); go_simp <;> rfl
      try simp only [Act.put, List.setIfInBounds_toArray, List.set_cons_zero, List.set_cons_succ]
      refine wpAnyH_take (i := 5) (oi := ⟨some 25, Op.load 9 (Operand.tmp 24), 9, _, _, none⟩) (v := ?v5n17k5) rfl (by kernel_rfl) (by kernel_rfl) (by kernel_rfl) (fun _ _ _ h => h) (Or.inl ⟨by rfl, ?y5n17k5⟩) hHeld ?z5n17k5
      case y5n17k5 => intro w hSw; (try dsimp only at hSw); go_simp <;> rfl
      try simp only [Act.put, List.setIfInBounds_toArray, List.set_cons_zero, List.set_cons_succ]
      refine wpAnyH_take (i := 7) (oi := ⟨some 27, Op.fieldAddr 68 (Operand.tmp 7) 2, 0, _, _, none⟩) (v := ?v7n17k6) rfl (by kernel_rfl) (by kernel_rfl) (by kernel_rfl) (fun _ _ _ h => h) (Or.inl ⟨by rfl, ?y7n17k6⟩) hHeld ?z7n17k6
      case y7n17k6 => intro w hSw; (try dsimp only at hSw); go_simp <;> rfl
      try simp only [Act.put, List.setIfInBounds_toArray, List.set_cons_zero, List.set_cons_succ]
      refine wpAnyH_take (i := 8) (oi := ⟨some 28, Op.load 4 (Operand.tmp 27), 4, _, _, none⟩) (v := ?v8n17k7) rfl (by kernel_rfl) (by kernel_rfl) (by kernel_rfl) (fun _ _ _ h => h) (Or.inl ⟨by rfl, ?y8n17k7⟩) hHeld ?z8n17k7
      case y8n17k7 => intro w hSw; (try dsimp only at hSw); go_simp <;> rfl
      try simp only [Act.put, List.setIfInBounds_toArray, List.set_cons_zero, List.set_cons_succ]
      refine wpAnyH_ready (rs := [3]) (by kernel_rfl) (by simp) ?_
      refine AllReadyH.cons (o := ⟨some 23, Op.call { callee := Callee.value (Operand.func 70), args := #[Operand.tmp 20, Operand.tmp 22], argTypes := #[88, 9] }, 88, _, _, none⟩) rfl (fun K hK => ?_) AllReadyH.nil
      go_simp
      refine (penx_text px0 _ q1).mono ?_
      rintro e u1 ⟨rfl, px1⟩
      dsimp only
      refine hK.out _ _ (CE.out _ _ px1) (fun hHeld => ?_)
      clear hK K
      try simp only [Act.put, List.setIfInBounds_toArray, List.set_cons_zero, List.set_cons_succ]
      refine wpAnyH_ready (rs := [6]) (by kernel_rfl) (by simp) ?_
      refine AllReadyH.cons (o := ⟨some 26, Op.call { callee := Callee.value (Operand.func 70), args := #[Operand.tmp 23, Operand.tmp 25], argTypes := #[88, 9] }, 88, _, _, none⟩) rfl (fun K hK => ?_) AllReadyH.nil
      go_simp
      refine (penx_text px1 _ (by rw [List.length_append, tx_length]; omega)).mono ?_
      rintro e u2 ⟨rfl, px2⟩
      dsimp only
      refine hK.out _ _ (CE.out _ _ px2) (fun hHeld => ?_)
      clear hK K
      try simp only [Act.put, List.setIfInBounds_toArray, List.set_cons_zero, List.set_cons_succ]
      refine wpAnyH_ready (rs := [9]) (by kernel_rfl) (by simp) ?_
      refine AllReadyH.cons (o := ⟨some 29, Op.call { callee := Callee.value (Operand.func 71), args := #[Operand.tmp 28], argTypes := #[4] }, 5, _, _, none⟩) rfl (fun K hK => ?_) AllReadyH.nil
      go_simp
      refine (gonebyte_any xg _).mono ?_
      rintro e u3 ⟨rfl, rfl⟩
      dsimp only
      refine hK.out _ _ (CE.out _ _ px2) (fun hHeld => ?_)
      clear hK K
      try simp only [Act.put, List.setIfInBounds_toArray, List.set_cons_zero, List.set_cons_succ]
      refine wpAnyH_ready (rs := [10]) (by kernel_rfl) (by simp) ?_
      refine AllReadyH.cons (o := ⟨some 30, Op.call { callee := Callee.value (Operand.func 36), args := #[Operand.tmp 26, Operand.tmp 29], argTypes := #[88, 5] }, 88, _, _, none⟩) rfl (fun K hK => ?_) AllReadyH.nil
      go_simp
      refine (penx_byte px2 _ (by simp only [List.length_append, tx_length]; omega)).mono ?_
      rintro e u4 ⟨rfl, px4⟩
      dsimp only
      refine hK.out _ _ (CE.out _ _ px4) (fun hHeld => ?_)
      clear hK K
      try simp only [Act.put, List.setIfInBounds_toArray, List.set_cons_zero, List.set_cons_succ]
      refine wpAnyH_done (by kernel_rfl) ?_ _
      refine NoPanic.normal ?_
      have HP4 := Lib.hid px4.pen
      have HA4 : Hid (ac ++ tx xk ++ tx xv ++ [goneB xg] = acc ++ be8 (n : Int) ++ (ps.take (k + 1)).flatMap prB) := by
        unfold Hid
        rw [flatMap_take prB ps k _ HX.out, HA.out]
        unfold prB goneB
        simp
      clear hHeld px0 px1 px2 px4 CE q1 q2
      go_wp2
      go_roundw
      case rel => exact ⟨k + 1, _, by omega, by go_num, HA4, HP4⟩
      case measure => simp [intOf]; omega
    · obtain rfl : k = n := by omega
      have ha := HA.out
      rw [List.take_of_length_le (by have := HN.out; omega)] at ha
      have hac : ac.length = acc.length + 8 + (ps.flatMap prB).length := by rw [ha]; simp only [List.length_append, be8_length]
      have hb := HBND.out
      have HA2 := Lib.hid ha
      clear ha
      go_wp2_with fail
      refine (pen_num HP.out _ (by omega)).mono ?_
      rintro e w3 ⟨rfl, p3⟩
      have P3 := Lib.hid p3
      clear p3 hac hb
      go_wp2_with fail
      go_loopw [38] (fun i wr => ∃ (k : Nat) (ad : List UInt8), k ≤ m ∧ i = .int .i64 (k : Int) ∧ Hid (ad = ac ++ be8 (m : Int) ++ (xs.take k).flatMap snB) ∧ Hid (Pen w1 wr b ad)) (fun i _ => m - (intOf i).toNat)
      case atStart => exact ⟨0, _, by omega, rfl, rfl, by unfold Hid; simpa using P3.out⟩
      case round =>
        obtain ⟨j, ad, hj, rfl, HD, HPD⟩ := hrel
        by_cases hlt2 : j < m
        · obtain ⟨x, hx⟩ : ∃ x, xs[j]? = some x := ⟨_, List.getElem?_eq_getElem (by have := HM.out; omega)⟩
          obtain ⟨g, o, rfl, _, cc⟩ := (HPD.out.lies H2.out HF.out).elem SN.enc_len (by omega) hx
          have c0 := cc 0 _ rfl
          have c1 := cc 1 _ rfl
          have c2 := cc 2 _ rfl
          have c3 := cc 3 _ rfl
          rw [Nat.add_zero] at c0
          have hlen := LS.out j x hx
          have hac : ad.length = acc.length + 16 + (ps.flatMap prB).length + ((xs.take j).flatMap snB).length := by rw [HD.out, HA2.out]; simp only [List.length_append, be8_length]; omega
          have HX := Lib.hid hx
          obtain ⟨xc, xq, xe, xv⟩ := x
          simp only at c0 c1 c2 c3 hlen
          have q1 : ad.length + 8 ≤ 140737488355328 := by omega
          have q2 : ad.length + 8 + 8 ≤ 140737488355328 := by omega
          have q3 : ad.length + 8 + 8 + 8 ≤ 140737488355328 := by omega
          have q4 : ad.length + 8 + 8 + 8 + 8 + xv.size ≤ 140737488355328 := by omega
          have px := PenX.start HPD.out (.cells #[.int .i64 xc, .int .i64 xq, .int .i64 xe, .string xv] 63)
          clear hx cc hlen hac
          go_upto_region 10 with (fail)
          generalize wr.alloc (.cells #[.int .i64 xc, .int .i64 xq, .int .i64 xe, .string xv] 63) = u at px ⊢
          have CE : Hid (∀ u ys, PenX w1 u b wr.heap.size (.cells #[.int .i64 xc, .int .i64 xq, .int .i64 xe, .string xv] 63 (0, 0)) ys → u.cell? ⟨wr.heap.size, 0, none⟩ = some (.int .i64 xc) ∧ u.cell? ⟨wr.heap.size, 1, none⟩ = some (.int .i64 xq) ∧ u.cell? ⟨wr.heap.size, 2, none⟩ = some (.int .i64 xe) ∧ u.cell? ⟨wr.heap.size, 3, none⟩ = some (.string xv)) := fun u ys h => ⟨cell_of_row _ _ _ _ _ _ h.2.1, cell_of_row _ _ _ _ _ _ h.2.1, cell_of_row _ _ _ _ _ _ h.2.1, cell_of_row _ _ _ _ _ _ h.2.1⟩
          have px0 := px.drew
          clear px c0 c1 c2 c3
          refine wp_region_noPanic ?_
          refine wp_region_held_drew (S := fun w' => w'.cell? ⟨wr.heap.size, 0, none⟩ = some (.int .i64 xc) ∧ w'.cell? ⟨wr.heap.size, 1, none⟩ = some (.int .i64 xq) ∧ w'.cell? ⟨wr.heap.size, 2, none⟩ = some (.int .i64 xe) ∧ w'.cell? ⟨wr.heap.size, 3, none⟩ = some (.string xv)) (by kernel_rfl) (CE.out _ _ px0) (fun hHeld => ?_)
          refine wpAnyH_take (i := 0) (oi := ⟨some 42, Op.move (Operand.tmp 0), 88, _, _, none⟩) (v := ?v0n18k1) rfl (by kernel_rfl) (by kernel_rfl) (by kernel_rfl) (fun _ _ _ h => h) (Or.inl ⟨by rfl, ?y0n18k1⟩) hHeld ?z0n18k1
          case y0n18k1 => intro w hSw; (try dsimp only at hSw); go_simp <;> rfl
          try simp only [Act.put, List.setIfInBounds_toArray, List.set_cons_zero, List.set_cons_succ]
          refine wpAnyH_take (i := 1) (oi := ⟨some 43, Op.fieldAddr 63 (Operand.tmp 9) 0, 0, _, _, none⟩) (v := ?v1n18k2) rfl (by kernel_rfl) (by kernel_rfl) (by kernel_rfl) (fun _ _ _ h => h) (Or.inl ⟨by rfl, ?y1n18k2⟩) hHeld ?z1n18k2
          case y1n18k2 => intro w hSw; (try dsimp only at hSw); go_simp <;> rfl
          try simp only [Act.put, List.setIfInBounds_toArray, List.set_cons_zero, List.set_cons_succ]
          refine wpAnyH_take (i := 2) (oi := ⟨some 44, Op.load 3 (Operand.tmp 43), 3, _, _, none⟩) (v := ?v2n18k3) rfl (by kernel_rfl) (by kernel_rfl) (by kernel_rfl) (fun _ _ _ h => h) (Or.inl ⟨by rfl, ?y2n18k3⟩) hHeld ?z2n18k3
          case y2n18k3 => intro w hSw; (try dsimp only at hSw); go_simp <;> rfl
          try simp only [Act.put, List.setIfInBounds_toArray, List.set_cons_zero, List.set_cons_succ]
          refine wpAnyH_take (i := 4) (oi := ⟨some 46, Op.fieldAddr 63 (Operand.tmp 9) 1, 0, _, _, none⟩) (v := ?v4n18k4) rfl (by kernel_rfl) (by kernel_rfl) (by kernel_rfl) (fun _ _ _ h => h) (Or.inl ⟨by rfl, ?y4n18k4⟩) hHeld ?z4n18k4
          case y4n18k4 => intro w hSw; (try dsimp only at hSw); go_simp <;> rfl
          try simp only [Act.put, List.setIfInBounds_toArray, List.set_cons_zero, List.set_cons_succ]
          refine wpAnyH_take (i := 5) (oi := ⟨some 47, Op.load 3 (Operand.tmp 46), 3, _, _, none⟩) (v := ?v5n18k5) rfl (by kernel_rfl) (by kernel_rfl) (by kernel_rfl) (fun _ _ _ h => h) (Or.inl ⟨by rfl, ?y5n18k5⟩) hHeld ?z5n18k5
          case y5n18k5 => intro w hSw; (try dsimp only at hSw); go_simp <;> rfl
          try simp only [Act.put, List.setIfInBounds_toArray, List.set_cons_zero, List.set_cons_succ]
          refine wpAnyH_take (i := 7) (oi := ⟨some 49, Op.fieldAddr 63 (Operand.tmp 9) 2, 0, _, _, none⟩) (v := ?v7n18k6) rfl (by kernel_rfl) (by kernel_rfl) (by kernel_rfl) (fun _ _ _ h => h) (Or.inl ⟨by rfl, ?y7n18k6⟩) hHeld ?z7n18k6
          case y7n18k6 => intro w hSw; (try dsimp only at hSw); go_simp <;> rfl
          try simp only [Act.put, List.setIfInBounds_toArray, List.set_cons_zero, List.set_cons_succ]
          refine wpAnyH_take (i := 8) (oi := ⟨some 50, Op.fieldAddr 61 (Operand.tmp 49) 0, 0, _, _, none⟩) (v := ?v8n18k7) rfl (by kernel_rfl) (by kernel_rfl) (by kernel_rfl) (fun _ _ _ h => h) (Or.inl ⟨by rfl, ?y8n18k7⟩) hHeld ?z8n18k7
          case y8n18k7 => intro w hSw; (try dsimp only at hSw); go_simp <;> rfl
          try simp only [Act.put, List.setIfInBounds_toArray, List.set_cons_zero, List.set_cons_succ]
          refine wpAnyH_take (i := 9) (oi := ⟨some 51, Op.load 32 (Operand.tmp 50), 32, _, _, none⟩) (v := ?v9n18k8) rfl (by kernel_rfl) (by kernel_rfl) (by kernel_rfl) (fun _ _ _ h => h) (Or.inl ⟨by rfl, ?y9n18k8⟩) hHeld ?z9n18k8
          case y9n18k8 => intro w hSw; (try dsimp only at hSw); go_simp <;> rfl
          try simp only [Act.put, List.setIfInBounds_toArray, List.set_cons_zero, List.set_cons_succ]
          refine wpAnyH_take (i := 11) (oi := ⟨some 53, Op.fieldAddr 63 (Operand.tmp 9) 2, 0, _, _, none⟩) (v := ?v11n18k9) rfl (by kernel_rfl) (by kernel_rfl) (by kernel_rfl) (fun _ _ _ h => h) (Or.inl ⟨by rfl, ?y11n18k9⟩) hHeld ?z11n18k9
          case y11n18k9 => intro w hSw; (try dsimp only at hSw); go_simp <;> rfl
          try simp only [Act.put, List.setIfInBounds_toArray, List.set_cons_zero, List.set_cons_succ]
          refine wpAnyH_take (i := 12) (oi := ⟨some 54, Op.fieldAddr 61 (Operand.tmp 53) 1, 0, _, _, none⟩) (v := ?v12n18k10) rfl (by kernel_rfl) (by kernel_rfl) (by kernel_rfl) (fun _ _ _ h => h) (Or.inl ⟨by rfl, ?y12n18k10⟩) hHeld ?z12n18k10
          case y12n18k10 => intro w hSw; (try dsimp only at hSw); go_simp <;> rfl
          try simp only [Act.put, List.setIfInBounds_toArray, List.set_cons_zero, List.set_cons_succ]
          refine wpAnyH_take (i := 13) (oi := ⟨some 55, Op.load 9 (Operand.tmp 54), 9, _, _, none⟩) (v := ?v13n18k11) rfl (by kernel_rfl) (by kernel_rfl) (by kernel_rfl) (fun _ _ _ h => h) (Or.inl ⟨by rfl, ?y13n18k11⟩) hHeld ?z13n18k11
          case y13n18k11 => intro w hSw; (try dsimp only at hSw); go_simp <;> rfl
          try simp only [Act.put, List.setIfInBounds_toArray, List.set_cons_zero, List.set_cons_succ]
          refine wpAnyH_ready (rs := [3]) (by kernel_rfl) (by simp) ?_
          refine AllReadyH.cons (o := ⟨some 45, Op.call { callee := Callee.value (Operand.func 37), args := #[Operand.tmp 42, Operand.tmp 44], argTypes := #[88, 3] }, 88, _, _, none⟩) rfl (fun K hK => ?_) AllReadyH.nil
          go_simp
          refine (penx_num px0 _ q1).mono ?_
          rintro e u1 ⟨rfl, px1⟩
          dsimp only
          refine hK.out _ _ (CE.out _ _ px1) (fun hHeld => ?_)
          clear hK K
          try simp only [Act.put, List.setIfInBounds_toArray, List.set_cons_zero, List.set_cons_succ]
          refine wpAnyH_ready (rs := [6]) (by kernel_rfl) (by simp) ?_
          refine AllReadyH.cons (o := ⟨some 48, Op.call { callee := Callee.value (Operand.func 37), args := #[Operand.tmp 45, Operand.tmp 47], argTypes := #[88, 3] }, 88, _, _, none⟩) rfl (fun K hK => ?_) AllReadyH.nil
          go_simp
          refine (penx_num px1 _ (by simp only [List.length_append, be8_length]; omega)).mono ?_
          rintro e u2 ⟨rfl, px2⟩
          dsimp only
          refine hK.out _ _ (CE.out _ _ px2) (fun hHeld => ?_)
          clear hK K
          try simp only [Act.put, List.setIfInBounds_toArray, List.set_cons_zero, List.set_cons_succ]
          refine wpAnyH_ready (rs := [10]) (by kernel_rfl) (by simp) ?_
          refine AllReadyH.cons (o := ⟨some 52, Op.call { callee := Callee.value (Operand.func 37), args := #[Operand.tmp 48, Operand.tmp 51], argTypes := #[88, 3] }, 88, _, _, none⟩) rfl (fun K hK => ?_) AllReadyH.nil
          go_simp
          refine (penx_num px2 _ (by simp only [List.length_append, be8_length]; omega)).mono ?_
          rintro e u3 ⟨rfl, px3⟩
          dsimp only
          refine hK.out _ _ (CE.out _ _ px3) (fun hHeld => ?_)
          clear hK K
          try simp only [Act.put, List.setIfInBounds_toArray, List.set_cons_zero, List.set_cons_succ]
          refine wpAnyH_ready (rs := [14]) (by kernel_rfl) (by simp) ?_
          refine AllReadyH.cons (o := ⟨some 56, Op.call { callee := Callee.value (Operand.func 70), args := #[Operand.tmp 52, Operand.tmp 55], argTypes := #[88, 9] }, 88, _, _, none⟩) rfl (fun K hK => ?_) AllReadyH.nil
          go_simp
          refine (penx_text px3 _ (by simp only [List.length_append, be8_length]; omega)).mono ?_
          rintro e u4 ⟨rfl, px4⟩
          dsimp only
          refine hK.out _ _ (CE.out _ _ px4) (fun hHeld => ?_)
          clear hK K
          try simp only [Act.put, List.setIfInBounds_toArray, List.set_cons_zero, List.set_cons_succ]
          refine wpAnyH_done (by kernel_rfl) ?_ _
          refine NoPanic.normal ?_
          have HP4 := Lib.hid px4.pen
          have HA4 : Hid (ad ++ be8 xc ++ be8 xq ++ be8 xe ++ tx xv = ac ++ be8 (m : Int) ++ (xs.take (j + 1)).flatMap snB) := by
            unfold Hid
            rw [flatMap_take snB xs j _ HX.out, HD.out]
            unfold snB
            simp
          clear hHeld px0 px1 px2 px3 px4 CE q1 q2 q3 q4
          go_wp2
          go_roundw
          case rel => exact ⟨j + 1, _, by omega, by go_num, HA4, HP4⟩
          case measure => simp [intOf]; omega
        · obtain rfl : j = m := by omega
          have hd2 := HD.out
          rw [List.take_of_length_le (by have := HM.out; omega), HA2.out] at hd2
          have R := Lib.hid (FIN.out _ _ hd2 HPD.out)
          clear hd2
          go_wp2
          go_end0
          exact ⟨rfl, R.out⟩
end Go.Proofs.YthmjjhjblokjeaaGreat

/-
  The contracts of state.Bytes and state.Same. No statement is proved here.
-/
namespace Go.Proofs.YthmjjhjblokjeaaGreat
open Go.RowKit Tot

theorem Lies.lt {w : World} {F : Nat → Prop} {a : Option Addr} {xs : List Value} (h : Lies w F a xs) : Lies w (fun i => i < w.heap.size) a xs := fun hx => by
  obtain ⟨ad, e, _, hc⟩ := h hx
  refine ⟨ad, e, ?_, hc⟩
  cases xs with
  | nil => exact absurd rfl hx
  | cons x r =>
    have := World.block_lt_of_cell? w _ (hc 0 x rfl)
    rw [block_add] at this
    exact this
theorem StV.bytes_length (s : StV) : s.bytes.length = 16 + (rowsB s.pairs s.sess).length := by
  unfold StV.bytes
  simp only [List.length_append, be8_length]
  omega

set_option maxRecDepth 100000 in
set_option maxHeartbeats 1000000 in
theorem sbytes_any (F : Nat → Prop) (s : StV) (A : Option Addr) (c : Nat) (B : Option Addr) (d : Nat) (n : Nat) (w : World) (h : Sv w F s A c B d) (hn : s.bytes.length = n) (hx : n ≤ 140737488355328) :
    Calls Tryz.prog 40 #[stv s A c B d] w fun e w' => ∃ P cp, e = .returned (.slice P n cp) ∧ w'.ownsRow w.heap.size 5 1 (.slice P n cp) n (s.bytes.map bv) ∧ Kept noBlock w w' := by
  have ka := Kept.alloc noBlock w (.cells #[.int .i64 s.index, .int .i64 s.term, .slice A s.pairs.length c, .slice B s.sess.length d] 27)
  have ha := heap_alloc_new w (.cells #[.int .i64 s.index, .int .i64 s.term, .slice A s.pairs.length c, .slice B s.sess.length d] 27)
  have hs1 : (w.alloc (.cells #[.int .i64 s.index, .int .i64 s.term, .slice A s.pairs.length c, .slice B s.sess.length d] 27)).heap.size = w.heap.size + 1 := by simp
  have KA := Lib.hid ka
  have HA := Lib.hid ha
  have HS1 := Lib.hid hs1
  have hlen := s.bytes_length
  rw [hn] at hlen
  have HLEN := Lib.hid hlen
  have HN := Lib.hid hn
  have HL1 := Lib.hid h.lp.lt
  have HL2 := Lib.hid h.ls.lt
  have hcp := h.cp
  have hcs := h.cs
  clear ka ha hs1 hlen hn h
  unfold stv
  go_enter Tryz.func40, Tryz.ntmps40
  go_upto_region 1 with (fail)
  generalize w.alloc (.cells #[.int .i64 s.index, .int .i64 s.term, .slice A s.pairs.length c, .slice B s.sess.length d] 27) = w1 at KA HA HS1 ⊢
  have p0 := Pen.new w1
  obtain ⟨b, hb⟩ : ∃ b, b = w1.heap.size := ⟨_, rfl⟩
  have kn := Kept.alloc noBlock w1 (.cells #[.slice none 0 0] 90)
  have CE : Hid (∀ u xs, Pen (w1.alloc (.cells #[.slice none 0 0] 90)) u b xs → u.cell? ⟨w.heap.size, 0, none⟩ = some (.int .i64 s.index) ∧ u.cell? ⟨w.heap.size, 1, none⟩ = some (.int .i64 s.term) ∧ u.cell? ⟨w.heap.size, 2, none⟩ = some (.slice A s.pairs.length c) ∧ u.cell? ⟨w.heap.size, 3, none⟩ = some (.slice B s.sess.length d)) := fun u xs h => st_cells (h.1.blk (kn.blk HA.out (fun h => h)) (by rw [hb, HS1.out]; omega))
  have CE0 : Hid (∀ u, Kept noBlock w1 u → u.cell? ⟨w.heap.size, 0, none⟩ = some (.int .i64 s.index) ∧ u.cell? ⟨w.heap.size, 1, none⟩ = some (.int .i64 s.term)) := fun u k => by
    obtain ⟨a0, a1, _, _⟩ := st_cells (k.blk HA.out (fun h => h))
    exact ⟨a0, a1⟩
  rw [← hb] at p0
  have HB := Lib.hid hb
  have KN := Lib.hid kn
  have p1 := p0.drew
  clear p0 hb kn
  refine wp_region_noPanic ?_
  refine wp_region_held_drew (S := fun u => u.cell? ⟨w.heap.size, 0, none⟩ = some (.int .i64 s.index) ∧ u.cell? ⟨w.heap.size, 1, none⟩ = some (.int .i64 s.term)) (by kernel_rfl) (CE0.out _ (Kept.drew _ _)) (fun hHeld => ?_)
  refine wpAnyH_take (i := 1) (oi := ⟨some 5, Op.fieldAddr 27 (Operand.tmp 1) 0, 0, _, _, none⟩) (v := ?v1n19k1) rfl (by kernel_rfl) (by kernel_rfl) (by kernel_rfl) (fun _ _ _ h => h) (Or.inl ⟨by rfl, ?y1n19k1⟩) hHeld ?z1n19k1
  case y1n19k1 => intro w hSw; (try dsimp only at hSw); go_simp <;> rfl
  try simp only [Act.put, List.setIfInBounds_toArray, List.set_cons_zero, List.set_cons_succ]
  refine wpAnyH_take (i := 2) (oi := ⟨some 6, Op.load 3 (Operand.tmp 5), 3, _, _, none⟩) (v := ?v2n19k2) rfl (by kernel_rfl) (by kernel_rfl) (by kernel_rfl) (fun _ _ _ h => h) (Or.inl ⟨by rfl, ?y2n19k2⟩) hHeld ?z2n19k2
  case y2n19k2 => intro w hSw; (try dsimp only at hSw); go_simp <;> rfl
  try simp only [Act.put, List.setIfInBounds_toArray, List.set_cons_zero, List.set_cons_succ]
  refine wpAnyH_take (i := 4) (oi := ⟨some 8, Op.fieldAddr 27 (Operand.tmp 1) 1, 0, _, _, none⟩) (v := ?v4n19k3) rfl (by kernel_rfl) (by kernel_rfl) (by kernel_rfl) (fun _ _ _ h => h) (Or.inl ⟨by rfl, ?y4n19k3⟩) hHeld ?z4n19k3
  case y4n19k3 => intro w hSw; (try dsimp only at hSw); go_simp <;> rfl
  try simp only [Act.put, List.setIfInBounds_toArray, List.set_cons_zero, List.set_cons_succ]
  refine wpAnyH_take (i := 5) (oi := ⟨some 9, Op.load 3 (Operand.tmp 8), 3, _, _, none⟩) (v := ?v5n19k4) rfl (by kernel_rfl) (by kernel_rfl) (by kernel_rfl) (fun _ _ _ h => h) (Or.inl ⟨by rfl, ?y5n19k4⟩) hHeld ?z5n19k4
  case y5n19k4 => intro w hSw; (try dsimp only at hSw); go_simp <;> rfl
  try simp only [Act.put, List.setIfInBounds_toArray, List.set_cons_zero, List.set_cons_succ]
  refine wpAnyH_ready (rs := [0]) (by kernel_rfl) (by simp) ?_
  refine AllReadyH.cons (o := ⟨some 4, Op.alloc 90, 88, _, _, none⟩) rfl (fun K hK => ?_) AllReadyH.nil
  go_simp
  refine hK.out _ _ (CE0.out _ (KN.out.step (Kept.drew _ _))) (fun hHeld => ?_)
  clear hK K
  try simp only [Act.put, List.setIfInBounds_toArray, List.set_cons_zero, List.set_cons_succ]
  refine wpAnyH_ready (rs := [3]) (by kernel_rfl) (by simp) ?_
  refine AllReadyH.cons (o := ⟨some 7, Op.call { callee := Callee.value (Operand.func 37), args := #[Operand.tmp 4, Operand.tmp 6], argTypes := #[88, 3] }, 88, _, _, none⟩) rfl (fun K hK => ?_) AllReadyH.nil
  go_simp
  rw [← HB.out]
  refine (pen_num p1 _ (by simp)).mono ?_
  rintro e w2 ⟨rfl, p2⟩
  dsimp only
  refine hK.out _ _ ⟨(CE.out _ _ p2).1, (CE.out _ _ p2).2.1⟩ (fun hHeld => ?_)
  clear hK K
  try simp only [Act.put, List.setIfInBounds_toArray, List.set_cons_zero, List.set_cons_succ]
  refine wpAnyH_ready (rs := [6]) (by kernel_rfl) (by simp) ?_
  refine AllReadyH.cons (o := ⟨some 10, Op.call { callee := Callee.value (Operand.func 37), args := #[Operand.tmp 7, Operand.tmp 9], argTypes := #[88, 3] }, 88, _, _, none⟩) rfl (fun K hK => ?_) AllReadyH.nil
  go_simp
  refine (pen_num p2 _ (by simp [be8_length])).mono ?_
  rintro e w3 ⟨rfl, p3⟩
  dsimp only
  refine hK.out _ _ ⟨(CE.out _ _ p3).1, (CE.out _ _ p3).2.1⟩ (fun hHeld => ?_)
  clear hK K
  try simp only [Act.put, List.setIfInBounds_toArray, List.set_cons_zero, List.set_cons_succ]
  refine wpAnyH_take (i := 7) (oi := ⟨some 3, Op.assign (Operand.tmp 10), 88, _, _, none⟩) (v := ?v7n19k5) rfl (by kernel_rfl) (by kernel_rfl) (by kernel_rfl) (fun _ _ _ h => h) (Or.inl ⟨by rfl, ?y7n19k5⟩) hHeld ?z7n19k5
  case y7n19k5 => intro w hSw; (try dsimp only at hSw); go_simp <;> rfl
  try simp only [Act.put, List.setIfInBounds_toArray, List.set_cons_zero, List.set_cons_succ]
  refine wpAnyH_done (by kernel_rfl) ?_ _
  refine NoPanic.normal ?_
  clear hHeld p1 p2
  obtain ⟨c0, c1, c2, c3⟩ := CE.out _ _ p3
  have P3 := Lib.hid p3
  clear p3
  have PUT := Lib.hid (put_any (fun i => i < w.heap.size) (w1.alloc (.cells #[.slice none 0 0] 90)) b ([] ++ be8 s.index ++ be8 s.term) A s.pairs.length c B s.sess.length d s.pairs s.sess w3 P3.out
    (HL1.out.keep (KA.out.step KN.out) (fun _ _ h => h)) (HL2.out.keep (KA.out.step KN.out) (fun _ _ h => h)) (fun i hi e => by have := HB.out; have := HS1.out; omega) rfl rfl hcp hcs (by have := HLEN.out; simp only [List.length_append, be8_length, List.length_nil]; omega))
  go_wp2_with fail
  refine PUT.out.mono ?_
  rintro e w4 ⟨rfl, p4⟩
  have he : [] ++ be8 s.index ++ be8 s.term ++ rowsB s.pairs s.sess = s.bytes := by unfold StV.bytes; simp
  rw [he] at p4
  clear PUT c0 c1 c2 c3 he
  go_wp2_with fail
  refine (pen_bytes p4 n HN.out hx).mono ?_
  rintro e w5 ⟨P, cp, rfl, ho, k5⟩
  have R := Lib.hid ho
  clear ho
  go_wp2
  go_ret
  refine ⟨P, cp, rfl, own_base R.out (fun i hi => ?_), (KA.out.step KN.out).trans k5 (fun i hi h => by have := HB.out; have := KA.out.size; omega)⟩
  have := (R.out.lt i hi).1
  have := (KA.out.step KN.out).size
  omega

/-- Whether two slices have the same bytes. -/
theorem equal_any (F G : Nat → Prop) (a : Option Addr) (n c : Nat) (b : Option Addr) (m d : Nat) (l k : List UInt8) (w : World) (h1 : Lies w F a (l.map bv)) (hl : l.length = n) (h2 : Lies w G b (k.map bv)) (hk : k.length = m) :
    Calls Tryz.prog 29 #[.slice a n c, .slice b m d] w fun e w' => e = .returned (.bool (decide (l = k))) ∧ w = w' := by
  have CX := run_str_lies (P := Tryz.prog) 35 9 5 Tryz.underlying35 Tryz.underlying5 Tryz.underlying9 h1 hl c
  have CY := run_str_lies (P := Tryz.prog) 35 9 5 Tryz.underlying35 Tryz.underlying5 Tryz.underlying9 h2 hk d
  have HQ : Hid ((ByteArray.toList ⟨l.toArray⟩ == ByteArray.toList ⟨k.toArray⟩) = decide (l = k)) := by
    unfold Hid
    have e1 : ByteArray.toList ⟨l.toArray⟩ = l := str_toList l
    have e2 : ByteArray.toList ⟨k.toArray⟩ = k := str_toList k
    rw [e1, e2]
    by_cases h : l = k
    · rw [h]; simp
    · rw [decide_eq_false h]
      exact beq_false_of_ne h
  clear h1 h2
  obtain ⟨X, hX⟩ : ∃ X : ByteArray, X = ⟨l.toArray⟩ := ⟨_, rfl⟩
  obtain ⟨Y, hY⟩ : ∃ Y : ByteArray, Y = ⟨k.toArray⟩ := ⟨_, rfl⟩
  rw [← hX] at CX HQ
  rw [← hY] at CY HQ
  clear hX hY hl hk
  go_enter Tryz.func29, Tryz.ntmps29
  go_wp2
  go_ret
  exact ⟨by rw [← HQ.out]; rfl, rfl⟩

end Go.Proofs.YthmjjhjblokjeaaGreat
