/-
  SortedOrder: what it does with whatever deeds. No statement is proved here.
-/
import Derived.Test.YtohanlhfbfodlaaL5Of
import Derived.IntWalk
namespace Go.Proofs.Ytohanlhfbfodlaa
open Go.RowKit Go.Shelf
attribute [local go_sem] Oper.semAt_some

def dub (xs : List ActV) : List (Int × Int) := xs.foldl (fun N x => Srt.put N x.key (x.key * 2)) []
theorem dub_snoc (xs : List ActV) (x : ActV) : dub (xs ++ [x]) = Srt.put (dub xs) x.key (x.key * 2) := by simp [dub]
theorem dub_up (xs : List ActV) : Srt.Up (dub xs) := by
  induction xs using rev_ind with
  | h0 => exact List.Pairwise.nil
  | h1 l a ih => rw [dub_snoc]; exact Srt.up_put ih _ _
theorem dub_len (xs : List ActV) : (dub xs).length ≤ xs.length := by
  induction xs using rev_ind with
  | h0 => exact Nat.le_refl _
  | h1 l a ih =>
    rw [dub_snoc, Srt.put_len, List.length_append]
    split <;> simp <;> omega
theorem dub_look (xs : List ActV) (j : Int) : Srt.look (dub xs) j = if (∃ x ∈ xs, x.key = j) then some (j * 2) else none := by
  induction xs using rev_ind with
  | h0 => simp [dub, Srt.look_nil]
  | h1 l a ih =>
    rw [dub_snoc, Srt.look_put (dub_up l), ih]
    by_cases e : j = a.key
    · rw [if_pos e, if_pos ⟨a, by simp, e.symm⟩, e]
    · rw [if_neg e]
      congr 1
      apply propext
      constructor
      · rintro ⟨x, hx, rfl⟩; exact ⟨x, by simp [hx], rfl⟩
      · rintro ⟨x, hx, rfl⟩
        simp at hx
        rcases hx with hx | rfl
        · exact ⟨x, hx, rfl⟩
        · exact absurd rfl e
theorem dub_reverse (xs : List ActV) : dub xs.reverse = dub xs :=
  Srt.up_look_ext (dub_up _) (dub_up _) fun k => by rw [dub_look, dub_look]; simp

structure OrdI (w : World) (B2 B4 x y : Nat) (L : List (Int × Int)) (E : List Nat) (F G : Nat → Prop) (W : World) : Prop where
  res : W.heap[B2]? = some (.cells #[.bool false] 4 (0, 0))
  box : W.heap[B4]? = some (.cells #[.pointer (some ⟨y, 0, none⟩)] 24 (0, 0))
  two : TwoR w W x y L L E F G
theorem OrdI.abide {w A B : World} {B2 B4 x y m0 : Nat} {L : List (Int × Int)} {E : List Nat} {F G : Nat → Prop} (h : OrdI w B2 B4 x y L E F G A) (k : Abide II.TT m0 A B) (hF : ∀ i, F i → i < m0) (hG : ∀ i, G i → i < m0) (hw : w.heap.size ≤ m0) : OrdI w B2 B4 x y L E F G B :=
  ⟨k.blk h.res (.inr (by unfold II.TT; decide)), k.blk h.box (.inr (by unfold II.TT; decide)), h.two.abide k hF hG hw⟩

set_option maxRecDepth 100000 in
set_option maxHeartbeats 4000000 in
theorem order_walk (F : Nat → Prop) (a : Option Addr) (n c : Nat) (xs : List ActV) (w : World) (h : Lies w F a (actCells xs)) (hx : ∀ x ∈ xs, x.fit) (hl : xs.length = n) (hc : n ≤ c) :
    Calls Try.prog 6 #[.slice a n c] w fun e w' => e = .returned (.bool true) ∧ Kept noBlock w w' := by
  obtain ⟨M, hme⟩ : ∃ M, M = min n 60 := ⟨_, rfl⟩
  have q1 : (if (60 : Int) < (n : Int) then (60 : Int) else (n : Int)) = (M : Int) := by split <;> omega
  have i1 : (M : Int) ≤ c := by omega
  have hmn : M ≤ n := by omega
  have hm60 : M ≤ 60 := by omega
  have HX := Lib.hid hx; clear hx
  have HL := Lib.hid hl; clear hl
  have H := Lib.hid h; clear h
  clear hme
  refine (callsIn_wide (n := 3)).1 ?_
  refine callsIn_of_wp_marks Try.func6 rfl trivial ?_ rfl
  simp only [Try.ntmps6, List.size_toArray, List.length_cons, List.length_nil, Nat.reduceAdd, Nat.reduceSub, Array.replicate_succ, Array.replicate_zero, List.push_toArray, List.append_toArray, List.nil_append, List.cons_append]
  refine wpIn_wide.2 ?_
  go_wp2_with fail
  have a2 := heap_alloc_new w (.cells #[.bool false] 4)
  have k2 := Kept.alloc noBlock w (.cells #[.bool false] 4)
  have s2 : (w.alloc (.cells #[.bool false] 4)).heap.size = w.heap.size + 1 := by simp
  obtain ⟨B2, hB2⟩ : ∃ B2, B2 = w.heap.size := ⟨_, rfl⟩
  rw [← hB2] at a2 ⊢
  generalize w.alloc (.cells #[.bool false] 4) = w0 at a2 k2 s2 ⊢
  refine (awake_any w0).mono ?_
  rintro e w1 ⟨rfl, k1⟩
  have A1 := Lib.hid (k1.blk a2 (fun h => h))
  have K1 := Lib.hid (k2.step k1)
  have hs1 : B2 < w1.heap.size := by have := k1.size; omega
  have h2w : w.heap.size ≤ B2 := by omega
  clear a2 k2 k1 s2 hB2
  go_wp2_with fail
  have o1 : II.Own w1.heap.size (w1.alloc (.cells #[.slice none 0 0] 27)) w1.heap.size [] := II.Own.new (Nat.le_refl _)
  have o2 : II.Own (w1.alloc (.cells #[.slice none 0 0] 27)).heap.size ((w1.alloc (.cells #[.slice none 0 0] 27)).alloc (.cells #[.slice none 0 0] 27)) (w1.heap.size + 1) [] := by
    have := II.Own.new (base := (w1.alloc (.cells #[.slice none 0 0] 27)).heap.size) (w := w1.alloc (.cells #[.slice none 0 0] 27)) (Nat.le_refl _)
    rw [World.size_alloc] at this
    rw [World.size_alloc]
    exact this
  have t0 : Two w ((w1.alloc (.cells #[.slice none 0 0] 27)).alloc (.cells #[.slice none 0 0] 27)) w1.heap.size (w1.heap.size + 1) [] [] [B2] := Two.of K1.out o1 (Kept.alloc _ _ _) o2 (Kept.alloc _ _ _) (by intro e he; simp at he; omega)
  have t1 := t0.more (Kept.alloc noBlock _ (.cells #[.pointer (some ⟨w1.heap.size + 1, 0, none⟩)] 24)) (w1.heap.size + 1 + 1) (by simp) (by simp)
  have b2 : (((w1.alloc (.cells #[.slice none 0 0] 27)).alloc (.cells #[.slice none 0 0] 27)).alloc (.cells #[.pointer (some ⟨w1.heap.size + 1, 0, none⟩)] 24)).heap[B2]? = some (.cells #[.bool false] 4 (0, 0)) :=
    (((Kept.alloc noBlock _ _).step (Kept.alloc noBlock _ _)).step (Kept.alloc noBlock _ _)).blk A1.out (fun h => h)
  have b4 : (((w1.alloc (.cells #[.slice none 0 0] 27)).alloc (.cells #[.slice none 0 0] 27)).alloc (.cells #[.pointer (some ⟨w1.heap.size + 1, 0, none⟩)] 24)).heap[w1.heap.size + 1 + 1]? = some (.cells #[.pointer (some ⟨w1.heap.size + 1, 0, none⟩)] 24 (0, 0)) := by
    have := heap_alloc_new ((w1.alloc (.cells #[.slice none 0 0] 27)).alloc (.cells #[.slice none 0 0] 27)) (.cells #[.pointer (some ⟨w1.heap.size + 1, 0, none⟩)] 24)
    rw [World.size_alloc, World.size_alloc] at this
    exact this
  have h24 : B2 < w1.heap.size + 1 + 1 := by omega
  obtain ⟨B4, hB4⟩ : ∃ B4, B4 = w1.heap.size + 1 + 1 := ⟨_, rfl⟩
  obtain ⟨y, hy⟩ : ∃ y, y = w1.heap.size + 1 := ⟨_, rfl⟩
  obtain ⟨x, hx⟩ : ∃ x, x = w1.heap.size := ⟨_, rfl⟩
  rw [← hB4, ← hy, ← hx] at t1
  rw [← hy] at b2
  rw [← hB4, ← hy] at b4
  rw [← hB4] at h24
  rw [← hB4, ← hy, ← hx]
  generalize (((w1.alloc (.cells #[.slice none 0 0] 27)).alloc (.cells #[.slice none 0 0] 27)).alloc (.cells #[.pointer (some ⟨y, 0, none⟩)] 24)) = w2 at t1 b2 b4 ⊢
  have T1 := Lib.hid t1
  have R1 := Lib.hid b2
  have X1 := Lib.hid b4
  clear o1 o2 t0 t1 b2 b4 hB4 hy hx A1 K1 hs1
  obtain ⟨R, hR⟩ : ∃ R, R = (xs.take M).reverse := ⟨_, rfl⟩
  have hRk : ∀ (k : Nat) z, k < M → xs[M - 1 - k]? = some z → R[k]? = some z := fun k z hk hz => by
    have hl := HL.out
    rw [hR, List.getElem?_reverse (by rw [List.length_take]; omega), List.length_take, Nat.min_eq_left (by omega), List.getElem?_take, if_pos (by omega)]
    exact hz
  have HRK := Lib.hid hRk; clear hRk
  have HR := Lib.hid hR; clear hR
  go_loopw [24] (fun v wr => ∃ k : Nat, k ≤ M ∧ v = .int .i64 (k : Int) ∧ Hid (Two w wr x y (dub (xs.take k)) (dub (R.take k)) [B4, B2]) ∧ Hid (wr.heap[B2]? = some (.cells #[.bool false] 4 (0, 0))) ∧ Hid (wr.heap[B4]? = some (.cells #[.pointer (some ⟨y, 0, none⟩)] 24 (0, 0)))) (fun v _ => M - (intOf v).toNat)
  case atStart => exact ⟨0, Nat.zero_le _, rfl, T1, R1, X1⟩
  case round =>
    clear T1 R1 X1
    obtain ⟨k, hk, rfl, HT, HB2, HB4⟩ := hrel
    by_cases hlt : k < M
    · obtain ⟨u, huk⟩ : ∃ u, xs[k]? = some u := ⟨xs[k]'(by rw [HL.out]; omega), List.getElem?_eq_getElem _⟩
      obtain ⟨g, o, rfl, _, c1, _⟩ := acts_at H.out HT.out.world huk
      obtain ⟨f1, f2, f3, f4⟩ := HX.out u (List.mem_of_getElem? huk)
      have hsn := take_snoc xs k u huk
      have ck : ∀ W, Kept noBlock w W → W.cell? ⟨g, o + k * 3 + 1, none⟩ = some (.int .i8 u.key) := fun W kW => by
        obtain ⟨g', o', e, _, c', _⟩ := acts_at H.out kW huk
        injection e with e
        injection e with e1 e2
        subst e1 e2
        exact c'
      have CK := Lib.hid ck; clear ck
      obtain ⟨uo, key, uv⟩ := u
      simp only at c1 f1 f2 f3 f4 CK
      have hlen : (dub (xs.take k)).length < 1048576 := by have := dub_len (xs.take k); rw [List.length_take] at this; omega
      have P := Lib.hid ((HT.out.kept (Kept.drew noBlock wr)).put key (key * 2) hlen)
      rw [show Srt.put (dub (xs.take k)) key (key * 2) = dub (xs.take (k + 1)) from by rw [hsn, dub_snoc]] at P
      have HB2d : Hid (wr.drew.heap[B2]? = some (.cells #[.bool false] 4 (0, 0))) := Lib.hid HB2.out
      have HB4d : Hid (wr.drew.heap[B4]? = some (.cells #[.pointer (some ⟨y, 0, none⟩)] 24 (0, 0))) := Lib.hid HB4.out
      have hkM : (k : Int) < M := by omega
      have hw1 : IntKind.i64.wrap (key * 2) = key * 2 := IntWalk.i64_in _ (by omega)
      have hw2 : IntKind.i64.wrap key = key := IntWalk.i64_in _ (by omega)
      have c1d : wr.drew.cell? ⟨g, o + k * 3 + 1, none⟩ = some (.int .i8 key) := c1
      clear huk hsn hlen
      go_upto_region 8 with (fail)
      refine wp_region_noPanic ?_
      refine wp_region_held_drew (S := fun w' => w'.cell? ⟨g, o + k * 3 + 1, none⟩ = some (.int .i8 key)) (by kernel_rfl) c1d (fun hHeld => ?_)
      refine wpAnyH_take (i := 0) (oi := ⟨some 27, Op.move (Operand.tmp 3), 24, _, _, none⟩) (v := ?v0n1k1) rfl (by kernel_rfl) (by kernel_rfl) (by kernel_rfl) (fun _ _ _ h => h) (Or.inl ⟨by rfl, ?y0n1k1⟩) hHeld ?z0n1k1
      case y0n1k1 => intro w hSw; (try dsimp only at hSw); go_simp <;> rfl
      try simp only [Act.put, List.setIfInBounds_toArray, List.set_cons_zero, List.set_cons_succ]
      refine wpAnyH_take (i := 1) (oi := ⟨some 28, Op.move (Operand.tmp 0), 22, _, _, none⟩) (v := ?v1n1k2) rfl (by kernel_rfl) (by kernel_rfl) (by kernel_rfl) (fun _ _ _ h => h) (Or.inl ⟨by rfl, ?y1n1k2⟩) hHeld ?z1n1k2
      case y1n1k2 => intro w hSw; (try dsimp only at hSw); go_simp <;> rfl
      try simp only [Act.put, List.setIfInBounds_toArray, List.set_cons_zero, List.set_cons_succ]
      refine wpAnyH_take (i := 2) (oi := ⟨some 29, Op.move (Operand.tmp 5), 3, _, _, none⟩) (v := ?v2n1k3) rfl (by kernel_rfl) (by kernel_rfl) (by kernel_rfl) (fun _ _ _ h => h) (Or.inl ⟨by rfl, ?y2n1k3⟩) hHeld ?z2n1k3
      case y2n1k3 => intro w hSw; (try dsimp only at hSw); go_simp <;> rfl
      try simp only [Act.put, List.setIfInBounds_toArray, List.set_cons_zero, List.set_cons_succ]
      refine wpAnyH_take (i := 3) (oi := ⟨some 30, Op.indexAddr 22 (Operand.tmp 28) (Operand.tmp 29), 0, _, _, none⟩) (v := ?v3n1k4) rfl (by kernel_rfl) (by kernel_rfl) (by kernel_rfl) (fun _ _ _ h => h) (Or.inl ⟨by rfl, ?y3n1k4⟩) hHeld ?z3n1k4
      case y3n1k4 => intro w hSw; (try dsimp only at hSw); go_simp <;> rfl
      try simp only [Act.put, List.setIfInBounds_toArray, List.set_cons_zero, List.set_cons_succ]
      refine wpAnyH_take (i := 4) (oi := ⟨some 31, Op.fieldAddr 36 (Operand.tmp 30) 1, 0, _, _, none⟩) (v := ?v4n1k5) rfl (by kernel_rfl) (by kernel_rfl) (by kernel_rfl) (fun _ _ _ h => h) (Or.inl ⟨by rfl, ?y4n1k5⟩) hHeld ?z4n1k5
      case y4n1k5 => intro w hSw; (try dsimp only at hSw); go_simp <;> rfl
      try simp only [Act.put, List.setIfInBounds_toArray, List.set_cons_zero, List.set_cons_succ]
      refine wpAnyH_take (i := 5) (oi := ⟨some 32, Op.load 33 (Operand.tmp 31), 33, _, _, none⟩) (v := ?v5n1k6) rfl (by kernel_rfl) (by kernel_rfl) (by kernel_rfl) (fun _ _ _ h => h) (Or.inl ⟨by rfl, ?y5n1k6⟩) hHeld ?z5n1k6
      case y5n1k6 => intro w hSw; (try dsimp only at hSw); go_simp <;> rfl
      try simp only [Act.put, List.setIfInBounds_toArray, List.set_cons_zero, List.set_cons_succ]
      refine wpAnyH_take (i := 6) (oi := ⟨some 33, Op.convert 33 3 (Operand.tmp 32), 3, _, _, none⟩) (v := ?v6n1k7) rfl (by kernel_rfl) (by kernel_rfl) (by kernel_rfl) (fun _ _ _ h => h) (Or.inl ⟨by rfl, ?y6n1k7⟩) hHeld ?z6n1k7
      case y6n1k7 => intro w hSw; (try dsimp only at hSw); go_simp <;> rfl
      try simp only [Act.put, List.setIfInBounds_toArray, List.set_cons_zero, List.set_cons_succ]
      refine wpAnyH_take (i := 7) (oi := ⟨some 34, Op.move (Operand.tmp 0), 22, _, _, none⟩) (v := ?v7n1k8) rfl (by kernel_rfl) (by kernel_rfl) (by kernel_rfl) (fun _ _ _ h => h) (Or.inl ⟨by rfl, ?y7n1k8⟩) hHeld ?z7n1k8
      case y7n1k8 => intro w hSw; (try dsimp only at hSw); go_simp <;> rfl
      try simp only [Act.put, List.setIfInBounds_toArray, List.set_cons_zero, List.set_cons_succ]
      refine wpAnyH_take (i := 8) (oi := ⟨some 35, Op.move (Operand.tmp 5), 3, _, _, none⟩) (v := ?v8n1k9) rfl (by kernel_rfl) (by kernel_rfl) (by kernel_rfl) (fun _ _ _ h => h) (Or.inl ⟨by rfl, ?y8n1k9⟩) hHeld ?z8n1k9
      case y8n1k9 => intro w hSw; (try dsimp only at hSw); go_simp <;> rfl
      try simp only [Act.put, List.setIfInBounds_toArray, List.set_cons_zero, List.set_cons_succ]
      refine wpAnyH_take (i := 9) (oi := ⟨some 36, Op.indexAddr 22 (Operand.tmp 34) (Operand.tmp 35), 0, _, _, none⟩) (v := ?v9n1k10) rfl (by kernel_rfl) (by kernel_rfl) (by kernel_rfl) (fun _ _ _ h => h) (Or.inl ⟨by rfl, ?y9n1k10⟩) hHeld ?z9n1k10
      case y9n1k10 => intro w hSw; (try dsimp only at hSw); go_simp <;> rfl
      try simp only [Act.put, List.setIfInBounds_toArray, List.set_cons_zero, List.set_cons_succ]
      refine wpAnyH_take (i := 10) (oi := ⟨some 37, Op.fieldAddr 36 (Operand.tmp 36) 1, 0, _, _, none⟩) (v := ?v10n1k11) rfl (by kernel_rfl) (by kernel_rfl) (by kernel_rfl) (fun _ _ _ h => h) (Or.inl ⟨by rfl, ?y10n1k11⟩) hHeld ?z10n1k11
      case y10n1k11 => intro w hSw; (try dsimp only at hSw); go_simp <;> rfl
      try simp only [Act.put, List.setIfInBounds_toArray, List.set_cons_zero, List.set_cons_succ]
      refine wpAnyH_take (i := 11) (oi := ⟨some 38, Op.load 33 (Operand.tmp 37), 33, _, _, none⟩) (v := ?v11n1k12) rfl (by kernel_rfl) (by kernel_rfl) (by kernel_rfl) (fun _ _ _ h => h) (Or.inl ⟨by rfl, ?y11n1k12⟩) hHeld ?z11n1k12
      case y11n1k12 => intro w hSw; (try dsimp only at hSw); go_simp <;> rfl
      try simp only [Act.put, List.setIfInBounds_toArray, List.set_cons_zero, List.set_cons_succ]
      refine wpAnyH_take (i := 12) (oi := ⟨some 39, Op.convert 33 3 (Operand.tmp 38), 3, _, _, none⟩) (v := ?v12n1k13) rfl (by kernel_rfl) (by kernel_rfl) (by kernel_rfl) (fun _ _ _ h => h) (Or.inl ⟨by rfl, ?y12n1k13⟩) hHeld ?z12n1k13
      case y12n1k13 => intro w hSw; (try dsimp only at hSw); go_simp <;> rfl
      try simp only [Act.put, List.setIfInBounds_toArray, List.set_cons_zero, List.set_cons_succ]
      refine wpAnyH_take (i := 13) (oi := ⟨some 40, Op.binOp BinOp.mul 3 (Operand.tmp 39) (Operand.const (Value.int IntKind.i64 2)) 3, 3, _, _, none⟩) (v := ?v13n1k14) rfl (by kernel_rfl) (by kernel_rfl) (by kernel_rfl) (fun _ _ _ h => h) (Or.inl ⟨by rfl, ?y13n1k14⟩) hHeld ?z13n1k14
      case y13n1k14 => intro w hSw; (try dsimp only at hSw); go_simp <;> rfl
      try simp only [Act.put, List.setIfInBounds_toArray, List.set_cons_zero, List.set_cons_succ]
      refine wpAnyH_ready (rs := [14]) (by kernel_rfl) (by simp) ?_
      refine AllReadyH.cons (o := ⟨some 41, Op.call { callee := Callee.value (Operand.func 15), args := #[Operand.tmp 27, Operand.tmp 33, Operand.tmp 40], argTypes := #[24, 3, 3] }, 4, _, _, none⟩) rfl (fun K hK => ?_) AllReadyH.nil
      go_simp
      refine P.out.mono ?_
      rintro e w3 ⟨rfl, t3, s3⟩
      have T3 := Lib.hid t3
      have B23 := Lib.hid ((s3 B2 (by simp)).trans HB2d.out)
      have B43 := Lib.hid ((s3 B4 (by simp)).trans HB4d.out)
      have c13 := CK.out w3 t3.world
      clear t3 s3
      dsimp only
      refine hK.out _ _ c13 (fun hHeld => ?_)
      clear hK K
      try simp only [Act.put, List.setIfInBounds_toArray, List.set_cons_zero, List.set_cons_succ]
      refine wpAnyH_done (by kernel_rfl) ?_ _
      refine NoPanic.normal ?_
      clear hHeld c1 c1d hw1 hw2 P HB2d HB4d HT HB2 HB4 f1 f2 f3 f4 c13 CK
      obtain ⟨j, hj⟩ : ∃ j, j = M - 1 - k := ⟨_, rfl⟩
      have hji : (M : Int) - 1 - (k : Int) = (j : Int) := by omega
      have hjM : j < M := by omega
      obtain ⟨v, hvk⟩ : ∃ v, xs[j]? = some v := ⟨xs[j]'(by rw [HL.out]; omega), List.getElem?_eq_getElem _⟩
      have hRk := HRK.out k v hlt (by rw [← hj]; exact hvk)
      obtain ⟨g', o', e, d0, d1, d2⟩ := acts_at H.out T3.out.world hvk
      injection e with e
      injection e with e1 e2
      subst e1 e2
      obtain ⟨f1, f2, f3, f4⟩ := HX.out v (List.mem_of_getElem? hvk)
      have hsn := take_snoc R k v hRk
      obtain ⟨vo, vk, vv⟩ := v
      simp only at d0 d1 d2 f1 f2 f3 f4
      have hlen : (dub (R.take k)).length < 1048576 := by have := dub_len (R.take k); have := List.length_take_le k R; omega
      have ka : Kept noBlock w3 (w3.alloc (.cells #[.int .u8 (vo : Int), .int .i8 vk, .int .u16 (vv : Int)] 36)) := Kept.alloc _ _ _
      have P := Lib.hid ((T3.out.kept ka).swap.put vk (vk * 2) hlen)
      rw [show Srt.put (dub (R.take k)) vk (vk * 2) = dub (R.take (k + 1)) from by rw [hsn, dub_snoc]] at P
      have B24 := Lib.hid (ka.blk B23.out (fun h => h))
      have B44 := Lib.hid (ka.blk B43.out (fun h => h))
      have c4 : (w3.alloc (.cells #[.int .u8 (vo : Int), .int .i8 vk, .int .u16 (vv : Int)] 36)).cell? ⟨B4, 0, none⟩ = some (.pointer (some ⟨y, 0, none⟩)) := cell_of_row _ _ _ _ _ _ B44.out
      clear hj hvk hRk hsn hlen ka
      go_wp2_with fail
      refine P.out.mono ?_
      rintro e w5 ⟨rfl, t5, s5⟩
      have T5 := Lib.hid t5.swap
      have B25 := Lib.hid ((s5 B2 (by simp)).trans B24.out)
      have B45 := Lib.hid ((s5 B4 (by simp)).trans B44.out)
      clear t5 s5 P T3 B23 B43 B24 B44 c4 d0 d1 d2
      go_wp2
      go_roundw
      case rel => exact ⟨k + 1, by omega, by go_num, T5, B25, B45⟩
      case measure => simp [intOf]; omega
    · obtain rfl : k = M := by omega
      have hRM : R.take k = R := List.take_of_length_le (by rw [HR.out, List.length_reverse, List.length_take]; omega)
      have hLL : dub R = dub (xs.take k) := by rw [HR.out, dub_reverse]
      rw [hRM, hLL] at HT
      clear hRM hLL HRK HR
      obtain ⟨L, hLe⟩ : ∃ L, L = dub (xs.take k) := ⟨_, rfl⟩
      rw [← hLe] at HT
      clear hLe
      have c4 : wr.cell? ⟨B4, 0, none⟩ = some (.pointer (some ⟨y, 0, none⟩)) := cell_of_row _ _ _ _ _ _ HB4.out
      obtain ⟨ln, hln⟩ : ∃ ln, ln = L.length := ⟨_, rfl⟩
      have Q1 := Lib.hid (HT.out.kept (Kept.drew noBlock wr)).size
      have Q2 := Lib.hid (HT.out.kept (Kept.drew noBlock wr)).swap.size
      rw [← hln] at Q1 Q2
      clear hln
      have c4d : wr.drew.cell? ⟨B4, 0, none⟩ = some (.pointer (some ⟨y, 0, none⟩)) := c4
      go_upto_region 12 with (fail)
      refine wp_region_noPanic ?_
      refine wp_region_held_drew (S := fun w' => w'.cell? ⟨B4, 0, none⟩ = some (.pointer (some ⟨y, 0, none⟩))) (by kernel_rfl) c4d (fun hHeld => ?_)
      refine wpAnyH_take (i := 0) (oi := ⟨some 60, Op.move (Operand.tmp 3), 24, _, _, none⟩) (v := ?v0n2k1) rfl (by kernel_rfl) (by kernel_rfl) (by kernel_rfl) (fun _ _ _ h => h) (Or.inl ⟨by rfl, ?y0n2k1⟩) hHeld ?z0n2k1
      case y0n2k1 => intro w hSw; (try dsimp only at hSw); go_simp <;> rfl
      try simp only [Act.put, List.setIfInBounds_toArray, List.set_cons_zero, List.set_cons_succ]
      refine wpAnyH_take (i := 2) (oi := ⟨some 62, Op.load 24 (Operand.tmp 4), 24, _, _, none⟩) (v := ?v2n2k2) rfl (by kernel_rfl) (by kernel_rfl) (by kernel_rfl) (fun _ _ _ h => h) (Or.inl ⟨by rfl, ?y2n2k2⟩) hHeld ?z2n2k2
      case y2n2k2 => intro w hSw; (try dsimp only at hSw); go_simp <;> rfl
      try simp only [Act.put, List.setIfInBounds_toArray, List.set_cons_zero, List.set_cons_succ]
      refine wpAnyH_ready (rs := [1]) (by kernel_rfl) (by simp) ?_
      refine AllReadyH.cons (o := ⟨some 61, Op.call { callee := Callee.value (Operand.func 17), args := #[Operand.tmp 60], argTypes := #[24] }, 3, _, _, none⟩) rfl (fun K hK => ?_) AllReadyH.nil
      go_simp
      refine Q1.out.mono ?_
      rintro e w3 ⟨rfl, rfl⟩
      dsimp only
      refine hK.out _ _ c4d (fun hHeld => ?_)
      clear hK K
      try simp only [Act.put, List.setIfInBounds_toArray, List.set_cons_zero, List.set_cons_succ]
      refine wpAnyH_ready (rs := [3]) (by kernel_rfl) (by simp) ?_
      refine AllReadyH.cons (o := ⟨some 63, Op.call { callee := Callee.value (Operand.func 17), args := #[Operand.tmp 62], argTypes := #[24] }, 3, _, _, none⟩) rfl (fun K hK => ?_) AllReadyH.nil
      go_simp
      refine Q2.out.mono ?_
      rintro e w3 ⟨rfl, rfl⟩
      dsimp only
      refine hK.out _ _ c4d (fun hHeld => ?_)
      clear hK K
      try simp only [Act.put, List.setIfInBounds_toArray, List.set_cons_zero, List.set_cons_succ]
      refine wpAnyH_take (i := 4) (oi := ⟨some 64, Op.binOp BinOp.neq 3 (Operand.tmp 61) (Operand.tmp 63) 3, 4, _, _, none⟩) (v := ?v4n2k3) rfl (by kernel_rfl) (by kernel_rfl) (by kernel_rfl) (fun _ _ _ h => h) (Or.inl ⟨by rfl, ?y4n2k3⟩) hHeld ?z4n2k3
      case y4n2k3 => intro w hSw; (try dsimp only at hSw); go_simp <;> rfl
      try simp only [Act.put, List.setIfInBounds_toArray, List.set_cons_zero, List.set_cons_succ]
      refine wpAnyH_done (by kernel_rfl) ?_ _
      refine NoPanic.normal ?_
      have T3 := Lib.hid (HT.out.kept (Kept.drew noBlock wr))
      have B23 : Hid (wr.drew.heap[B2]? = some (.cells #[.bool false] 4 (0, 0))) := Lib.hid HB2.out
      have B43 : Hid (wr.drew.heap[B4]? = some (.cells #[.pointer (some ⟨y, 0, none⟩)] 24 (0, 0))) := Lib.hid HB4.out
      clear hHeld c4 c4d Q1 Q2 HT HB2 HB4
      generalize wr.drew = w3 at T3 B23 B43 ⊢
      go_wp2_with fail
      refine (II.all_any x w3).mono ?_
      rintro e w4 ⟨rfl, bb, k4⟩
      obtain ⟨FF, GG, t4⟩ := T3.out.kept k4
      have hwT := t4.two.world.size
      have hFF : ∀ i, FF i → i < w4.heap.size := t4.1.lt
      have hGG : ∀ i, GG i → i < w4.heap.size := t4.2.1.lt
      have HR := Lib.hid (II.all1_runs w3.heap.size FF x L w4 bb t4.1)
      have I4 : Hid (OrdI w B2 B4 x y L [B4, B2] FF GG w4) := Lib.hid ⟨k4.blk B23.out (fun h => h), k4.blk B43.out (fun h => h), t4⟩
      have HFF := Lib.hid hFF
      have HGG := Lib.hid hGG
      obtain ⟨Bb, hBb⟩ : ∃ Bb, Bb = w3.heap.size := ⟨_, rfl⟩
      rw [← hBb] at HR ⊢
      clear bb k4 hBb t4 hFF hGG T3 B23 B43
      go_wp2_with fail
      refine (wpIn_wide (n := 3)).1 ?_
      refine wpIn_runs_to rfl (enters_of Try.func34 (by kernel_rfl) rfl) HR.out (Kept.refl _ _) (fun _ => rfl) (fun p => [(7, II.ek p.1), (8, II.ev p.2)]) (fun _ W => Hid (OrdI w B2 B4 x y L [B4, B2] FF GG W)) (fun _ _ _ => False)
        (fun s A B h k => Lib.hid (h.out.abide k HFF.out HGG.out hwT)) (fun _ _ _ _ h _ => h) I4 ?assign ?body ?done ?stop
      case assign =>
        intro l p W K hK
        dsimp only [II.enc]
        simp only [landed, List.foldl_cons, List.foldl_nil, List.zip_toArray, List.zip_cons_cons, List.zip_nil_right, II.enc, List.foldl_toArray, List.setIfInBounds_toArray, List.set_cons_zero, List.set_cons_succ] at hK
        gi_wp2
        exact hK
      case body =>
        rintro l pre p rest W hL hI
        simp only [landed, List.foldl_cons, List.foldl_nil, List.zip_toArray, List.zip_cons_cons, List.zip_nil_right, II.enc, List.foldl_toArray, List.setIfInBounds_toArray, List.set_cons_zero, List.set_cons_succ]
        have hup := hI.out.two.two.upx
        have hlk : Srt.look L p.1 = some p.2 := Srt.look_of_mem hup (by rw [hL]; simp)
        have hhs : Srt.has L p.1 = true := (Srt.has_iff L p.1).2 ⟨_, hlk⟩
        have g1 := hI.out.two.two.swap.get p.1
        rw [hlk, hhs, Option.getD_some] at g1
        have G1 := Lib.hid g1
        have c4 : W.cell? ⟨B4, 0, none⟩ = some (.pointer (some ⟨y, 0, none⟩)) := cell_of_row _ _ _ _ _ _ hI.out.box
        clear hup hlk hhs g1 hL
        obtain ⟨pk, pv⟩ := p
        unfold II.ek II.ev
        dsimp only at G1 ⊢
        gi_wp2_with fail
        refine ⟨trivial, ?_⟩
        refine (CallsIn.inRound l (callsIn_wide.2 G1.out)).mono ?_
        rintro e w5 ⟨rfl, k5⟩
        have I5 : Hid (OrdI w B2 B4 x y L [B4, B2] FF GG w5) := Lib.hid ⟨k5.blk hI.out.res (fun h => h), k5.blk hI.out.box (fun h => h), hI.out.two.kept k5⟩
        have KF := Lib.hid (keepsFrom_kept (B := w4.heap.size) k5 (fun _ _ h => h.elim))
        have SP := Lib.hid (Spares.of_kept (U := II.UU) k5)
        clear k5 hI c4 G1
        gi_wp2
        exact ⟨KF.out, SP.out, I5⟩
      case done =>
        intro D W hD hI hK
        have c2 : W.cell? ⟨B2, 0, none⟩ = some (.bool false) := cell_of_row _ _ _ _ _ _ hI.out.res
        have f2 : W.frozen? ⟨B2, 0, none⟩ = false := frozen_of_row _ _ _ _ _ hI.out.res
        have HKD := Lib.hid hK; clear hK
        go_wp2
        have r7 := setB (u := .bool true) hI.out.res
        have k7 : Kept (fun b => b = B2) W (W.setCell ⟨B2, 0, none⟩ (.bool true)) := Kept.setCell W (by rfl) _
        have hk7 := k7.blk HKD.out (fun e => by subst e; rw [hI.out.res] at HKD; cases HKD.out)
        refine ⟨by simp, .inl ⟨_, _, rfl, run_takeDeferred hk7, ?_⟩⟩
        have st : Abide II.TT w4.heap.size (W.setCell ⟨B2, 0, none⟩ (.bool true)) ((W.setCell ⟨B2, 0, none⟩ (.bool true)).putObj D (.deferred none)) := Abide.putObj _ hD hk7 rfl
        refine ⟨_, results_box rfl _ _ B2 (.bool true) rfl (cell_of_row _ _ _ _ _ _ (st.blk r7 (.inr (by unfold II.TT; decide)))), rfl, ?_⟩
        exact Abide.kept (hI.out.two.two.world.trans k7 (fun i hi e => by omega)) st hwT
      case stop =>
        rintro D c pre W _ _ h _
        exact h.elim
end Go.Proofs.Ytohanlhfbfodlaa
