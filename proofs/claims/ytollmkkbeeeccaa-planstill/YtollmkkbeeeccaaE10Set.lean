/-
  The contract of edits' (list).set. No statement is proved here.
-/
import Derived.Test.YtollmkkbeeeccaaE10LDo
import Derived.Test.YtollmkkbeeeccaaE10Keys
import Derived.Test.YtollmkkbeeeccaaKeyIter
namespace Go.Proofs.Ytollmkkbeeeccaa
open Go.RowKit Tot Go.Maps Go.Sort Go.Shelf

theorem src_sl {w : World} {F : Nat → Prop} {a : Option Addr} {n c : Nat} {xs : List Value} (h : Lies w F a xs) (hl : xs.length = n * 4) (h1 : ∀ u ∈ xs, u.oneCell' = true) : Src Try.prog 4 25 (.slice a n c) n xs w := by
  cases a with
  | none =>
    obtain rfl : xs = [] := by
      cases xs with
      | nil => rfl
      | cons x r => obtain ⟨ad, h, _⟩ := h (by simp); cases h
    obtain rfl : n = 0 := by simp at hl; omega
    exact Src.ofNil w Try.underlying25 c
  | some ad =>
    refine Src.ofSlice w Try.underlying25 ad n c xs hl (fun j u hu => ?_) h1
    obtain ⟨ad', e, _, hc⟩ := h.at_ hu
    injection e with e
    subst e
    exact hc
def opt1 (o : Option RefV) : Nat := if o.isSome then 1 else 0
theorem opt_refs (o : Option RefV) : refCells o.toList = vCells o := by cases o <;> simp [refCells, vCells]
theorem opt_len (o : Option RefV) : o.toList.length = opt1 o := by cases o <;> rfl
theorem two_set {w : World} {R : Nat} {y0 y1 x0 x1 : Value} {t : TypeId} (h : w.heap[R]? = some (.cells #[y0, y1] t (0, 0))) : ((w.setCell ⟨R, 0, none⟩ x0).setCell ⟨R, 1, none⟩ x1).heap[R]? = some (.cells #[x0, x1] t (0, 0)) ∧
    Kept (fun i => i = R) w ((w.setCell ⟨R, 0, none⟩ x0).setCell ⟨R, 1, none⟩ x1) := by
  have h0 := heap_setCell_same w R 0 _ t x0 h
  have h1 := heap_setCell_same _ R 1 _ t x1 h0
  exact ⟨by simpa using h1, (Kept.setCell w (by rfl) _).step (Kept.setCell _ (by rfl) _)⟩

set_option maxRecDepth 100000 in
set_option maxHeartbeats 1000000 in
theorem lset_any (d m : Nat) (N : Fls) (f : Int) (B : Nat) (w : World) (h : Ls w d m N f B) (hu : Srt.Up N) (hB : B ≤ 1099511627776) :
    Calls Try.prog 27 #[.pointer (some ⟨d, 0, none⟩)] w fun en w' => ∃ A c, en = .returned (.agg #[.slice A N.length c, .int .i64 f]) ∧ w'.ownsRow w.heap.size 37 4 (.slice A N.length c) N.length (refCells (N.map (·.2))) ∧ Kept noBlock w w' := by
  obtain ⟨w1, hw1⟩ : ∃ w1, w1 = (w.alloc (.cells #[.slice none 0 0, .int .i64 0] 27)).alloc (.cells #[.slice none 0 0, .int .i64 f] 27) := ⟨_, rfl⟩
  have k1 : Kept noBlock w w1 := by rw [hw1]; exact (Kept.alloc _ _ _).step (Kept.alloc _ _ _)
  have b0 : w1.heap[w.heap.size]? = some (.cells #[.slice none 0 0, .int .i64 0] 27 (0, 0)) := by rw [hw1]; exact (Kept.alloc noBlock _ _).blk (heap_alloc_new w _) (fun h => h)
  have b1 : w1.heap[w.heap.size + 1]? = some (.cells #[.slice none 0 0, .int .i64 f] 27 (0, 0)) := by
    rw [hw1]
    have := heap_alloc_new (w.alloc (.cells #[.slice none 0 0, .int .i64 0] 27)) (.cells #[.slice none 0 0, .int .i64 f] 27)
    simpa using this
  have d1 : w.cell? ⟨d, 1, none⟩ = some (.int .i64 f) := cell_of_row _ _ _ _ _ _ h.blk
  have hdl := lt_of_blk h.blk
  have hml := h.rows.lt
  have hmd := h.ne
  obtain ⟨M, tb, hM, hsl, hmk⟩ := h.rows
  have hall : ∀ p ∈ N, Srt.has M p.1 = true := fun p hp => by
    have h1 := Srt.look_of_mem hu hp
    have h2 := (hsl p.1).len
    rw [h1] at h2
    cases hl : Srt.look M p.1 with
    | none => rw [hl] at h2; simp [noSl] at h2
    | some q => exact (Srt.has_iff _ _).2 ⟨q, hl⟩
  have L1 := Lib.hid (h.keep k1)
  have HRO := Lib.hid (h.rows.only.keep k1 (fun h => h) (fun _ _ h => h))
  have hk := (callsIn_wide (n := 5)).1 (Try.maps_Keys_35 (some m) w1)
  have hs := (callsIn_wide (n := 5)).1 (Try.slices_Sorted_keys_34_35 m M.length (MG.enc M) MG.rd w1 (tb.keep k1 (fun h => h)).own (by rw [MG.enc_size]; unfold maxLen; omega) (by rw [MG.enc_size]; omega))
  rw [strKeys_files] at hs
  have HALL := Lib.hid hall
  have HMU := Lib.hid tb.up
  have HMB : Hid (M.length ≤ B) := hM
  have HK := Lib.hid hk
  have HS := Lib.hid hs
  have K1 := Lib.hid k1
  have B0 := Lib.hid b0
  have B1 := Lib.hid b1
  have HU := Lib.hid hu
  have HW1 := Lib.hid hw1
  have d0 : w1.cell? ⟨d, 0, none⟩ = some (.map (some m)) := cell_of_row _ _ _ _ _ _ L1.out.blk
  clear hall hk hs k1 b0 b1 tb hsl hM h hu
  go_enter Try.func27, Try.ntmps27
  go_upto_region 2 with (fail)
  rw [← hw1]
  clear hw1 d1
  go_wp2_with fail
  refine HK.out.mono ?_
  rintro en w2 ⟨rfl, rfl⟩
  go_wp2_with fail
  refine HS.out.mono ?_
  rintro en w3 ⟨v, ss, rfl, hp, hrow, hnil, hbel⟩
  obtain ⟨A', c', rfl, _⟩ := own_form hrow
  have hns := pick_all HU.out HMU.out hp HALL.out
  have hlen : (ss.mergeSort (fun x y => decide (x ≤ y))).length = ss.length := List.length_mergeSort _
  have hss : ss.length = M.length := by rw [hp.length_eq, List.length_map]
  have hnsz : ∀ s ∈ ss.mergeSort (fun x y => decide (x ≤ y)), (str s).size ≤ maxLen := fun s hs => by
    obtain ⟨p, hp1, hp2⟩ := List.mem_map.1 (hp.mem_iff.1 ((List.mergeSort_perm _ _).mem_iff.1 hs))
    have := hmk p hp1
    rw [← hp2, str_of]
    exact this
  obtain ⟨ns, hnse⟩ : ∃ ns, ns = ss.mergeSort (fun x y => decide (x ≤ y)) := ⟨_, rfl⟩
  rw [← hnse] at hns hlen hnsz hrow
  obtain ⟨n, hn⟩ : ∃ n, n = ss.length := ⟨_, rfl⟩
  rw [← hn] at hrow hlen hss ⊢
  have hnB : n ≤ 1099511627776 := by have := HMB.out; omega
  have ka := Kept.alloc noBlock w1 (.cells #[.map (some m)] 73)
  have K3 : Hid (Kept noBlock w1 w3) := ka.step (Kept.of_below hbel (fun i h1 h2 => by omega))
  have HROW : Hid (Lies w3 (fun i => w1.heap.size < i) A' (ns.map fun s => .string (str s))) := Lies.of_own hrow (fun i hi => by have := (hrow.lt i hi).1; simp at this; omega)
  have HNS := Lib.hid hns
  have HLEN := Lib.hid hlen
  have HSZ := Lib.hid hnsz
  have L3 := Lib.hid (L1.out.keep K3.out)
  have D0 := Lib.hid (K3.out.blk B0.out (fun h => h))
  have D1 := Lib.hid (K3.out.blk B1.out (fun h => h))
  have HW1S : Hid (w1.heap.size = w.heap.size + 2) := by unfold Hid; rw [HW1.out]; simp
  clear hp hrow hnil hbel hns hlen hss hnsz hnse hn ka HK HS hmk d0 B0 B1
  go_wp2_with fail
  go_loopw [18] (fun i wr => ∃ (k : Nat) (A : Option Addr) (L c : Nat), k ≤ n ∧ i = .int .i64 (k : Int) ∧ L ≤ k ∧ Hid ((pick N (ns.take k)).length = L) ∧ Hid (wr.heap[w.heap.size + 1]? = some (.cells #[.slice A L c, .int .i64 f] 27 (0, 0))) ∧ Hid (wr.ownsRow 0 37 4 (.slice A L c) L (refCells (pick N (ns.take k)))) ∧
    Hid (∀ i, (Value.slice A L c).ownBlock = some i → w3.heap.size ≤ i) ∧ Hid (Kept (fun i => i = w.heap.size + 1) w3 wr)) (fun i _ => n - (intOf i).toNat)
  case atStart => exact ⟨0, none, 0, 0, by omega, rfl, by omega, rfl, D1, World.ownsRow_nil _ _ _ _, fun i hi => by simp [Value.ownBlock] at hi, Kept.refl _ _⟩
  case round =>
    obtain ⟨k, A, L, c, hkn, rfl, hLk, HPL, HB, HO, HOB, HKR⟩ := hrel
    by_cases hlt : k < n
    · obtain ⟨s, hs⟩ : ∃ s, ns[k]? = some s := ⟨_, List.getElem?_eq_getElem (by have := HLEN.out; omega)⟩
      have hsv : (ns.map fun s => Value.string (str s))[k]? = some (.string (str s)) := by rw [List.getElem?_map, hs]; rfl
      obtain ⟨ad, rfl, _, hcell⟩ := (HROW.out.keep HKR.out (fun i hi e => by have := HW1S.out; omega)).at_ hsv
      have hpick := pick_snoc N ns k s hs
      have hsz := HSZ.out s (List.mem_of_getElem? hs)
      have HR4 : Hid (RowsL wr (fun i => (i ≠ d ∧ i ≠ m) ∧ i < w.heap.size) m N B) := (HRO.out.keep K3.out (fun h => h) (fun _ _ h => h)).keep HKR.out (fun e => by omega) (fun i hi e => by have := hi.2; omega)
      obtain ⟨v, hvs, hlook⟩ := HR4.out.look (str s) hsz
      obtain ⟨va, vn, vc⟩ := v
      obtain ⟨Av, hAv⟩ : ∃ Av, Av = SlV.addr (va, (vn, vc)) := ⟨_, rfl⟩
      have hlk1 : ∀ u, Kept noBlock wr u → (Instr.lookup 73 (.map (some m)) (.string (str s)) false).run Try.prog u = .ok (.slice Av vn vc) u := fun u k => by rw [hAv]; exact hlook u k
      have hvl : Lies wr (fun i => (i ≠ d ∧ i ≠ m) ∧ i < w.heap.size) Av (vCells (Srt.look N (str s))) := by rw [hAv]; exact hvs.lies
      have hvn : vn = opt1 (Srt.look N (str s)) := hvs.len
      obtain ⟨o, ho⟩ : ∃ o, o = Srt.look N (str s) := ⟨_, rfl⟩
      rw [← ho] at hvl hvn hpick
      have HVL := Lib.hid hvl
      have HLK := Lib.hid hlk1
      have HPK := Lib.hid hpick
      have HVN := Lib.hid hvn
      have hv1 : vn ≤ 1 := by rw [hvn]; unfold opt1; split <;> omega
      have CD : Hid (∀ u, Kept (fun i => w3.heap.size ≤ i ∨ i = w.heap.size + 1) wr u → u.cell? ⟨d, 0, none⟩ = some (.map (some m))) := fun u k =>
        cell_of_row _ _ _ _ _ _ (k.blk (HKR.out.blk L3.out.blk (fun e => by omega)) (fun e => by have := lt_of_blk L3.out.blk; omega))
      have CB : Hid (∀ u, Kept noBlock wr u → u.cell? ⟨w.heap.size + 1, 0, none⟩ = some (.slice A L c)) := fun u k => cell_of_row _ _ _ _ _ _ (k.blk HB.out (fun h => h))
      have KC : Hid (Kept noBlock wr wr.drew) := Kept.drew _ _
      have HR3 : Hid (w.heap.size + 1 < w3.heap.size) := lt_of_blk D1.out
      clear hs hsv hpick hsz hvs hlook hAv hlk1 hvl hvn ho
      go_upto_region 5 with (fail)
      refine wp_region_noPanic ?_
      refine wp_region_held_drew (S := fun u => u.cell? ⟨d, 0, none⟩ = some (.map (some m))) (by kernel_rfl) (CD.out _ KC.out.to) (fun hHeld => ?_)
      refine wpAnyH_take (i := 0) (oi := ⟨some 22, Op.fieldAddr 27 (Operand.tmp 3) 0, 0, _, _, none⟩) (v := ?v0n9k1) rfl (by kernel_rfl) (by kernel_rfl) (by kernel_rfl) (fun _ _ _ h => h) (Or.inl ⟨by rfl, ?y0n9k1⟩) hHeld ?z0n9k1
      case y0n9k1 => intro w hSw; (try dsimp only at hSw); go_simp <;> rfl
      try simp only [Act.put, List.setIfInBounds_toArray, List.set_cons_zero, List.set_cons_succ]
      refine wpAnyH_take (i := 2) (oi := ⟨some 24, Op.move (Operand.tmp 0), 65, _, _, none⟩) (v := ?v2n9k2) rfl (by kernel_rfl) (by kernel_rfl) (by kernel_rfl) (fun _ _ _ h => h) (Or.inl ⟨by rfl, ?y2n9k2⟩) hHeld ?z2n9k2
      case y2n9k2 => intro w hSw; (try dsimp only at hSw); go_simp <;> rfl
      try simp only [Act.put, List.setIfInBounds_toArray, List.set_cons_zero, List.set_cons_succ]
      refine wpAnyH_take (i := 3) (oi := ⟨some 25, Op.nilCheck (Operand.tmp 24), 0, _, _, none⟩) (v := ?v3n9k3) rfl (by kernel_rfl) (by kernel_rfl) (by kernel_rfl) (fun _ _ _ h => h) (Or.inl ⟨by rfl, ?y3n9k3⟩) hHeld ?z3n9k3
      case y3n9k3 => intro w hSw; (try dsimp only at hSw); go_simp <;> rfl
      try simp only [Act.put, List.setIfInBounds_toArray, List.set_cons_zero, List.set_cons_succ]
      refine wpAnyH_take (i := 4) (oi := ⟨some 26, Op.fieldAddr 75 (Operand.tmp 25) 0, 0, _, _, none⟩) (v := ?v4n9k4) rfl (by kernel_rfl) (by kernel_rfl) (by kernel_rfl) (fun _ _ _ h => h) (Or.inl ⟨by rfl, ?y4n9k4⟩) hHeld ?z4n9k4
      case y4n9k4 => intro w hSw; (try dsimp only at hSw); go_simp <;> rfl
      try simp only [Act.put, List.setIfInBounds_toArray, List.set_cons_zero, List.set_cons_succ]
      refine wpAnyH_take (i := 5) (oi := ⟨some 27, Op.load 73 (Operand.tmp 26), 73, _, _, none⟩) (v := ?v5n9k5) rfl (by kernel_rfl) (by kernel_rfl) (by kernel_rfl) (fun _ _ _ h => h) (Or.inl ⟨by rfl, ?y5n9k5⟩) hHeld ?z5n9k5
      case y5n9k5 => intro w hSw; (try dsimp only at hSw); go_simp <;> rfl
      try simp only [Act.put, List.setIfInBounds_toArray, List.set_cons_zero, List.set_cons_succ]
      refine wpAnyH_take (i := 6) (oi := ⟨some 28, Op.move (Operand.tmp 5), 9, _, _, none⟩) (v := ?v6n9k6) rfl (by kernel_rfl) (by kernel_rfl) (by kernel_rfl) (fun _ _ _ h => h) (Or.inl ⟨by rfl, ?y6n9k6⟩) hHeld ?z6n9k6
      case y6n9k6 => intro w hSw; (try dsimp only at hSw); go_simp <;> rfl
      try simp only [Act.put, List.setIfInBounds_toArray, List.set_cons_zero, List.set_cons_succ]
      refine wpAnyH_ready (rs := [1, 7]) (by kernel_rfl) (by simp) ?_
      refine (AllReadyH.cons (o := ⟨some 23, Op.load 25 (Operand.tmp 22), 25, _, _, none⟩) rfl (fun K hK => ?b1n9k8) (AllReadyH.cons (o := ⟨some 29, Op.lookup 73 (Operand.tmp 27) (Operand.tmp 28) false, 25, _, _, none⟩) rfl (fun K hK => ?b7n9k7) AllReadyH.nil))
      case b1n9k8 =>
        have hcb := CB.out _ KC.out
        go_simp
        refine hK.out _ _ (CD.out _ KC.out.to) (fun hHeld => ?_)
        clear hK K
        try simp only [Act.put, List.setIfInBounds_toArray, List.set_cons_zero, List.set_cons_succ]
        refine wpAnyH_ready (rs := [7]) (by kernel_rfl) (by simp) ?_
        refine AllReadyH.cons (o := ⟨some 29, Op.lookup 73 (Operand.tmp 27) (Operand.tmp 28) false, 25, _, _, none⟩) rfl (fun K hK => ?_) AllReadyH.nil
        have hlk := HLK.out _ KC.out
        go_simp
        refine hK.out _ _ (CD.out _ KC.out.to) (fun hHeld => ?_)
        clear hK K
        try simp only [Act.put, List.setIfInBounds_toArray, List.set_cons_zero, List.set_cons_succ]
        refine wpAnyH_ready (rs := [8]) (by kernel_rfl) (by simp) ?_
        refine AllReadyH.cons (o := ⟨some 30, Op.call { callee := Callee.builtin Builtin.append, args := #[Operand.tmp 23, Operand.tmp 29], argTypes := #[25, 25] }, 25, _, _, none⟩) rfl (fun K hK => ?_) AllReadyH.nil
        refine step_append_src rfl (.tmp 23) (.tmp 29) 25 25 rfl 37 noRef.val 4 40 Try.underlying25 Try.infoRef rfl (.slice A L c) L (refCells (pick N (ns.take k))) rfl (own_keep HO.out KC.out (fun _ _ h => h)) _ vn (vCells o) rfl (src_sl (HVL.out.keep KC.out (fun _ _ h => h)) (by rw [HVN.out, ← opt_refs, refCells_length, opt_len]) (by rw [← opt_refs]; exact one_refs _)) (by unfold maxLen; omega) (by omega) ?_
        intro A8 c8 u8 o8 k8 a8
        have HO8 : Hid (u8.ownsRow 0 37 4 (.slice A8 (L + vn) c8) (L + vn) (refCells (pick N (ns.take (k + 1))))) := by
          unfold Hid
          rw [HPK.out, refCells_append, opt_refs]
          exact o8
        have HA8 : Hid (∀ i, (Value.slice A8 (L + vn) c8).ownBlock = some i → w3.heap.size ≤ i) := fun i hi => by
          rcases a8 i hi with h | h
          · exact HOB.out i h
          · exact Nat.le_trans HKR.out.size (Nat.le_trans KC.out.size h.1)
        have KW : Hid (Kept (fun i => w3.heap.size ≤ i) wr u8) := KC.out.to.step (k8.mono (fun i _ h => HOB.out i h))
        clear o8 k8 a8
        refine hK.out _ _ (CD.out _ (KW.out.mono (fun _ _ h => .inl h))) (fun hHeld => ?_)
        clear hK K
        try simp only [Act.put, List.setIfInBounds_toArray, List.set_cons_zero, List.set_cons_succ]
        refine wpAnyH_take (i := 9) (oi := ⟨some 31, Op.fieldAddr 27 (Operand.tmp 3) 0, 0, _, _, none⟩) (v := ?v9n9k9) rfl (by kernel_rfl) (by kernel_rfl) (by kernel_rfl) (fun _ _ _ h => h) (Or.inl ⟨by rfl, ?y9n9k9⟩) hHeld ?z9n9k9
        case y9n9k9 => intro w hSw; (try dsimp only at hSw); go_simp <;> rfl
        try simp only [Act.put, List.setIfInBounds_toArray, List.set_cons_zero, List.set_cons_succ]
        refine wpAnyH_ready (rs := [10]) (by kernel_rfl) (by simp) ?_
        refine AllReadyH.cons (o := ⟨none, Op.store 25 (Operand.tmp 31) (Operand.tmp 30), 0, _, _, none⟩) rfl (fun K hK => ?_) AllReadyH.nil
        have hb8 := KW.out.blk HB.out (fun h => by have := HR3.out; omega)
        have hc8 : u8.cell? ⟨w.heap.size + 1, 0, none⟩ = some (.slice A L c) := cell_of_row _ _ _ _ _ _ hb8
        have hf8 : u8.frozen? ⟨w.heap.size + 1, 0, none⟩ = false := frozen_of_row _ _ _ _ _ hb8
        have ks : Kept (fun i => i = w.heap.size + 1) u8 (u8.setCell ⟨w.heap.size + 1, 0, none⟩ (.slice A8 (L + vn) c8)) := Kept.setCell u8 (by rfl) _
        have HB9 : Hid ((u8.setCell ⟨w.heap.size + 1, 0, none⟩ (.slice A8 (L + vn) c8)).heap[w.heap.size + 1]? = some (.cells #[.slice A8 (L + vn) c8, .int .i64 f] 27 (0, 0))) := by
          unfold Hid
          have := heap_setCell_same u8 (w.heap.size + 1) 0 _ 27 (.slice A8 (L + vn) c8) hb8
          simpa using this
        have HO9 := Lib.hid (own_keep HO8.out ks (fun i hi e => by have := HA8.out i hi; have := HR3.out; omega))
        have KZ : Hid (Kept (fun i => i = w.heap.size + 1) w3 (u8.setCell ⟨w.heap.size + 1, 0, none⟩ (.slice A8 (L + vn) c8))) := (HKR.out.trans KW.out (fun i hi h => by omega)).step ks
        have KV := Lib.hid ((KW.out.mono (fun _ _ h => .inl h : ∀ i, i < wr.heap.size → w3.heap.size ≤ i → w3.heap.size ≤ i ∨ i = w.heap.size + 1)).step (ks.mono (fun _ _ h => .inr h)))
        clear hb8 ks
        go_simp
        refine hK.out _ _ (CD.out _ KV.out) (fun hHeld => ?_)
        clear hK K
        try simp only [Act.put, List.setIfInBounds_toArray, List.set_cons_zero, List.set_cons_succ]
        refine wpAnyH_done (by kernel_rfl) ?_ _
        refine NoPanic.normal ?_
        clear hHeld hc8 hf8
        have HPL9 : Hid ((pick N (ns.take (k + 1))).length = L + vn) := by unfold Hid; rw [HPK.out, List.length_append, HPL.out, opt_len, HVN.out]
        go_wp2
        go_roundw
        case rel => exact ⟨k + 1, A8, L + vn, c8, by omega, by go_num, by omega, HPL9, HB9, HO9, HA8, KZ⟩
        case measure => simp [intOf]; omega
      case b7n9k7 =>
        have hlk := HLK.out _ KC.out
        go_simp
        refine hK.out _ _ (CD.out _ KC.out.to) (fun hHeld => ?_)
        clear hK K
        try simp only [Act.put, List.setIfInBounds_toArray, List.set_cons_zero, List.set_cons_succ]
        refine wpAnyH_ready (rs := [1]) (by kernel_rfl) (by simp) ?_
        refine AllReadyH.cons (o := ⟨some 23, Op.load 25 (Operand.tmp 22), 25, _, _, none⟩) rfl (fun K hK => ?_) AllReadyH.nil
        have hcb := CB.out _ KC.out
        go_simp
        refine hK.out _ _ (CD.out _ KC.out.to) (fun hHeld => ?_)
        clear hK K
        try simp only [Act.put, List.setIfInBounds_toArray, List.set_cons_zero, List.set_cons_succ]
        refine wpAnyH_ready (rs := [8]) (by kernel_rfl) (by simp) ?_
        refine AllReadyH.cons (o := ⟨some 30, Op.call { callee := Callee.builtin Builtin.append, args := #[Operand.tmp 23, Operand.tmp 29], argTypes := #[25, 25] }, 25, _, _, none⟩) rfl (fun K hK => ?_) AllReadyH.nil
        refine step_append_src rfl (.tmp 23) (.tmp 29) 25 25 rfl 37 noRef.val 4 40 Try.underlying25 Try.infoRef rfl (.slice A L c) L (refCells (pick N (ns.take k))) rfl (own_keep HO.out KC.out (fun _ _ h => h)) _ vn (vCells o) rfl (src_sl (HVL.out.keep KC.out (fun _ _ h => h)) (by rw [HVN.out, ← opt_refs, refCells_length, opt_len]) (by rw [← opt_refs]; exact one_refs _)) (by unfold maxLen; omega) (by omega) ?_
        intro A8 c8 u8 o8 k8 a8
        have HO8 : Hid (u8.ownsRow 0 37 4 (.slice A8 (L + vn) c8) (L + vn) (refCells (pick N (ns.take (k + 1))))) := by
          unfold Hid
          rw [HPK.out, refCells_append, opt_refs]
          exact o8
        have HA8 : Hid (∀ i, (Value.slice A8 (L + vn) c8).ownBlock = some i → w3.heap.size ≤ i) := fun i hi => by
          rcases a8 i hi with h | h
          · exact HOB.out i h
          · exact Nat.le_trans HKR.out.size (Nat.le_trans KC.out.size h.1)
        have KW : Hid (Kept (fun i => w3.heap.size ≤ i) wr u8) := KC.out.to.step (k8.mono (fun i _ h => HOB.out i h))
        clear o8 k8 a8
        refine hK.out _ _ (CD.out _ (KW.out.mono (fun _ _ h => .inl h))) (fun hHeld => ?_)
        clear hK K
        try simp only [Act.put, List.setIfInBounds_toArray, List.set_cons_zero, List.set_cons_succ]
        refine wpAnyH_take (i := 9) (oi := ⟨some 31, Op.fieldAddr 27 (Operand.tmp 3) 0, 0, _, _, none⟩) (v := ?v9n9k10) rfl (by kernel_rfl) (by kernel_rfl) (by kernel_rfl) (fun _ _ _ h => h) (Or.inl ⟨by rfl, ?y9n9k10⟩) hHeld ?z9n9k10
        case y9n9k10 => intro w hSw; (try dsimp only at hSw); go_simp <;> rfl
        try simp only [Act.put, List.setIfInBounds_toArray, List.set_cons_zero, List.set_cons_succ]
        refine wpAnyH_ready (rs := [10]) (by kernel_rfl) (by simp) ?_
        refine AllReadyH.cons (o := ⟨none, Op.store 25 (Operand.tmp 31) (Operand.tmp 30), 0, _, _, none⟩) rfl (fun K hK => ?_) AllReadyH.nil
        have hb8 := KW.out.blk HB.out (fun h => by have := HR3.out; omega)
        have hc8 : u8.cell? ⟨w.heap.size + 1, 0, none⟩ = some (.slice A L c) := cell_of_row _ _ _ _ _ _ hb8
        have hf8 : u8.frozen? ⟨w.heap.size + 1, 0, none⟩ = false := frozen_of_row _ _ _ _ _ hb8
        have ks : Kept (fun i => i = w.heap.size + 1) u8 (u8.setCell ⟨w.heap.size + 1, 0, none⟩ (.slice A8 (L + vn) c8)) := Kept.setCell u8 (by rfl) _
        have HB9 : Hid ((u8.setCell ⟨w.heap.size + 1, 0, none⟩ (.slice A8 (L + vn) c8)).heap[w.heap.size + 1]? = some (.cells #[.slice A8 (L + vn) c8, .int .i64 f] 27 (0, 0))) := by
          unfold Hid
          have := heap_setCell_same u8 (w.heap.size + 1) 0 _ 27 (.slice A8 (L + vn) c8) hb8
          simpa using this
        have HO9 := Lib.hid (own_keep HO8.out ks (fun i hi e => by have := HA8.out i hi; have := HR3.out; omega))
        have KZ : Hid (Kept (fun i => i = w.heap.size + 1) w3 (u8.setCell ⟨w.heap.size + 1, 0, none⟩ (.slice A8 (L + vn) c8))) := (HKR.out.trans KW.out (fun i hi h => by omega)).step ks
        have KV := Lib.hid ((KW.out.mono (fun _ _ h => .inl h : ∀ i, i < wr.heap.size → w3.heap.size ≤ i → w3.heap.size ≤ i ∨ i = w.heap.size + 1)).step (ks.mono (fun _ _ h => .inr h)))
        clear hb8 ks
        go_simp
        refine hK.out _ _ (CD.out _ KV.out) (fun hHeld => ?_)
        clear hK K
        try simp only [Act.put, List.setIfInBounds_toArray, List.set_cons_zero, List.set_cons_succ]
        refine wpAnyH_done (by kernel_rfl) ?_ _
        refine NoPanic.normal ?_
        clear hHeld hc8 hf8
        have HPL9 : Hid ((pick N (ns.take (k + 1))).length = L + vn) := by unfold Hid; rw [HPK.out, List.length_append, HPL.out, opt_len, HVN.out]
        go_wp2
        go_roundw
        case rel => exact ⟨k + 1, A8, L + vn, c8, by omega, by go_num, by omega, HPL9, HB9, HO9, HA8, KZ⟩
        case measure => simp [intOf]; omega
    · obtain rfl : k = n := by omega
      have hpl := HPL.out
      have ho := HO.out
      rw [List.take_of_length_le (by have := HLEN.out; omega), HNS.out] at hpl ho
      obtain rfl : List.length N = L := by rw [← hpl, List.length_map]
      have hb0 := HKR.out.blk D0.out (fun h => by omega)
      have hb1 := HB.out
      obtain ⟨y0, y1⟩ : wr.cell? ⟨w.heap.size + 1, 0, none⟩ = some (.slice A (List.length N) c) ∧ wr.cell? ⟨w.heap.size + 1, 1, none⟩ = some (.int .i64 f) := ⟨cell_of_row _ _ _ _ _ _ hb1, cell_of_row _ _ _ _ _ _ hb1⟩
      obtain ⟨r0, r1⟩ : wr.cell? ⟨w.heap.size, 0, none⟩ = some (.slice none 0 0) ∧ wr.cell? ⟨w.heap.size, 1, none⟩ = some (.int .i64 0) := ⟨cell_of_row _ _ _ _ _ _ hb0, cell_of_row _ _ _ _ _ _ hb0⟩
      have f0 : wr.frozen? ⟨w.heap.size, 0, none⟩ = false := frozen_of_row _ _ _ _ _ hb0
      have f1 : wr.frozen? ⟨w.heap.size, 1, none⟩ = false := frozen_of_row _ _ _ _ _ hb0
      obtain ⟨hz, kz⟩ := two_set (x0 := .slice A (List.length N) c) (x1 := .int .i64 f) hb0
      have HZ := Lib.hid hz
      have OZ := Lib.hid (own_keep ho kz (fun i hi e => by have := HOB.out i hi; have := lt_of_blk D0.out; omega))
      have KZ : Hid (Kept noBlock w ((wr.setCell ⟨w.heap.size, 0, none⟩ (.slice A (List.length N) c)).setCell ⟨w.heap.size, 1, none⟩ (.int .i64 f))) := (K1.out.step K3.out).trans ((HKR.out.mono (T := fun i => w.heap.size ≤ i) (fun i _ h => by omega)).step (kz.mono (fun i _ h => by omega))) (fun i hi h => by omega)
      clear hz kz hpl ho hb0 hb1
      go_wp2
      generalize (wr.setCell ⟨w.heap.size, 0, none⟩ (.slice A (List.length N) c)).setCell ⟨w.heap.size, 1, none⟩ (.int .i64 f) = v9 at HZ OZ KZ ⊢
      obtain ⟨z0, z1⟩ : v9.cell? ⟨w.heap.size, 0, none⟩ = some (.slice A (List.length N) c) ∧ v9.cell? ⟨w.heap.size, 1, none⟩ = some (.int .i64 f) := ⟨cell_of_row _ _ _ _ _ _ HZ.out, cell_of_row _ _ _ _ _ _ HZ.out⟩
      refine bodyPost_ret (v := .agg #[.slice A (List.length N) c, .int .i64 f]) (by simp [results, Try.results27, go_sem, Try.isAgg27, Try.sizeOf27, z0, z1]) rfl ?_
      exact ⟨A, c, rfl, own_base OZ.out (fun i hi => by have := HOB.out i hi; have := (K1.out.step K3.out).size; omega), KZ.out⟩
end Go.Proofs.Ytollmkkbeeeccaa
