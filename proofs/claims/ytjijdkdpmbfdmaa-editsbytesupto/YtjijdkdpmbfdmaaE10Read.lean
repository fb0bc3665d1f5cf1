/-
  The contract of edits.Read. No statement is proved here.
-/
import Derived.Test.YtjijdkdpmbfdmaaE10RdRef
import Derived.Test.YtjijdkdpmbfdmaaE10All
import Derived.Test.YtjijdkdpmbfdmaaE10Bytes
import Derived.Test.YtjijdkdpmbfdmaaEql
import Derived.Test.YtjijdkdpmbfdmaaPackK
import Derived.Deep.CutBlock
namespace Go.Proofs.Ytjijdkdpmbfdmaa
open Go.RowKit Tot

theorem Try.infoStr10 : (Try.prog.info? 9).map (fun i => (i.zero, i.size, i.bytes)) = some (some (.string ⟨#[]⟩), 1, 16) := by kernel_rfl
theorem rdNum_range (l : List UInt8) (bad : Bool) : -9223372036854775808 ≤ (rNum l bad).1 ∧ (rNum l bad).1 ≤ 9223372036854775807 := by
  unfold rNum
  split
  · simp
  · exact rdN_bounds _
/-- A row of one text that is written out, at a step of a region that draws its order. -/
theorem step_oneT {w : World} {ops : Array Oper} {d v : Nat} {ty : TypeId} {pos : String} {aft : Array Edge} {act : Act} {K : Act → World → Prop} {Q : Exit → Act → World → Prop} {E : Prop} (x : ByteArray) (hv : act.tmps[v]?.getD undef = .string x)
    (hK : ∀ B u, Kept noBlock w u → u.heap[B]? = some (.cells #[.string x] 9 (0, 0)) → w.heap.size ≤ B → K (act.put (some d) (.slice (some ⟨B, 0, none⟩) 1 1)) u) :
    if Region.wanted ⟨some d, .buildSlice 34 1 #[(0, .tmp v)], ty, pos, aft, none⟩ (yielded ops act.tmps) = true then Oper.wp Try.prog ⟨some d, .buildSlice 34 1 #[(0, .tmp v)], ty, pos, aft, none⟩ act w K Q else E := by
  rw [if_pos (by simp [Region.wanted])]
  have hk := hK w.heap.size (w.alloc (.cells #[.string x] 9)) (Kept.alloc _ _ _) (heap_alloc_new _ _) (Nat.le_refl _)
  clear hK
  go_simp
  exact hk

/-- While an edit is read: a Reader at b, the edit at E, the answer's place at R. -/
structure Rde (w0 w : World) (F : Nat → Prop) (R b E : Nat) (l : List UInt8) (bad : Bool) (x0 x1 x2 : Value) : Prop where
  kept : Kept (fun k => k = b ∨ k = E) w0 w
  rd : Rd w F b l bad
  out : w.heap[R]? = some (.cells #[.slice none 0 0, .slice none 0 0, .int .i64 0] 36 (0, 0))
  at_ : w.heap[E]? = some (.cells #[x0, x1, x2] 36 (0, 0))
section
variable {w0 w w' : World} {F : Nat → Prop} {R b E : Nat} {l l' : List UInt8} {bad bad' : Bool} {x0 x1 x2 y0 y1 y2 : Value}
theorem Rde.next (h : Rde w0 w F R b E l bad x0 x1 x2) (h2 : Rd w' F b l' bad') (k2 : Kept (fun k => k = b) w w') (hR : R ≠ b) (hE : E ≠ b) : Rde w0 w' F R b E l' bad' x0 x1 x2 :=
  ⟨h.kept.step (k2.mono (fun _ _ h => .inl h)), h2, k2.blk h.out hR, k2.blk h.at_ hE⟩
theorem Rde.none (h : Rde w0 w F R b E l bad x0 x1 x2) (k2 : Kept noBlock w w') : Rde w0 w' F R b E l bad x0 x1 x2 := ⟨h.kept.step k2.to, h.rd.keep k2 (fun _ _ h => h), k2.blk h.out (fun h => h), k2.blk h.at_ (fun h => h)⟩
theorem Rde.at0 (h : Rde w0 w F R b E l bad x0 x1 x2) (k2 : Kept (fun k => k = E) w w') (hz : w'.heap[E]? = some (.cells #[y0, y1, y2] 36 (0, 0))) (hR : R ≠ E) (hF : ¬ F E) : Rde w0 w' F R b E l bad y0 y1 y2 :=
  ⟨h.kept.step (k2.mono (fun _ _ h => .inr h)), h.rd.keep k2 (fun _ hi e => hF (e ▸ hi)), k2.blk h.out hR, hz⟩
end

set_option maxRecDepth 100000 in
set_option maxHeartbeats 1000000 in
theorem eread_any (F : Nat → Prop) (a : Option Addr) (n c : Nat) (l : List UInt8) (w : World) (h : Lies w F a (l.map bv)) (hl : l.length = n) (hx : n ≤ 140737488355328) (ha : (rdEdit l).add.length ≤ 1000000000000) (hd : (rdEdit l).drop.length ≤ 1000000000000) (hb : (rdEdit l).bytes.length ≤ 140737488355328) :
    Calls Try.prog 23 #[.slice a n c] w fun e w' => ∃ A ca D cb, e = .returned (.tuple #[evl (gotE l) A ca D cb, .bool (gotEB l)]) ∧ Ev w' (fresh w w') (gotE l) A ca D cb ∧ Kept noBlock w w' := by
  obtain ⟨w1, hw1⟩ : ∃ w1, w1 = w.alloc (.cells #[.slice none 0 0, .slice none 0 0, .int .i64 0] 36) := ⟨_, rfl⟩
  have k1 : Kept noBlock w w1 := by rw [hw1]; exact Kept.alloc _ _ _
  have z1 : w1.heap.size = w.heap.size + 1 := by rw [hw1]; simp
  have hR : w1.heap[w.heap.size]? = some (.cells #[.slice none 0 0, .slice none 0 0, .int .i64 0] 36 (0, 0)) := by rw [hw1]; exact heap_alloc_new w _
  have OF := Lib.hid (of_any F a n c l w1 (h.keep k1 (fun _ _ h => h)) hl (by omega))
  generalize hq1 : rNum l false = q1
  obtain ⟨fl, l1, b1⟩ := q1
  generalize hq2 : rdRow rdRef l1 b1 = q2
  obtain ⟨adds, l2, b2⟩ := q2
  generalize hq3 : rdRow rdName l2 b2 = q3
  obtain ⟨drops, l3, b3⟩ := q3
  obtain ⟨s, hs⟩ : ∃ s, s = rdEdit l := ⟨_, rfl⟩
  have hse : s = ⟨adds, drops, fl⟩ := by rw [hs]; unfold rdEdit; simp only [hq1, hq2, hq3]
  rw [← hs] at ha hd hb
  generalize hqn : rNum l1 b1 = qn
  obtain ⟨na, lna, bna⟩ := qn
  generalize hqd : rNum l2 b2 = qd
  obtain ⟨nd, lnd, bnd⟩ := qd
  have HRA : Hid ((adds, l2, b2) = rdList rdRef na.toNat lna bna) := by unfold Hid; rw [← hq2]; unfold rdRow; rw [hqn]
  have HRD : Hid ((drops, l3, b3) = rdList rdName nd.toNat lnd bnd) := by unfold Hid; rw [← hq3]; unfold rdRow; rw [hqd]
  have HNA : Hid (-9223372036854775808 ≤ na ∧ na ≤ 9223372036854775807) := by have := rdNum_range l1 b1; rw [hqn] at this; exact this
  have HND : Hid (-9223372036854775808 ≤ nd ∧ nd ≤ 9223372036854775807) := by have := rdNum_range l2 b2; rw [hqd] at this; exact this
  have H1 := Lib.hid hq1
  have HQN := Lib.hid hqn
  have HQD := Lib.hid hqd
  have HS := Lib.hid hs
  have HSE := Lib.hid hse
  have HL := Lib.hid hl
  have HLI := Lib.hid h
  have K1 := Lib.hid k1
  have HR := Lib.hid hR
  have Z1 := Lib.hid z1
  have ha2 : adds.length ≤ 1000000000000 := by rw [hse] at ha; exact ha
  have hd2 : drops.length ≤ 1000000000000 := by rw [hse] at hd; exact hd
  have HBB := Lib.hid hb
  clear hq1 hq2 hq3 hqn hqd hse hs hl h k1 hR z1 ha hd hb
  go_enter Try.func23, Try.ntmps23
  go_upto_region 1 with (fail)
  rw [← hw1]
  clear hw1
  go_wp2_with fail
  refine OF.out.mono ?_
  rintro e w2 ⟨b, rfl, r2, k2⟩
  have ka := Kept.alloc noBlock w2 (.cells #[.slice none 0 0, .slice none 0 0, .int .i64 0] 36)
  have hb2 := r2.foot.1
  have hb3 := r2.foot.2
  have g0 : Rde w2 (w2.alloc (.cells #[.slice none 0 0, .slice none 0 0, .int .i64 0] 36)) (fresh w1 w2) w.heap.size b w2.heap.size l false (.slice none 0 0) (.slice none 0 0) (.int .i64 0) :=
    ⟨ka.to, r2.keep ka (fun _ _ h => h), (k2.step ka).blk HR.out (fun h => h), heap_alloc_new _ _⟩
  have K2 := Lib.hid (K1.out.step k2)
  have HZ2 : Hid (w.heap.size < b ∧ b < w2.heap.size) := ⟨by have := Z1.out; omega, hb3⟩
  go_upto_region 3 with (fail)
  generalize w2.alloc (.cells #[.slice none 0 0, .slice none 0 0, .int .i64 0] 36) = u0 at g0 ⊢
  obtain ⟨E, hE⟩ : ∃ E, E = w2.heap.size := ⟨_, rfl⟩
  rw [← hE] at g0 ⊢
  have NE : Hid (w.heap.size ≠ b ∧ E ≠ b ∧ w.heap.size ≠ E ∧ ¬ fresh w1 w2 E ∧ w.heap.size < E) := ⟨by have := HZ2.out; omega, by have := HZ2.out; omega, by have := HZ2.out; omega, fun h => by have := h.2; omega, by have := HZ2.out; omega⟩
  have HE := Lib.hid hE
  clear ka hb2 hb3 r2 k2 OF hE
  go_wp2_with fail
  refine (rnum_r g0.rd H1.out).mono ?_
  rintro e v1 ⟨rfl, r1, k1⟩
  have g1 := g0.next r1 k1 NE.out.1 NE.out.2.1
  have hf : v1.frozen? ⟨E, 2, none⟩ = false := frozen_of_row _ _ _ _ _ g1.at_
  have hc : v1.cell? ⟨E, 2, none⟩ = some (.int .i64 0) := cell_of_row _ _ _ _ _ _ g1.at_
  have hz := heap_setCell_same v1 E 2 _ 36 (.int .i64 fl) g1.at_
  have g2 := g1.at0 (y0 := .slice none 0 0) (y1 := .slice none 0 0) (y2 := .int .i64 fl) (Kept.setCell v1 (p := ⟨E, 2, none⟩) (by rfl) _) (by simpa using hz) NE.out.2.2.1 NE.out.2.2.2.1
  clear g0 g1 r1 k1 hz
  go_upto_region 4 with (fail)
  generalize v1.setCell ⟨E, 2, none⟩ (.int .i64 fl) = u2 at g2 ⊢
  clear hf hc
  go_wp2_with fail
  refine (rnum_r g2.rd HQN.out).mono ?_
  rintro e v3 ⟨rfl, r3, k3⟩
  have G3 := Lib.hid (g2.next r3 k3 NE.out.1 NE.out.2.1)
  clear g2 r3 k3
  go_upto_block 0 with (fail)
  go_cut [6] (fun i wc => ∃ (N : Int) (A : Option Addr) (ca : Nat), i = .int .i64 N ∧ Hid (Rde w2 wc (fresh w1 w2) w.heap.size b E l2 b2 (.slice A adds.length ca) (.slice none 0 0) (.int .i64 fl)) ∧ Hid (wc.ownsRow 0 31 4 (.slice A adds.length ca) adds.length (refCells adds)) ∧ Hid (∀ i, (Value.slice A adds.length ca).ownBlock = some i → E < i))
  case first =>
    go_wp2_with fail
    go_loopw [6] (fun i wr => ∃ (N : Int) (L : Nat) (A : Option Addr) (ca : Nat) (es : List RefV) (l' : List UInt8) (bad' : Bool), i = .int .i64 N ∧ Hid (es.length = L) ∧ N ≤ 9223372036854775807 ∧ -9223372036854775808 ≤ N ∧ Hid ((adds, l2, b2) = (es ++ (rdList rdRef N.toNat l' bad').1, (rdList rdRef N.toNat l' bad').2)) ∧ Hid (Rde w2 wr (fresh w1 w2) w.heap.size b E l' bad' (.slice A L ca) (.slice none 0 0) (.int .i64 fl)) ∧ Hid (wr.ownsRow 0 31 4 (.slice A L ca) L (refCells es)) ∧ Hid (∀ i, (Value.slice A L ca).ownBlock = some i → E < i)) (fun i _ => (intOf i).toNat)
    case atStart => exact ⟨na, 0, none, 0, [], lna, bna, rfl, rfl, HNA.out.2, HNA.out.1, by unfold Hid; rw [HRA.out]; rfl, G3, World.ownsRow_nil _ _ _ _, fun i hi => by simp [Value.ownBlock] at hi⟩
    case round =>
      obtain ⟨N, L, A, ca, es, l', bad', rfl, HE2, hN1, hN0, HRR, RG, OW, OB⟩ := hrel
      have hL : L ≤ 1000000000000 := by
        have h1 := congrArg (fun q : List RefV × List UInt8 × Bool => q.1.length) HRR.out
        simp only [List.length_append] at h1
        have := HE2.out
        omega
      by_cases h0 : 0 < N
      · cases bad' with
        | true =>
          have BA := Lib.hid (rbad_any b _ l' true wr RG.out.rd)
          have hrr := HRR.out
          rw [rdList_bad] at hrr
          simp only [List.append_nil, Prod.mk.injEq] at hrr
          obtain ⟨rfl, rfl, rfl⟩ := hrr
          have hle := HE2.out
          go_wp2_with fail
          refine BA.out.mono ?_
          rintro e w4 ⟨rfl, hw4⟩
          subst hw4
          clear BA
          subst hle
          go_wp2
          go_meet
          case rel => exact ⟨N, A, ca, rfl, RG, OW, OB⟩
        | false =>
          have BA := Lib.hid (rbad_any b _ l' false wr RG.out.rd)
          have RE := Lib.hid (fun u (hu : Rd u (fresh w1 w2) b l' false) => rref_any (fresh w1 w2) b l' false u hu)
          obtain ⟨m, hm⟩ : ∃ m, N.toNat = m + 1 := ⟨N.toNat - 1, by omega⟩
          have hrr := HRR.out
          rw [hm] at hrr
          simp only [rdList, Bool.false_eq_true, if_false] at hrr
          generalize hq2 : rdRef l' false = q2 at hrr RE
          obtain ⟨x, l4, b4⟩ := q2
          simp only at hrr RE
          have hm' : (N - 1).toNat = m := by omega
          have HR2 : Hid ((adds, l2, b2) = ((es ++ [x]) ++ (rdList rdRef (N - 1).toNat l4 b4).1, (rdList rdRef (N - 1).toNat l4 b4).2)) := by
            unfold Hid
            rw [hrr, hm']
            simp
          have HE3 : Hid ((es ++ [x]).length = L + 1) := by unfold Hid; rw [List.length_append, HE2.out]; rfl
          unfold RefV.val at RE
          clear hrr hq2 hm hm'
          go_wp2_with fail
          refine BA.out.mono ?_
          rintro e w4 ⟨rfl, hw4⟩
          subst hw4
          clear BA
          have KC : Hid (Kept (fun i => i = b) wr wr.drew) := Kept.drew _ _
          have CEE : Hid (∀ u, Kept (fun i => i = b) wr u → u.cell? ⟨E, 0, none⟩ = some (.slice A L ca)) := fun u k => cell_of_row _ _ _ _ _ _ (k.blk RG.out.at_ NE.out.2.1)
          have nb : ∀ i, (Value.slice A L ca).ownBlock = some i → ¬ (i = b) := fun i hi e => by have := OB.out i hi; have := HZ2.out; have := HE.out; omega
          have NB := Lib.hid nb
          clear nb
          go_upto_region 7 with (fail)
          refine wp_region_noPanic ?_
          refine wp_region_held_drew (S := fun _ => True) (by kernel_rfl) trivial (fun hHeld => ?_)
          refine wpAnyH_take (i := 0) (oi := ⟨some 24, Op.fieldAddr 36 (Operand.tmp 5) 0, 0, _, _, none⟩) (v := ?v0n1k1) rfl (by kernel_rfl) (by kernel_rfl) (by kernel_rfl) (fun _ _ _ h => h) (Or.inl ⟨by rfl, ?y0n1k1⟩) hHeld ?z0n1k1
          case y0n1k1 => intro w hSw; (try dsimp only at hSw); go_simp <;> rfl
          try simp only [Act.put, List.setIfInBounds_toArray, List.set_cons_zero, List.set_cons_succ]
          refine wpAnyH_take (i := 2) (oi := ⟨some 26, Op.move (Operand.tmp 4), 87, _, _, none⟩) (v := ?v2n1k2) rfl (by kernel_rfl) (by kernel_rfl) (by kernel_rfl) (fun _ _ _ h => h) (Or.inl ⟨by rfl, ?y2n1k2⟩) hHeld ?z2n1k2
          case y2n1k2 => intro w hSw; (try dsimp only at hSw); go_simp <;> rfl
          try simp only [Act.put, List.setIfInBounds_toArray, List.set_cons_zero, List.set_cons_succ]
          refine wpAnyH_ready (rs := [1, 3]) (by kernel_rfl) (by simp) ?_
          refine (AllReadyH.cons (o := ⟨some 25, Op.load 24 (Operand.tmp 24), 24, _, _, none⟩) rfl (fun K hK => ?b1n1k4) (AllReadyH.cons (o := ⟨some 27, Op.call { callee := Callee.value (Operand.func 43), args := #[Operand.tmp 26], argTypes := #[87] }, 31, _, _, none⟩) rfl (fun K hK => ?b3n1k3) AllReadyH.nil))
          case b1n1k4 =>
            have hcb := CEE.out _ KC.out
            go_simp
            refine hK.out _ _ trivial (fun hHeld => ?_)
            clear hK K
            try simp only [Act.put, List.setIfInBounds_toArray, List.set_cons_zero, List.set_cons_succ]
            refine wpAnyH_ready (rs := [3]) (by kernel_rfl) (by simp) ?_
            refine AllReadyH.cons (o := ⟨some 27, Op.call { callee := Callee.value (Operand.func 43), args := #[Operand.tmp 26], argTypes := #[87] }, 31, _, _, none⟩) rfl (fun K hK => ?_) AllReadyH.nil
            go_simp
            refine (RE.out _ (RG.out.none (Kept.drew noBlock wr)).rd).mono ?_
            rintro en u3 ⟨rfl, rd3, k3⟩
            have RD3 := Lib.hid rd3
            replace KC := Lib.hid (KC.out.step k3)
            clear rd3 k3
            dsimp only
            refine hK.out _ _ trivial (fun hHeld => ?_)
            clear hK K
            try simp only [Act.put, List.setIfInBounds_toArray, List.set_cons_zero, List.set_cons_succ]
            refine wpAnyH_ready (rs := [4]) (by kernel_rfl) (by simp) ?_
            refine AllReadyH.cons (o := ⟨some 28, Op.buildSlice 24 1 #[(0, Operand.tmp 27)], 24, _, _, none⟩) rfl (fun K hK => ?_) AllReadyH.nil
            refine step_oneR x rfl ?_
            intro B4 u4 k4 h4 hB4
            have HB4 := Lib.hid h4
            have RD4 := Lib.hid (RD3.out.keep k4 (fun _ _ h => h))
            replace KC := Lib.hid (KC.out.step k4.to)
            clear k4 h4 hB4
            refine hK.out _ _ trivial (fun hHeld => ?_)
            clear hK K
            try simp only [Act.put, List.setIfInBounds_toArray, List.set_cons_zero, List.set_cons_succ]
            refine wpAnyH_ready (rs := [5]) (by kernel_rfl) (by simp) ?_
            refine AllReadyH.cons (o := ⟨some 29, Op.call { callee := Callee.builtin Builtin.append, args := #[Operand.tmp 25, Operand.tmp 28], argTypes := #[24, 24] }, 24, _, _, none⟩) rfl (fun K hK => ?_) AllReadyH.nil
            refine step_append_src rfl (.tmp 25) (.tmp 28) 24 24 rfl 31 noRef.val 4 40 Try.underlying24 Try.infoRef rfl (.slice A L ca) L (refCells es) rfl (own_keep OW.out KC.out NB.out) _ 1 (refCells [x]) rfl (src_ref x HB4.out) (by unfold maxLen; omega) (by omega) ?_
            intro A5 c5 u5 o5 k5 a5
            have O5 := Lib.hid o5
            have OB5 : Hid (∀ i, (Value.slice A5 (L + 1) c5).ownBlock = some i → E < i) := fun i hi => by
              rcases a5 i hi with h | h
              · exact OB.out i h
              · have h1 := h.1
                have h2 := KC.out.size
                have h3 := lt_of_blk RG.out.at_
                omega
            have RG5 : Hid (Rde w2 u5 (fresh w1 w2) w.heap.size b E l4 b4 (.slice A L ca) (.slice none 0 0) (.int .i64 fl)) := by
              have h1 := KC.out
              have kk := h1.size
              refine ⟨(RG.out.kept.step (h1.mono (fun _ _ h => .inl h))).trans k5 (fun i hi h => ?_), RD4.out.keep k5 (fun i hi h => ?_), k5.blk (h1.blk RG.out.out NE.out.1) (fun h => ?_), k5.blk (h1.blk RG.out.at_ NE.out.2.1) (fun h => ?_)⟩
              · have := OB.out i h; have := HE.out; omega
              · have := OB.out i h; have := hi.2; have := HE.out; omega
              · have := OB.out _ h; have := NE.out.2.2.2.2; omega
              · have := OB.out _ h; omega
            clear o5 k5 a5
            refine hK.out _ _ trivial (fun hHeld => ?_)
            clear hK K
            try simp only [Act.put, List.setIfInBounds_toArray, List.set_cons_zero, List.set_cons_succ]
            refine wpAnyH_take (i := 6) (oi := ⟨some 30, Op.fieldAddr 36 (Operand.tmp 5) 0, 0, _, _, none⟩) (v := ?v6n1k5) rfl (by kernel_rfl) (by kernel_rfl) (by kernel_rfl) (fun _ _ _ h => h) (Or.inl ⟨by rfl, ?y6n1k5⟩) hHeld ?z6n1k5
            case y6n1k5 => intro w hSw; (try dsimp only at hSw); go_simp <;> rfl
            try simp only [Act.put, List.setIfInBounds_toArray, List.set_cons_zero, List.set_cons_succ]
            refine wpAnyH_ready (rs := [7]) (by kernel_rfl) (by simp) ?_
            refine AllReadyH.cons (o := ⟨none, Op.store 24 (Operand.tmp 30) (Operand.tmp 29), 0, _, _, none⟩) rfl (fun K hK => ?_) AllReadyH.nil
            have hb8 := RG5.out.at_
            have hc8 : u5.cell? ⟨E, 0, none⟩ = some (.slice A L ca) := cell_of_row _ _ _ _ _ _ hb8
            have hf8 : u5.frozen? ⟨E, 0, none⟩ = false := frozen_of_row _ _ _ _ _ hb8
            have ks : Kept (fun i => i = E) u5 (u5.setCell ⟨E, 0, none⟩ (.slice A5 (L + 1) c5)) := Kept.setCell u5 (by rfl) _
            have hz := heap_setCell_same u5 E 0 _ 36 (.slice A5 (L + 1) c5) hb8
            have RG6 := Lib.hid (RG5.out.at0 ks (by simpa using hz) NE.out.2.2.1 NE.out.2.2.2.1)
            have O6 := Lib.hid (own_keep O5.out ks (fun i hi e => by have := OB5.out i hi; omega))
            clear hb8 ks hz
            go_simp
            refine hK.out _ _ trivial (fun hHeld => ?_)
            clear hK K
            try simp only [Act.put, List.setIfInBounds_toArray, List.set_cons_zero, List.set_cons_succ]
            refine wpAnyH_done (by kernel_rfl) ?_ _
            refine NoPanic.normal ?_
            clear hHeld
            try clear hc8 hf8
            go_wp2
            go_roundw
            case rel => exact ⟨N - 1, L + 1, A5, c5, es ++ [x], l4, b4, by go_num, HE3, by omega, by omega, HR2, RG6, (by rw [refCells_append]; exact O6), OB5⟩
            case measure => simp [intOf]; omega
          case b3n1k3 =>
            go_simp
            refine (RE.out _ (RG.out.none (Kept.drew noBlock wr)).rd).mono ?_
            rintro en u3 ⟨rfl, rd3, k3⟩
            have RD3 := Lib.hid rd3
            replace KC := Lib.hid (KC.out.step k3)
            clear rd3 k3
            dsimp only
            refine hK.out _ _ trivial (fun hHeld => ?_)
            clear hK K
            try simp only [Act.put, List.setIfInBounds_toArray, List.set_cons_zero, List.set_cons_succ]
            refine wpAnyH_ready (rs := [1, 4]) (by kernel_rfl) (by simp) ?_
            refine (AllReadyH.cons (o := ⟨some 25, Op.load 24 (Operand.tmp 24), 24, _, _, none⟩) rfl (fun K hK => ?b1n1k7) (AllReadyH.cons (o := ⟨some 28, Op.buildSlice 24 1 #[(0, Operand.tmp 27)], 24, _, _, none⟩) rfl (fun K hK => ?b4n1k6) AllReadyH.nil))
            case b1n1k7 =>
              have hcb := CEE.out _ KC.out
              go_simp
              refine hK.out _ _ trivial (fun hHeld => ?_)
              clear hK K
              try simp only [Act.put, List.setIfInBounds_toArray, List.set_cons_zero, List.set_cons_succ]
              refine wpAnyH_ready (rs := [4]) (by kernel_rfl) (by simp) ?_
              refine AllReadyH.cons (o := ⟨some 28, Op.buildSlice 24 1 #[(0, Operand.tmp 27)], 24, _, _, none⟩) rfl (fun K hK => ?_) AllReadyH.nil
              refine step_oneR x rfl ?_
              intro B4 u4 k4 h4 hB4
              have HB4 := Lib.hid h4
              have RD4 := Lib.hid (RD3.out.keep k4 (fun _ _ h => h))
              replace KC := Lib.hid (KC.out.step k4.to)
              clear k4 h4 hB4
              refine hK.out _ _ trivial (fun hHeld => ?_)
              clear hK K
              try simp only [Act.put, List.setIfInBounds_toArray, List.set_cons_zero, List.set_cons_succ]
              refine wpAnyH_ready (rs := [5]) (by kernel_rfl) (by simp) ?_
              refine AllReadyH.cons (o := ⟨some 29, Op.call { callee := Callee.builtin Builtin.append, args := #[Operand.tmp 25, Operand.tmp 28], argTypes := #[24, 24] }, 24, _, _, none⟩) rfl (fun K hK => ?_) AllReadyH.nil
              refine step_append_src rfl (.tmp 25) (.tmp 28) 24 24 rfl 31 noRef.val 4 40 Try.underlying24 Try.infoRef rfl (.slice A L ca) L (refCells es) rfl (own_keep OW.out KC.out NB.out) _ 1 (refCells [x]) rfl (src_ref x HB4.out) (by unfold maxLen; omega) (by omega) ?_
              intro A5 c5 u5 o5 k5 a5
              have O5 := Lib.hid o5
              have OB5 : Hid (∀ i, (Value.slice A5 (L + 1) c5).ownBlock = some i → E < i) := fun i hi => by
                rcases a5 i hi with h | h
                · exact OB.out i h
                · have h1 := h.1
                  have h2 := KC.out.size
                  have h3 := lt_of_blk RG.out.at_
                  omega
              have RG5 : Hid (Rde w2 u5 (fresh w1 w2) w.heap.size b E l4 b4 (.slice A L ca) (.slice none 0 0) (.int .i64 fl)) := by
                have h1 := KC.out
                have kk := h1.size
                refine ⟨(RG.out.kept.step (h1.mono (fun _ _ h => .inl h))).trans k5 (fun i hi h => ?_), RD4.out.keep k5 (fun i hi h => ?_), k5.blk (h1.blk RG.out.out NE.out.1) (fun h => ?_), k5.blk (h1.blk RG.out.at_ NE.out.2.1) (fun h => ?_)⟩
                · have := OB.out i h; have := HE.out; omega
                · have := OB.out i h; have := hi.2; have := HE.out; omega
                · have := OB.out _ h; have := NE.out.2.2.2.2; omega
                · have := OB.out _ h; omega
              clear o5 k5 a5
              refine hK.out _ _ trivial (fun hHeld => ?_)
              clear hK K
              try simp only [Act.put, List.setIfInBounds_toArray, List.set_cons_zero, List.set_cons_succ]
              refine wpAnyH_take (i := 6) (oi := ⟨some 30, Op.fieldAddr 36 (Operand.tmp 5) 0, 0, _, _, none⟩) (v := ?v6n1k8) rfl (by kernel_rfl) (by kernel_rfl) (by kernel_rfl) (fun _ _ _ h => h) (Or.inl ⟨by rfl, ?y6n1k8⟩) hHeld ?z6n1k8
              case y6n1k8 => intro w hSw; (try dsimp only at hSw); go_simp <;> rfl
              try simp only [Act.put, List.setIfInBounds_toArray, List.set_cons_zero, List.set_cons_succ]
              refine wpAnyH_ready (rs := [7]) (by kernel_rfl) (by simp) ?_
              refine AllReadyH.cons (o := ⟨none, Op.store 24 (Operand.tmp 30) (Operand.tmp 29), 0, _, _, none⟩) rfl (fun K hK => ?_) AllReadyH.nil
              have hb8 := RG5.out.at_
              have hc8 : u5.cell? ⟨E, 0, none⟩ = some (.slice A L ca) := cell_of_row _ _ _ _ _ _ hb8
              have hf8 : u5.frozen? ⟨E, 0, none⟩ = false := frozen_of_row _ _ _ _ _ hb8
              have ks : Kept (fun i => i = E) u5 (u5.setCell ⟨E, 0, none⟩ (.slice A5 (L + 1) c5)) := Kept.setCell u5 (by rfl) _
              have hz := heap_setCell_same u5 E 0 _ 36 (.slice A5 (L + 1) c5) hb8
              have RG6 := Lib.hid (RG5.out.at0 ks (by simpa using hz) NE.out.2.2.1 NE.out.2.2.2.1)
              have O6 := Lib.hid (own_keep O5.out ks (fun i hi e => by have := OB5.out i hi; omega))
              clear hb8 ks hz
              go_simp
              refine hK.out _ _ trivial (fun hHeld => ?_)
              clear hK K
              try simp only [Act.put, List.setIfInBounds_toArray, List.set_cons_zero, List.set_cons_succ]
              refine wpAnyH_done (by kernel_rfl) ?_ _
              refine NoPanic.normal ?_
              clear hHeld
              try clear hc8 hf8
              go_wp2
              go_roundw
              case rel => exact ⟨N - 1, L + 1, A5, c5, es ++ [x], l4, b4, by go_num, HE3, by omega, by omega, HR2, RG6, (by rw [refCells_append]; exact O6), OB5⟩
              case measure => simp [intOf]; omega
            case b4n1k6 =>
              refine step_oneR x rfl ?_
              intro B4 u4 k4 h4 hB4
              have HB4 := Lib.hid h4
              have RD4 := Lib.hid (RD3.out.keep k4 (fun _ _ h => h))
              replace KC := Lib.hid (KC.out.step k4.to)
              clear k4 h4 hB4
              refine hK.out _ _ trivial (fun hHeld => ?_)
              clear hK K
              try simp only [Act.put, List.setIfInBounds_toArray, List.set_cons_zero, List.set_cons_succ]
              refine wpAnyH_ready (rs := [1]) (by kernel_rfl) (by simp) ?_
              refine AllReadyH.cons (o := ⟨some 25, Op.load 24 (Operand.tmp 24), 24, _, _, none⟩) rfl (fun K hK => ?_) AllReadyH.nil
              have hcb := CEE.out _ KC.out
              go_simp
              refine hK.out _ _ trivial (fun hHeld => ?_)
              clear hK K
              try simp only [Act.put, List.setIfInBounds_toArray, List.set_cons_zero, List.set_cons_succ]
              refine wpAnyH_ready (rs := [5]) (by kernel_rfl) (by simp) ?_
              refine AllReadyH.cons (o := ⟨some 29, Op.call { callee := Callee.builtin Builtin.append, args := #[Operand.tmp 25, Operand.tmp 28], argTypes := #[24, 24] }, 24, _, _, none⟩) rfl (fun K hK => ?_) AllReadyH.nil
              refine step_append_src rfl (.tmp 25) (.tmp 28) 24 24 rfl 31 noRef.val 4 40 Try.underlying24 Try.infoRef rfl (.slice A L ca) L (refCells es) rfl (own_keep OW.out KC.out NB.out) _ 1 (refCells [x]) rfl (src_ref x HB4.out) (by unfold maxLen; omega) (by omega) ?_
              intro A5 c5 u5 o5 k5 a5
              have O5 := Lib.hid o5
              have OB5 : Hid (∀ i, (Value.slice A5 (L + 1) c5).ownBlock = some i → E < i) := fun i hi => by
                rcases a5 i hi with h | h
                · exact OB.out i h
                · have h1 := h.1
                  have h2 := KC.out.size
                  have h3 := lt_of_blk RG.out.at_
                  omega
              have RG5 : Hid (Rde w2 u5 (fresh w1 w2) w.heap.size b E l4 b4 (.slice A L ca) (.slice none 0 0) (.int .i64 fl)) := by
                have h1 := KC.out
                have kk := h1.size
                refine ⟨(RG.out.kept.step (h1.mono (fun _ _ h => .inl h))).trans k5 (fun i hi h => ?_), RD4.out.keep k5 (fun i hi h => ?_), k5.blk (h1.blk RG.out.out NE.out.1) (fun h => ?_), k5.blk (h1.blk RG.out.at_ NE.out.2.1) (fun h => ?_)⟩
                · have := OB.out i h; have := HE.out; omega
                · have := OB.out i h; have := hi.2; have := HE.out; omega
                · have := OB.out _ h; have := NE.out.2.2.2.2; omega
                · have := OB.out _ h; omega
              clear o5 k5 a5
              refine hK.out _ _ trivial (fun hHeld => ?_)
              clear hK K
              try simp only [Act.put, List.setIfInBounds_toArray, List.set_cons_zero, List.set_cons_succ]
              refine wpAnyH_take (i := 6) (oi := ⟨some 30, Op.fieldAddr 36 (Operand.tmp 5) 0, 0, _, _, none⟩) (v := ?v6n1k9) rfl (by kernel_rfl) (by kernel_rfl) (by kernel_rfl) (fun _ _ _ h => h) (Or.inl ⟨by rfl, ?y6n1k9⟩) hHeld ?z6n1k9
              case y6n1k9 => intro w hSw; (try dsimp only at hSw); go_simp <;> rfl
              try simp only [Act.put, List.setIfInBounds_toArray, List.set_cons_zero, List.set_cons_succ]
              refine wpAnyH_ready (rs := [7]) (by kernel_rfl) (by simp) ?_
              refine AllReadyH.cons (o := ⟨none, Op.store 24 (Operand.tmp 30) (Operand.tmp 29), 0, _, _, none⟩) rfl (fun K hK => ?_) AllReadyH.nil
              have hb8 := RG5.out.at_
              have hc8 : u5.cell? ⟨E, 0, none⟩ = some (.slice A L ca) := cell_of_row _ _ _ _ _ _ hb8
              have hf8 : u5.frozen? ⟨E, 0, none⟩ = false := frozen_of_row _ _ _ _ _ hb8
              have ks : Kept (fun i => i = E) u5 (u5.setCell ⟨E, 0, none⟩ (.slice A5 (L + 1) c5)) := Kept.setCell u5 (by rfl) _
              have hz := heap_setCell_same u5 E 0 _ 36 (.slice A5 (L + 1) c5) hb8
              have RG6 := Lib.hid (RG5.out.at0 ks (by simpa using hz) NE.out.2.2.1 NE.out.2.2.2.1)
              have O6 := Lib.hid (own_keep O5.out ks (fun i hi e => by have := OB5.out i hi; omega))
              clear hb8 ks hz
              go_simp
              refine hK.out _ _ trivial (fun hHeld => ?_)
              clear hK K
              try simp only [Act.put, List.setIfInBounds_toArray, List.set_cons_zero, List.set_cons_succ]
              refine wpAnyH_done (by kernel_rfl) ?_ _
              refine NoPanic.normal ?_
              clear hHeld
              try clear hc8 hf8
              go_wp2
              go_roundw
              case rel => exact ⟨N - 1, L + 1, A5, c5, es ++ [x], l4, b4, by go_num, HE3, by omega, by omega, HR2, RG6, (by rw [refCells_append]; exact O6), OB5⟩
              case measure => simp [intOf]; omega
      · have hz : N.toNat = 0 := by omega
        have h0' : decide ((0 : Int) < N) = false := decide_eq_false h0
        have hrr := HRR.out
        rw [hz] at hrr
        simp only [rdList, List.append_nil, Prod.mk.injEq] at hrr
        obtain ⟨rfl, rfl, rfl⟩ := hrr
        have hle := HE2.out
        subst hle
        go_wp2
        go_meet
        case rel => exact ⟨N, A, ca, rfl, RG, OW, OB⟩
  case rest =>
    obtain ⟨N1, A1, c1, rfl, G4, O4, OB1⟩ := hcut
    go_wp2_with fail
    refine (rnum_r G4.out.rd HQD.out).mono ?_
    rintro e v5 ⟨rfl, r5, k5⟩
    have G5 := Lib.hid (G4.out.next r5 k5 NE.out.1 NE.out.2.1)
    have O5 := Lib.hid (own_keep O4.out k5 (fun i hi e => by have := OB1.out i hi; have := HZ2.out; have := HE.out; omega))
    have RTX : ∀ (F : Nat → Prop) (b : Nat) (l : List UInt8) (bad : Bool) (u : World), Rd u F b l bad → Calls Try.prog 44 #[.pointer (some ⟨b, 0, none⟩)] u (ReadP u F b (.string (rdName l bad).1) (rdName l bad).2) := fun F b l bad u hu => rtext_any b F l bad u hu
    clear r5 k5 G4 O4
    go_upto_block 2 with (fail)
    go_cut [7] (fun i wc => ∃ (N : Int) (A : Option Addr) (ca : Nat), i = .int .i64 N ∧ Hid (Rde w2 wc (fresh w1 w2) w.heap.size b E l3 b3 (.slice A1 adds.length c1) (.slice A drops.length ca) (.int .i64 fl)) ∧ Hid (wc.ownsRow 0 9 1 (.slice A drops.length ca) drops.length (drops.map Value.string)) ∧ Hid (∀ i, (Value.slice A drops.length ca).ownBlock = some i → E < i) ∧ Hid (wc.ownsRow 0 31 4 (.slice A1 adds.length c1) adds.length (refCells adds)))
    case first =>
      go_wp2_with fail
      go_loopw [7] (fun i wr => ∃ (N : Int) (L : Nat) (A : Option Addr) (ca : Nat) (es : List ByteArray) (l' : List UInt8) (bad' : Bool), i = .int .i64 N ∧ Hid (es.length = L) ∧ N ≤ 9223372036854775807 ∧ -9223372036854775808 ≤ N ∧ Hid ((drops, l3, b3) = (es ++ (rdList rdName N.toNat l' bad').1, (rdList rdName N.toNat l' bad').2)) ∧ Hid (Rde w2 wr (fresh w1 w2) w.heap.size b E l' bad' (.slice A1 adds.length c1) (.slice A L ca) (.int .i64 fl)) ∧ Hid (wr.ownsRow 0 9 1 (.slice A L ca) L (es.map Value.string)) ∧ Hid (∀ i, (Value.slice A L ca).ownBlock = some i → E < i) ∧ Hid (wr.ownsRow 0 31 4 (.slice A1 adds.length c1) adds.length (refCells adds)) ∧ Hid (∀ i j, (Value.slice A1 adds.length c1).ownBlock = some i → (Value.slice A L ca).ownBlock = some j → i < j)) (fun i _ => (intOf i).toNat)
      case atStart => exact ⟨nd, 0, none, 0, [], lnd, bnd, rfl, rfl, HND.out.2, HND.out.1, by unfold Hid; rw [HRD.out]; rfl, G5, World.ownsRow_nil _ _ _ _, fun i hi => by simp [Value.ownBlock] at hi, O5, fun i j hi hj => by simp [Value.ownBlock] at hj⟩
      case round =>
        obtain ⟨N, L, A, ca, es, l', bad', rfl, HE2, hN1, hN0, HRR, RG, OW, OB, OW1, APT⟩ := hrel
        have hL : L ≤ 1000000000000 := by
          have h1 := congrArg (fun q : List ByteArray × List UInt8 × Bool => q.1.length) HRR.out
          simp only [List.length_append] at h1
          have := HE2.out
          omega
        by_cases h0 : 0 < N
        · cases bad' with
          | true =>
            have BA := Lib.hid (rbad_any b _ l' true wr RG.out.rd)
            have hrr := HRR.out
            rw [rdList_bad] at hrr
            simp only [List.append_nil, Prod.mk.injEq] at hrr
            obtain ⟨rfl, rfl, rfl⟩ := hrr
            have hle := HE2.out
            go_wp2_with fail
            refine BA.out.mono ?_
            rintro e w4 ⟨rfl, hw4⟩
            subst hw4
            clear BA
            subst hle
            go_wp2
            go_meet
            case rel => exact ⟨N, A, ca, rfl, RG, OW, OB, OW1⟩
          | false =>
            have BA := Lib.hid (rbad_any b _ l' false wr RG.out.rd)
            have RE := Lib.hid (fun u (hu : Rd u (fresh w1 w2) b l' false) => RTX (fresh w1 w2) b l' false u hu)
            obtain ⟨m, hm⟩ : ∃ m, N.toNat = m + 1 := ⟨N.toNat - 1, by omega⟩
            have hrr := HRR.out
            rw [hm] at hrr
            simp only [rdList, Bool.false_eq_true, if_false] at hrr
            generalize hq2 : rdName l' false = q2 at hrr RE
            obtain ⟨x, l4, b4⟩ := q2
            simp only at hrr RE
            have hm' : (N - 1).toNat = m := by omega
            have HR2 : Hid ((drops, l3, b3) = ((es ++ [x]) ++ (rdList rdName (N - 1).toNat l4 b4).1, (rdList rdName (N - 1).toNat l4 b4).2)) := by
              unfold Hid
              rw [hrr, hm']
              simp
            have HE3 : Hid ((es ++ [x]).length = L + 1) := by unfold Hid; rw [List.length_append, HE2.out]; rfl
            skip
            clear hrr hq2 hm hm'
            go_wp2_with fail
            refine BA.out.mono ?_
            rintro e w4 ⟨rfl, hw4⟩
            subst hw4
            clear BA
            have KC : Hid (Kept (fun i => i = b) wr wr.drew) := Kept.drew _ _
            have CEE : Hid (∀ u, Kept (fun i => i = b) wr u → u.cell? ⟨E, 1, none⟩ = some (.slice A L ca)) := fun u k => cell_of_row _ _ _ _ _ _ (k.blk RG.out.at_ NE.out.2.1)
            have nb : ∀ i, (Value.slice A L ca).ownBlock = some i → ¬ (i = b) := fun i hi e => by have := OB.out i hi; have := HZ2.out; have := HE.out; omega
            have NB := Lib.hid nb
            clear nb
            go_upto_region 11 with (fail)
            refine wp_region_noPanic ?_
            refine wp_region_held_drew (S := fun _ => True) (by kernel_rfl) trivial (fun hHeld => ?_)
            refine wpAnyH_take (i := 0) (oi := ⟨some 42, Op.fieldAddr 36 (Operand.tmp 5) 1, 0, _, _, none⟩) (v := ?v0n2k1) rfl (by kernel_rfl) (by kernel_rfl) (by kernel_rfl) (fun _ _ _ h => h) (Or.inl ⟨by rfl, ?y0n2k1⟩) hHeld ?z0n2k1
            case y0n2k1 => intro w hSw; (try dsimp only at hSw); go_simp <;> rfl
            try simp only [Act.put, List.setIfInBounds_toArray, List.set_cons_zero, List.set_cons_succ]
            refine wpAnyH_take (i := 2) (oi := ⟨some 44, Op.move (Operand.tmp 4), 87, _, _, none⟩) (v := ?v2n2k2) rfl (by kernel_rfl) (by kernel_rfl) (by kernel_rfl) (fun _ _ _ h => h) (Or.inl ⟨by rfl, ?y2n2k2⟩) hHeld ?z2n2k2
            case y2n2k2 => intro w hSw; (try dsimp only at hSw); go_simp <;> rfl
            try simp only [Act.put, List.setIfInBounds_toArray, List.set_cons_zero, List.set_cons_succ]
            refine wpAnyH_ready (rs := [1, 3]) (by kernel_rfl) (by simp) ?_
            refine (AllReadyH.cons (o := ⟨some 43, Op.load 34 (Operand.tmp 42), 34, _, _, none⟩) rfl (fun K hK => ?b1n2k4) (AllReadyH.cons (o := ⟨some 45, Op.call { callee := Callee.value (Operand.func 44), args := #[Operand.tmp 44], argTypes := #[87] }, 9, _, _, none⟩) rfl (fun K hK => ?b3n2k3) AllReadyH.nil))
            case b1n2k4 =>
              have hcb := CEE.out _ KC.out
              go_simp
              refine hK.out _ _ trivial (fun hHeld => ?_)
              clear hK K
              try simp only [Act.put, List.setIfInBounds_toArray, List.set_cons_zero, List.set_cons_succ]
              refine wpAnyH_ready (rs := [3]) (by kernel_rfl) (by simp) ?_
              refine AllReadyH.cons (o := ⟨some 45, Op.call { callee := Callee.value (Operand.func 44), args := #[Operand.tmp 44], argTypes := #[87] }, 9, _, _, none⟩) rfl (fun K hK => ?_) AllReadyH.nil
              go_simp
              refine (RE.out _ (RG.out.none (Kept.drew noBlock wr)).rd).mono ?_
              rintro en u3 ⟨rfl, rd3, k3⟩
              have RD3 := Lib.hid rd3
              replace KC := Lib.hid (KC.out.step k3)
              clear rd3 k3
              dsimp only
              refine hK.out _ _ trivial (fun hHeld => ?_)
              clear hK K
              try simp only [Act.put, List.setIfInBounds_toArray, List.set_cons_zero, List.set_cons_succ]
              refine wpAnyH_ready (rs := [4]) (by kernel_rfl) (by simp) ?_
              refine AllReadyH.cons (o := ⟨some 46, Op.buildSlice 34 1 #[(0, Operand.tmp 45)], 34, _, _, none⟩) rfl (fun K hK => ?_) AllReadyH.nil
              refine step_oneT x rfl ?_
              intro B4 u4 k4 h4 hB4
              have HB4 := Lib.hid h4
              have RD4 := Lib.hid (RD3.out.keep k4 (fun _ _ h => h))
              replace KC := Lib.hid (KC.out.step k4.to)
              clear k4 h4 hB4
              refine hK.out _ _ trivial (fun hHeld => ?_)
              clear hK K
              try simp only [Act.put, List.setIfInBounds_toArray, List.set_cons_zero, List.set_cons_succ]
              refine wpAnyH_ready (rs := [5]) (by kernel_rfl) (by simp) ?_
              refine AllReadyH.cons (o := ⟨some 47, Op.call { callee := Callee.builtin Builtin.append, args := #[Operand.tmp 43, Operand.tmp 46], argTypes := #[34, 34] }, 34, _, _, none⟩) rfl (fun K hK => ?_) AllReadyH.nil
              refine step_append_src rfl (.tmp 43) (.tmp 46) 34 34 rfl 9 (.string ⟨#[]⟩) 1 16 Try.underlying34 Try.infoStr10 rfl (.slice A L ca) L (es.map Value.string) rfl (own_keep OW.out KC.out NB.out) _ 1 [.string x] rfl (src_new Try.underlying34 (.string x) rfl HB4.out) (by unfold maxLen; omega) (by omega) ?_
              intro A5 c5 u5 o5 k5 a5
              have O5 := Lib.hid o5
              have OB5 : Hid (∀ i, (Value.slice A5 (L + 1) c5).ownBlock = some i → E < i) := fun i hi => by
                rcases a5 i hi with h | h
                · exact OB.out i h
                · have h1 := h.1
                  have h2 := KC.out.size
                  have h3 := lt_of_blk RG.out.at_
                  omega
              have RG5 : Hid (Rde w2 u5 (fresh w1 w2) w.heap.size b E l4 b4 (.slice A1 adds.length c1) (.slice A L ca) (.int .i64 fl)) := by
                have h1 := KC.out
                have kk := h1.size
                refine ⟨(RG.out.kept.step (h1.mono (fun _ _ h => .inl h))).trans k5 (fun i hi h => ?_), RD4.out.keep k5 (fun i hi h => ?_), k5.blk (h1.blk RG.out.out NE.out.1) (fun h => ?_), k5.blk (h1.blk RG.out.at_ NE.out.2.1) (fun h => ?_)⟩
                · have := OB.out i h; have := HE.out; omega
                · have := OB.out i h; have := hi.2; have := HE.out; omega
                · have := OB.out _ h; have := NE.out.2.2.2.2; omega
                · have := OB.out _ h; omega
              have OW2 := Lib.hid (own_keep (own_keep OW1.out KC.out (fun i hi e => by have := OB1.out i hi; have := HZ2.out; have := HE.out; omega)) k5 (fun i hi h => by have := APT.out i i hi h; omega))
              have APT5 : Hid (∀ i j, (Value.slice A1 adds.length c1).ownBlock = some i → (Value.slice A5 (L + 1) c5).ownBlock = some j → i < j) := fun i j hi hj => by
                rcases a5 j hj with h | h
                · exact APT.out i j hi h
                · exact Nat.lt_of_lt_of_le (own_lt OW1.out i hi) (Nat.le_trans KC.out.size h.1)
              clear o5 k5 a5
              refine hK.out _ _ trivial (fun hHeld => ?_)
              clear hK K
              try simp only [Act.put, List.setIfInBounds_toArray, List.set_cons_zero, List.set_cons_succ]
              refine wpAnyH_take (i := 6) (oi := ⟨some 48, Op.fieldAddr 36 (Operand.tmp 5) 1, 0, _, _, none⟩) (v := ?v6n2k5) rfl (by kernel_rfl) (by kernel_rfl) (by kernel_rfl) (fun _ _ _ h => h) (Or.inl ⟨by rfl, ?y6n2k5⟩) hHeld ?z6n2k5
              case y6n2k5 => intro w hSw; (try dsimp only at hSw); go_simp <;> rfl
              try simp only [Act.put, List.setIfInBounds_toArray, List.set_cons_zero, List.set_cons_succ]
              refine wpAnyH_ready (rs := [7]) (by kernel_rfl) (by simp) ?_
              refine AllReadyH.cons (o := ⟨none, Op.store 34 (Operand.tmp 48) (Operand.tmp 47), 0, _, _, none⟩) rfl (fun K hK => ?_) AllReadyH.nil
              have hb8 := RG5.out.at_
              have hc8 : u5.cell? ⟨E, 1, none⟩ = some (.slice A L ca) := cell_of_row _ _ _ _ _ _ hb8
              have hf8 : u5.frozen? ⟨E, 1, none⟩ = false := frozen_of_row _ _ _ _ _ hb8
              have ks : Kept (fun i => i = E) u5 (u5.setCell ⟨E, 1, none⟩ (.slice A5 (L + 1) c5)) := Kept.setCell u5 (by rfl) _
              have hz := heap_setCell_same u5 E 1 _ 36 (.slice A5 (L + 1) c5) hb8
              have RG6 := Lib.hid (RG5.out.at0 ks (by simpa using hz) NE.out.2.2.1 NE.out.2.2.2.1)
              have O6 := Lib.hid (own_keep O5.out ks (fun i hi e => by have := OB5.out i hi; omega))
              have OW3 := Lib.hid (own_keep OW2.out ks (fun i hi e => by have := OB1.out i hi; omega))
              clear hb8 ks hz
              go_simp
              refine hK.out _ _ trivial (fun hHeld => ?_)
              clear hK K
              try simp only [Act.put, List.setIfInBounds_toArray, List.set_cons_zero, List.set_cons_succ]
              refine wpAnyH_done (by kernel_rfl) ?_ _
              refine NoPanic.normal ?_
              clear hHeld
              try clear hc8 hf8
              go_wp2
              go_roundw
              case rel => exact ⟨N - 1, L + 1, A5, c5, es ++ [x], l4, b4, by go_num, HE3, by omega, by omega, HR2, RG6, (by rw [List.map_append]; exact O6), OB5, OW3, APT5⟩
              case measure => simp [intOf]; omega
            case b3n2k3 =>
              go_simp
              refine (RE.out _ (RG.out.none (Kept.drew noBlock wr)).rd).mono ?_
              rintro en u3 ⟨rfl, rd3, k3⟩
              have RD3 := Lib.hid rd3
              replace KC := Lib.hid (KC.out.step k3)
              clear rd3 k3
              dsimp only
              refine hK.out _ _ trivial (fun hHeld => ?_)
              clear hK K
              try simp only [Act.put, List.setIfInBounds_toArray, List.set_cons_zero, List.set_cons_succ]
              refine wpAnyH_ready (rs := [1, 4]) (by kernel_rfl) (by simp) ?_
              refine (AllReadyH.cons (o := ⟨some 43, Op.load 34 (Operand.tmp 42), 34, _, _, none⟩) rfl (fun K hK => ?b1n2k7) (AllReadyH.cons (o := ⟨some 46, Op.buildSlice 34 1 #[(0, Operand.tmp 45)], 34, _, _, none⟩) rfl (fun K hK => ?b4n2k6) AllReadyH.nil))
              case b1n2k7 =>
                have hcb := CEE.out _ KC.out
                go_simp
                refine hK.out _ _ trivial (fun hHeld => ?_)
                clear hK K
                try simp only [Act.put, List.setIfInBounds_toArray, List.set_cons_zero, List.set_cons_succ]
                refine wpAnyH_ready (rs := [4]) (by kernel_rfl) (by simp) ?_
                refine AllReadyH.cons (o := ⟨some 46, Op.buildSlice 34 1 #[(0, Operand.tmp 45)], 34, _, _, none⟩) rfl (fun K hK => ?_) AllReadyH.nil
                refine step_oneT x rfl ?_
                intro B4 u4 k4 h4 hB4
                have HB4 := Lib.hid h4
                have RD4 := Lib.hid (RD3.out.keep k4 (fun _ _ h => h))
                replace KC := Lib.hid (KC.out.step k4.to)
                clear k4 h4 hB4
                refine hK.out _ _ trivial (fun hHeld => ?_)
                clear hK K
                try simp only [Act.put, List.setIfInBounds_toArray, List.set_cons_zero, List.set_cons_succ]
                refine wpAnyH_ready (rs := [5]) (by kernel_rfl) (by simp) ?_
                refine AllReadyH.cons (o := ⟨some 47, Op.call { callee := Callee.builtin Builtin.append, args := #[Operand.tmp 43, Operand.tmp 46], argTypes := #[34, 34] }, 34, _, _, none⟩) rfl (fun K hK => ?_) AllReadyH.nil
                refine step_append_src rfl (.tmp 43) (.tmp 46) 34 34 rfl 9 (.string ⟨#[]⟩) 1 16 Try.underlying34 Try.infoStr10 rfl (.slice A L ca) L (es.map Value.string) rfl (own_keep OW.out KC.out NB.out) _ 1 [.string x] rfl (src_new Try.underlying34 (.string x) rfl HB4.out) (by unfold maxLen; omega) (by omega) ?_
                intro A5 c5 u5 o5 k5 a5
                have O5 := Lib.hid o5
                have OB5 : Hid (∀ i, (Value.slice A5 (L + 1) c5).ownBlock = some i → E < i) := fun i hi => by
                  rcases a5 i hi with h | h
                  · exact OB.out i h
                  · have h1 := h.1
                    have h2 := KC.out.size
                    have h3 := lt_of_blk RG.out.at_
                    omega
                have RG5 : Hid (Rde w2 u5 (fresh w1 w2) w.heap.size b E l4 b4 (.slice A1 adds.length c1) (.slice A L ca) (.int .i64 fl)) := by
                  have h1 := KC.out
                  have kk := h1.size
                  refine ⟨(RG.out.kept.step (h1.mono (fun _ _ h => .inl h))).trans k5 (fun i hi h => ?_), RD4.out.keep k5 (fun i hi h => ?_), k5.blk (h1.blk RG.out.out NE.out.1) (fun h => ?_), k5.blk (h1.blk RG.out.at_ NE.out.2.1) (fun h => ?_)⟩
                  · have := OB.out i h; have := HE.out; omega
                  · have := OB.out i h; have := hi.2; have := HE.out; omega
                  · have := OB.out _ h; have := NE.out.2.2.2.2; omega
                  · have := OB.out _ h; omega
                have OW2 := Lib.hid (own_keep (own_keep OW1.out KC.out (fun i hi e => by have := OB1.out i hi; have := HZ2.out; have := HE.out; omega)) k5 (fun i hi h => by have := APT.out i i hi h; omega))
                have APT5 : Hid (∀ i j, (Value.slice A1 adds.length c1).ownBlock = some i → (Value.slice A5 (L + 1) c5).ownBlock = some j → i < j) := fun i j hi hj => by
                  rcases a5 j hj with h | h
                  · exact APT.out i j hi h
                  · exact Nat.lt_of_lt_of_le (own_lt OW1.out i hi) (Nat.le_trans KC.out.size h.1)
                clear o5 k5 a5
                refine hK.out _ _ trivial (fun hHeld => ?_)
                clear hK K
                try simp only [Act.put, List.setIfInBounds_toArray, List.set_cons_zero, List.set_cons_succ]
                refine wpAnyH_take (i := 6) (oi := ⟨some 48, Op.fieldAddr 36 (Operand.tmp 5) 1, 0, _, _, none⟩) (v := ?v6n2k8) rfl (by kernel_rfl) (by kernel_rfl) (by kernel_rfl) (fun _ _ _ h => h) (Or.inl ⟨by rfl, ?y6n2k8⟩) hHeld ?z6n2k8
                case y6n2k8 => intro w hSw; (try dsimp only at hSw); go_simp <;> rfl
                try simp only [Act.put, List.setIfInBounds_toArray, List.set_cons_zero, List.set_cons_succ]
                refine wpAnyH_ready (rs := [7]) (by kernel_rfl) (by simp) ?_
                refine AllReadyH.cons (o := ⟨none, Op.store 34 (Operand.tmp 48) (Operand.tmp 47), 0, _, _, none⟩) rfl (fun K hK => ?_) AllReadyH.nil
                have hb8 := RG5.out.at_
                have hc8 : u5.cell? ⟨E, 1, none⟩ = some (.slice A L ca) := cell_of_row _ _ _ _ _ _ hb8
                have hf8 : u5.frozen? ⟨E, 1, none⟩ = false := frozen_of_row _ _ _ _ _ hb8
                have ks : Kept (fun i => i = E) u5 (u5.setCell ⟨E, 1, none⟩ (.slice A5 (L + 1) c5)) := Kept.setCell u5 (by rfl) _
                have hz := heap_setCell_same u5 E 1 _ 36 (.slice A5 (L + 1) c5) hb8
                have RG6 := Lib.hid (RG5.out.at0 ks (by simpa using hz) NE.out.2.2.1 NE.out.2.2.2.1)
                have O6 := Lib.hid (own_keep O5.out ks (fun i hi e => by have := OB5.out i hi; omega))
                have OW3 := Lib.hid (own_keep OW2.out ks (fun i hi e => by have := OB1.out i hi; omega))
                clear hb8 ks hz
                go_simp
                refine hK.out _ _ trivial (fun hHeld => ?_)
                clear hK K
                try simp only [Act.put, List.setIfInBounds_toArray, List.set_cons_zero, List.set_cons_succ]
                refine wpAnyH_done (by kernel_rfl) ?_ _
                refine NoPanic.normal ?_
                clear hHeld
                try clear hc8 hf8
                go_wp2
                go_roundw
                case rel => exact ⟨N - 1, L + 1, A5, c5, es ++ [x], l4, b4, by go_num, HE3, by omega, by omega, HR2, RG6, (by rw [List.map_append]; exact O6), OB5, OW3, APT5⟩
                case measure => simp [intOf]; omega
              case b4n2k6 =>
                refine step_oneT x rfl ?_
                intro B4 u4 k4 h4 hB4
                have HB4 := Lib.hid h4
                have RD4 := Lib.hid (RD3.out.keep k4 (fun _ _ h => h))
                replace KC := Lib.hid (KC.out.step k4.to)
                clear k4 h4 hB4
                refine hK.out _ _ trivial (fun hHeld => ?_)
                clear hK K
                try simp only [Act.put, List.setIfInBounds_toArray, List.set_cons_zero, List.set_cons_succ]
                refine wpAnyH_ready (rs := [1]) (by kernel_rfl) (by simp) ?_
                refine AllReadyH.cons (o := ⟨some 43, Op.load 34 (Operand.tmp 42), 34, _, _, none⟩) rfl (fun K hK => ?_) AllReadyH.nil
                have hcb := CEE.out _ KC.out
                go_simp
                refine hK.out _ _ trivial (fun hHeld => ?_)
                clear hK K
                try simp only [Act.put, List.setIfInBounds_toArray, List.set_cons_zero, List.set_cons_succ]
                refine wpAnyH_ready (rs := [5]) (by kernel_rfl) (by simp) ?_
                refine AllReadyH.cons (o := ⟨some 47, Op.call { callee := Callee.builtin Builtin.append, args := #[Operand.tmp 43, Operand.tmp 46], argTypes := #[34, 34] }, 34, _, _, none⟩) rfl (fun K hK => ?_) AllReadyH.nil
                refine step_append_src rfl (.tmp 43) (.tmp 46) 34 34 rfl 9 (.string ⟨#[]⟩) 1 16 Try.underlying34 Try.infoStr10 rfl (.slice A L ca) L (es.map Value.string) rfl (own_keep OW.out KC.out NB.out) _ 1 [.string x] rfl (src_new Try.underlying34 (.string x) rfl HB4.out) (by unfold maxLen; omega) (by omega) ?_
                intro A5 c5 u5 o5 k5 a5
                have O5 := Lib.hid o5
                have OB5 : Hid (∀ i, (Value.slice A5 (L + 1) c5).ownBlock = some i → E < i) := fun i hi => by
                  rcases a5 i hi with h | h
                  · exact OB.out i h
                  · have h1 := h.1
                    have h2 := KC.out.size
                    have h3 := lt_of_blk RG.out.at_
                    omega
                have RG5 : Hid (Rde w2 u5 (fresh w1 w2) w.heap.size b E l4 b4 (.slice A1 adds.length c1) (.slice A L ca) (.int .i64 fl)) := by
                  have h1 := KC.out
                  have kk := h1.size
                  refine ⟨(RG.out.kept.step (h1.mono (fun _ _ h => .inl h))).trans k5 (fun i hi h => ?_), RD4.out.keep k5 (fun i hi h => ?_), k5.blk (h1.blk RG.out.out NE.out.1) (fun h => ?_), k5.blk (h1.blk RG.out.at_ NE.out.2.1) (fun h => ?_)⟩
                  · have := OB.out i h; have := HE.out; omega
                  · have := OB.out i h; have := hi.2; have := HE.out; omega
                  · have := OB.out _ h; have := NE.out.2.2.2.2; omega
                  · have := OB.out _ h; omega
                have OW2 := Lib.hid (own_keep (own_keep OW1.out KC.out (fun i hi e => by have := OB1.out i hi; have := HZ2.out; have := HE.out; omega)) k5 (fun i hi h => by have := APT.out i i hi h; omega))
                have APT5 : Hid (∀ i j, (Value.slice A1 adds.length c1).ownBlock = some i → (Value.slice A5 (L + 1) c5).ownBlock = some j → i < j) := fun i j hi hj => by
                  rcases a5 j hj with h | h
                  · exact APT.out i j hi h
                  · exact Nat.lt_of_lt_of_le (own_lt OW1.out i hi) (Nat.le_trans KC.out.size h.1)
                clear o5 k5 a5
                refine hK.out _ _ trivial (fun hHeld => ?_)
                clear hK K
                try simp only [Act.put, List.setIfInBounds_toArray, List.set_cons_zero, List.set_cons_succ]
                refine wpAnyH_take (i := 6) (oi := ⟨some 48, Op.fieldAddr 36 (Operand.tmp 5) 1, 0, _, _, none⟩) (v := ?v6n2k9) rfl (by kernel_rfl) (by kernel_rfl) (by kernel_rfl) (fun _ _ _ h => h) (Or.inl ⟨by rfl, ?y6n2k9⟩) hHeld ?z6n2k9
                case y6n2k9 => intro w hSw; (try dsimp only at hSw); go_simp <;> rfl
                try simp only [Act.put, List.setIfInBounds_toArray, List.set_cons_zero, List.set_cons_succ]
                refine wpAnyH_ready (rs := [7]) (by kernel_rfl) (by simp) ?_
                refine AllReadyH.cons (o := ⟨none, Op.store 34 (Operand.tmp 48) (Operand.tmp 47), 0, _, _, none⟩) rfl (fun K hK => ?_) AllReadyH.nil
                have hb8 := RG5.out.at_
                have hc8 : u5.cell? ⟨E, 1, none⟩ = some (.slice A L ca) := cell_of_row _ _ _ _ _ _ hb8
                have hf8 : u5.frozen? ⟨E, 1, none⟩ = false := frozen_of_row _ _ _ _ _ hb8
                have ks : Kept (fun i => i = E) u5 (u5.setCell ⟨E, 1, none⟩ (.slice A5 (L + 1) c5)) := Kept.setCell u5 (by rfl) _
                have hz := heap_setCell_same u5 E 1 _ 36 (.slice A5 (L + 1) c5) hb8
                have RG6 := Lib.hid (RG5.out.at0 ks (by simpa using hz) NE.out.2.2.1 NE.out.2.2.2.1)
                have O6 := Lib.hid (own_keep O5.out ks (fun i hi e => by have := OB5.out i hi; omega))
                have OW3 := Lib.hid (own_keep OW2.out ks (fun i hi e => by have := OB1.out i hi; omega))
                clear hb8 ks hz
                go_simp
                refine hK.out _ _ trivial (fun hHeld => ?_)
                clear hK K
                try simp only [Act.put, List.setIfInBounds_toArray, List.set_cons_zero, List.set_cons_succ]
                refine wpAnyH_done (by kernel_rfl) ?_ _
                refine NoPanic.normal ?_
                clear hHeld
                try clear hc8 hf8
                go_wp2
                go_roundw
                case rel => exact ⟨N - 1, L + 1, A5, c5, es ++ [x], l4, b4, by go_num, HE3, by omega, by omega, HR2, RG6, (by rw [List.map_append]; exact O6), OB5, OW3, APT5⟩
                case measure => simp [intOf]; omega
        · have hz : N.toNat = 0 := by omega
          have h0' : decide ((0 : Int) < N) = false := decide_eq_false h0
          have hrr := HRR.out
          rw [hz] at hrr
          simp only [rdList, List.append_nil, Prod.mk.injEq] at hrr
          obtain ⟨rfl, rfl, rfl⟩ := hrr
          have hle := HE2.out
          subst hle
          go_wp2
          go_meet
          case rel => exact ⟨N, A, ca, rfl, RG, OW, OB, OW1⟩
    case rest =>
      obtain ⟨N2, A2, c2, rfl, G6, O6, OB2, O7⟩ := hcut
      have hse := HSE.out
      subst hse
      have KW : Hid (Kept noBlock w wc) := K2.out.trans (G6.out.kept.mono (T := fun i => w.heap.size < i) (fun i hi h => by have := HZ2.out; have := NE.out.2.2.2.2; omega)) (fun i hi h => by omega)
      have EV : Hid (Ev wc (fun i => w.heap.size < i) ⟨adds, drops, fl⟩ A1 c1 A2 c2) := by
        refine ⟨Lies.of_rows O7.out (fun i hi => by have := OB1.out i hi; have := NE.out.2.2.2.2; omega), Lies.of_rows O6.out (fun i hi => by have := OB2.out i hi; have := NE.out.2.2.2.2; omega), ?_, ?_⟩
        · obtain ⟨_, _, e, hle⟩ := own_form O7.out
          injection e with _ _ e
          show adds.length ≤ c1
          omega
        · obtain ⟨_, _, e, hle⟩ := own_form O6.out
          injection e with _ _ e
          show drops.length ≤ c2
          omega
      obtain ⟨m, hm⟩ : ∃ m, (EditV.mk adds drops fl).bytes.length = m := ⟨_, rfl⟩
      have hbb := HBB.out
      rw [hm] at hbb
      have BY := Lib.hid (ebytes_any _ ⟨adds, drops, fl⟩ A1 c1 A2 c2 m wc EV.out hm hbb)
      have HM := Lib.hid hm
      have HR6 := Lib.hid G6.out.out
      have HE6 := Lib.hid G6.out.at_
      obtain ⟨y0, y1, y2⟩ := ed_cells G6.out.at_
      unfold evl at BY
      simp only at BY
      clear hm hbb OB1 OB2 O6 O7 G6 HBB
      go_wp2_with fail
      refine BY.out.mono ?_
      rintro e w8 ⟨P, cp, rfl, o8, k8⟩
      have EQ := Lib.hid (equal_any (fun _ => True) F P m cp a n c (EditV.mk adds drops fl).bytes l w8 (Lies.of_own o8 (fun _ _ => trivial)) HM.out (HLI.out.keep (KW.out.step k8) (fun _ _ h => h)) HL.out)
      have KU := Lib.hid (KW.out.step k8)
      have EV9 := Lib.hid (EV.out.kept k8)
      have HRU := Lib.hid (k8.blk HR6.out (fun h => h))
      have HE8 := Lib.hid (k8.blk HE6.out (fun h => h))
      clear y0 y1 y2 k8 o8 BY EV KW HR6
      by_cases hq : (EditV.mk adds drops fl).bytes = l
      · rw [decide_eq_true hq] at EQ
        have E0 : Hid (gotE l = ⟨adds, drops, fl⟩ ∧ gotEB l = true) := by
          have hyes : (rdEdit l).bytes = l := by rw [← HS.out]; exact hq
          unfold Hid gotE gotEB
          exact ⟨by rw [if_pos hyes, HS.out], decide_eq_true hyes⟩
        clear hq
        go_wp2_with fail
        refine EQ.out.mono ?_
        rintro e w9 ⟨rfl, hw9⟩
        subst hw9
        clear EQ
        have hz9 := three_set (x0 := .slice A1 adds.length c1) (x1 := .slice A2 drops.length c2) (x2 := .int .i64 fl) HRU.out
        have HZ := Lib.hid hz9.1
        have KZ : Hid (Kept noBlock w (((w8.setCell ⟨w.heap.size, 0, none⟩ (.slice A1 adds.length c1)).setCell ⟨w.heap.size, 1, none⟩ (.slice A2 drops.length c2)).setCell ⟨w.heap.size, 2, none⟩ (.int .i64 fl))) := ((KU.out.mono (T := fun i => w.heap.size ≤ i) (fun _ _ h => h.elim)).trans hz9.2 (fun i _ h => by omega)).mono (fun i hi h => by omega)
        have EZ := Lib.hid (EV9.out.keep hz9.2 (fun i hi e => by omega))
        obtain ⟨y0, y1, y2⟩ := ed_cells HE8.out
        obtain ⟨r0, r1, r2⟩ := ed_cells HRU.out
        have hfz : ∀ j, w8.frozen? ⟨w.heap.size, j, none⟩ = false := fun j => frozen_of_row _ _ _ _ _ HRU.out
        have f0 := hfz 0
        have f1 := hfz 1
        have f2 := hfz 2
        clear hfz hz9
        go_wp2
        change bodyPost _ _ _ _ _ (((w8.setCell ⟨w.heap.size, 0, none⟩ (.slice A1 adds.length c1)).setCell ⟨w.heap.size, 1, none⟩ (.slice A2 drops.length c2)).setCell ⟨w.heap.size, 2, none⟩ (.int .i64 fl))
        generalize ((w8.setCell ⟨w.heap.size, 0, none⟩ (.slice A1 adds.length c1)).setCell ⟨w.heap.size, 1, none⟩ (.slice A2 drops.length c2)).setCell ⟨w.heap.size, 2, none⟩ (.int .i64 fl) = vz at HZ KZ EZ ⊢
        obtain ⟨z0, z1, z2⟩ := ed_cells HZ.out
        refine bodyPost_ret (v := .tuple #[.agg #[.slice A1 adds.length c1, .slice A2 drops.length c2, .int .i64 fl], .bool true]) (by simp [results, Try.results23, go_sem, Try.isAgg36, Try.sizeOf36, z0, z1, z2]) rfl ?_
        rw [E0.out.1, E0.out.2]
        exact ⟨A1, c1, A2, c2, rfl, ⟨(EZ.out.la.and EZ.out.la.lt).mono (fun i hi => ⟨Nat.le_of_lt hi.1, hi.2⟩), (EZ.out.ld.and EZ.out.ld.lt).mono (fun i hi => ⟨Nat.le_of_lt hi.1, hi.2⟩), EZ.out.ca, EZ.out.cb⟩, KZ.out⟩
      · rw [decide_eq_false hq] at EQ
        have E0 : Hid (gotE l = noEdit ∧ gotEB l = false) := by
          have hno : ¬ (rdEdit l).bytes = l := by rw [← HS.out]; exact hq
          unfold Hid gotE gotEB
          exact ⟨by rw [if_neg hno], decide_eq_false hno⟩
        clear hq
        go_wp2_with fail
        refine EQ.out.mono ?_
        rintro e w9 ⟨rfl, hw9⟩
        subst hw9
        clear EQ
        have hz9 := three_set (x0 := .slice none 0 0) (x1 := .slice none 0 0) (x2 := .int .i64 0) HRU.out
        have HZ := Lib.hid hz9.1
        have KZ : Hid (Kept noBlock w (((w8.setCell ⟨w.heap.size, 0, none⟩ (.slice none 0 0)).setCell ⟨w.heap.size, 1, none⟩ (.slice none 0 0)).setCell ⟨w.heap.size, 2, none⟩ (.int .i64 0))) := ((KU.out.mono (T := fun i => w.heap.size ≤ i) (fun _ _ h => h.elim)).trans hz9.2 (fun i _ h => by omega)).mono (fun i hi h => by omega)
        skip
        obtain ⟨r0, r1, r2⟩ := ed_cells HRU.out
        have hfz : ∀ j, w8.frozen? ⟨w.heap.size, j, none⟩ = false := fun j => frozen_of_row _ _ _ _ _ HRU.out
        have f0 := hfz 0
        have f1 := hfz 1
        have f2 := hfz 2
        clear hfz hz9
        go_wp2
        change bodyPost _ _ _ _ _ (((w8.setCell ⟨w.heap.size, 0, none⟩ (.slice none 0 0)).setCell ⟨w.heap.size, 1, none⟩ (.slice none 0 0)).setCell ⟨w.heap.size, 2, none⟩ (.int .i64 0))
        generalize ((w8.setCell ⟨w.heap.size, 0, none⟩ (.slice none 0 0)).setCell ⟨w.heap.size, 1, none⟩ (.slice none 0 0)).setCell ⟨w.heap.size, 2, none⟩ (.int .i64 0) = vz at HZ KZ ⊢
        obtain ⟨z0, z1, z2⟩ := ed_cells HZ.out
        refine bodyPost_ret (v := .tuple #[.agg #[.slice none 0 0, .slice none 0 0, .int .i64 0], .bool false]) (by simp [results, Try.results23, go_sem, Try.isAgg36, Try.sizeOf36, z0, z1, z2]) rfl ?_
        rw [E0.out.1, E0.out.2]
        exact ⟨none, 0, none, 0, rfl, ⟨Lies.nil _ _ _, Lies.nil _ _ _, Nat.le_refl _, Nat.le_refl _⟩, KZ.out⟩
end Go.Proofs.Ytjijdkdpmbfdmaa
