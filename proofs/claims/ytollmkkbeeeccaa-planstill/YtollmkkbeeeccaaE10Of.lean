/-
  The contract of edits.listOf. No statement is proved here.
-/
import Derived.Test.YtollmkkbeeeccaaE10Ref
import Derived.Deep.DeepCutAuto
namespace Go.Proofs.Ytollmkkbeeeccaa
open Go.RowKit Tot

/-- The list at d, whose map is at m, has the files N and the floor f. -/
structure Ls (w : World) (d m : Nat) (N : Fls) (f : Int) (B : Nat) : Prop where
  blk : w.heap[d]? = some (.cells #[.map (some m), .int .i64 f] 75 (0, 0))
  rows : RowsL w (fun i => i ≠ d ∧ i ≠ m) m N B
theorem Ls.keep {w w' : World} {d m B : Nat} {N : Fls} {f : Int} (h : Ls w d m N f B) (k : Kept noBlock w w') : Ls w' d m N f B := ⟨k.blk h.blk (fun h => h), h.rows.keep k (fun h => h) (fun _ _ h => h)⟩
theorem Ls.ne {w : World} {d m B : Nat} {N : Fls} {f : Int} (h : Ls w d m N f B) : m ≠ d := h.rows.ne h.blk

/-- The same where the map has no other names. -/
def RowsT (w : World) (m : Nat) (N : Fls) (B : Nat) : Prop := ∃ M, MG.Tb w m M ∧ M.length ≤ B ∧ (∀ k, SlOk w (fun i => i ≠ m) ((Srt.look M k).getD noSl) (Srt.look N k)) ∧ (∀ k, Srt.look N k = none → Srt.look M k = none) ∧ ∀ p ∈ M, p.1.size ≤ maxLen
section
variable {S : Nat → Prop} {w w' : World} {m B : Nat} {N : Fls}
theorem RowsT.rows (h : RowsT w m N B) : RowsL w (fun i => i ≠ m) m N B := by
  obtain ⟨M, h1, h2, h3, _, h5⟩ := h
  exact ⟨M, h1, h2, h3, h5⟩
theorem RowsT.keep (h : RowsT w m N B) (k : Kept noBlock w w') : RowsT w' m N B := by
  obtain ⟨M, h1, h2, h3, h4, h5⟩ := h
  exact ⟨M, h1.keep k (fun h => h), h2, fun j => (h3 j).keep k (fun _ _ h => h), h4, h5⟩
theorem RowsT.made (w : World) : RowsT (w.alloc (.map #[] 0)) w.heap.size [] 0 := ⟨[], MG.Tb.made w, Nat.le_refl _, fun _ => SlOk.none _ _, fun _ _ => rfl, fun _ h => (by cases h)⟩
theorem RowsT.look (h : RowsT w m N B) (k : ByteArray) (hk : k.size ≤ maxLen) (hn : Srt.look N k = none) :
    ∀ u, Kept noBlock w u → (Instr.lookup 73 (.map (some m)) (.string k) false).run Try.prog u = .ok (.slice none 0 0) u := fun u hu => by
  obtain ⟨M, h1, h2, h3, h4, _⟩ := h
  have := MG.run_look1 (h1.keep hu (fun h => h)) k hk
  rw [h4 k hn] at this
  exact this
theorem RowsT.put (h : RowsT w m N B) (k : ByteArray) (hk : k.size ≤ maxLen) (v : SlV) (N' : Fls) (r : RefV) (hN : ∀ j, Srt.look N' j = if j = k then some r else Srt.look N j) (hv : SlOk w (fun i => i ≠ m) v (some r)) (hB : B < maxLen) :
    ∃ u, (Instr.mapUpdate 73 (.map (some m)) (.string k) (.slice v.addr v.2.1 v.2.2)).run Try.prog w = .ok () u ∧ RowsT u m N' (B + 1) ∧ Kept (fun i => i = m) w u := by
  obtain ⟨M, h1, h2, h3, h4, h5⟩ := h
  obtain ⟨u, hrun, hT, ku⟩ := MG.run_put h1 k hk (by omega) v
  refine ⟨u, hrun, ⟨Srt.put M k v, hT, ?_, fun j => ?_, fun j hj => ?_, fun p hp => ?_⟩, ku⟩
  · rw [Srt.put_len]
    split <;> omega
  · rw [Srt.look_put h1.up, hN]
    split
    · exact hv.keep ku (fun _ h => h)
    · exact (h3 j).keep ku (fun _ h => h)
  · rw [hN] at hj
    rw [Srt.look_put h1.up]
    split at hj
    · cases hj
    · rename_i hne
      rw [if_neg hne]
      exact h4 j hj
  · rcases (Srt.mem_put h1.up k v p).1 hp with rfl | ⟨hp, _⟩
    · exact hk
    · exact h5 p hp
end

theorem take_up {N : Fls} (h : Srt.Up N) (k : Nat) : Srt.Up (N.take k) := h.sub (List.take_sublist _ _)
/-- The next file of a row of files: its name is not there yet. -/
theorem take_next {N : Fls} {k : Nat} {p : ByteArray × RefV} (h : Srt.Up N) (hp : N[k]? = some p) : Srt.has (N.take k) p.1 = false ∧ ∀ j, Srt.look (N.take (k + 1)) j = if j = p.1 then some p.2 else Srt.look (N.take k) j := by
  have e := take_snoc N k p hp
  have hu : Srt.Up (N.take k ++ [(p.1, p.2)]) := by
    have := take_up h (k + 1)
    rw [e] at this
    exact this
  obtain ⟨h1, h2⟩ := put_last hu
  refine ⟨h2, fun j => ?_⟩
  rw [e]
  show Srt.look (N.take k ++ [(p.1, p.2)]) j = _
  rw [← h1, Srt.look_put (take_up h k)]

set_option maxRecDepth 100000 in
set_option maxHeartbeats 1000000 in
theorem listof_any (F : Nat → Prop) (N : Fls) (A : Option Addr) (n c : Nat) (f : Int) (w : World) (h : Lies w F A (refCells (N.map (·.2)))) (hl : N.length = n) (hc : n ≤ c) (hg : Good N) (hn : n ≤ 1099511627776) :
    Calls Try.prog 25 #[.agg #[.slice A n c, .int .i64 f]] w fun e w' => ∃ d m, e = .returned (.pointer (some ⟨d, 0, none⟩)) ∧ Ls w' d m N f n ∧ w.heap.size ≤ d ∧ w.heap.size ≤ m ∧ Kept noBlock w w' := by
  have k1 : Kept noBlock w (w.alloc (.cells #[.slice A n c, .int .i64 f] 27)) := Kept.alloc _ _ _
  have h1 : (w.alloc (.cells #[.slice A n c, .int .i64 f] 27)).heap[w.heap.size]? = some (.cells #[.slice A n c, .int .i64 f] 27 (0, 0)) := heap_alloc_new w _
  have z1 : (w.alloc (.cells #[.slice A n c, .int .i64 f] 27)).heap.size = w.heap.size + 1 := by simp
  have hm := RowsT.made (w.alloc (.cells #[.slice A n c, .int .i64 f] 27))
  rw [z1] at hm
  have k2 : Kept noBlock w ((w.alloc (.cells #[.slice A n c, .int .i64 f] 27)).alloc (.map #[] 0)) := k1.step (Kept.alloc _ _ _)
  have h2 := (Kept.alloc noBlock (w.alloc (.cells #[.slice A n c, .int .i64 f] 27)) (.map #[] 0)).blk h1 (fun h => h)
  obtain ⟨S, hS⟩ : ∃ S, S = w.heap.size := ⟨_, rfl⟩
  obtain ⟨m, hme⟩ : ∃ m, m = w.heap.size + 1 := ⟨_, rfl⟩
  have HL := Lib.hid h
  have HLEN := Lib.hid hl
  have HG := Lib.hid hg
  clear h hl hg k1 h1 z1
  have hmm := @run_makeMap Try.prog
  go_enter Try.func25, Try.ntmps25
  go_upto_region 2 with (fail)
  rw [← hS] at h2 ⊢
  rw [← hS] at hme
  rw [← hS, ← hme] at hm
  try rw [← hme]
  generalize (w.alloc (.cells #[.slice A n c, .int .i64 f] 27)).alloc (.map #[] 0) = w1 at h2 hm k2 ⊢
  have HS := Lib.hid h2
  have HM : Hid (RowsT w1 m [] 0) := hm
  have K2 := Lib.hid k2
  have HWS := Lib.hid hS
  have HWM := Lib.hid hme
  obtain ⟨c0, c1⟩ : w1.cell? ⟨S, 0, none⟩ = some (.slice A n c) ∧ w1.cell? ⟨S, 1, none⟩ = some (.int .i64 f) := ⟨cell_of_row _ _ _ _ _ _ h2, cell_of_row _ _ _ _ _ _ h2⟩
  clear h2 hm k2 hS hme hmm
  go_wp2_with fail
  go_loopw [10] (fun i wr => ∃ k : Nat, k ≤ n ∧ i = .int .i64 (k : Int) ∧ Hid (RowsT wr m (N.take k) k) ∧ Hid (Kept (fun i => i = m) w1 wr)) (fun i _ => n - (intOf i).toNat)
  case atStart => exact ⟨0, by omega, rfl, HM, Kept.refl _ _⟩
  case round =>
    obtain ⟨k, hkn, rfl, HR, HK⟩ := hrel
    by_cases hlt : k < n
    · obtain ⟨p, hp⟩ : ∃ p, N[k]? = some p := ⟨_, List.getElem?_eq_getElem (by have := HLEN.out; omega)⟩
      have hpr : (N.map (·.2))[k]? = some p.2 := by rw [List.getElem?_map, hp]; rfl
      have hfm : ∀ i, i < w.heap.size → ¬ i = m := fun i hi e => by have := HWS.out; have := HWM.out; omega
      obtain ⟨g, o, rfl, _, cc⟩ := ((HL.out.lt.keep K2.out (fun _ _ h => h)).keep HK.out hfm).elem (enc := RefV.cells) ref_len (by omega) hpr
      have e0 := cc 0 _ rfl
      have e1 := cc 1 _ rfl
      have e2 := cc 2 _ rfl
      have e3 := cc 3 _ rfl
      rw [Nat.add_zero] at e0
      have hname : p.1 = p.2.name := HG.out.named p (List.mem_of_getElem? hp)
      have hmay : p.2.May := HG.out.may p (List.mem_of_getElem? hp)
      obtain ⟨hnot, hnext⟩ := take_next HG.out.up hp
      obtain ⟨nm, r⟩ := p
      simp only at hname hmay hnot hnext hpr e0 e1 e2 e3
      subst hname
      have hsz : r.name.size ≤ maxLen := by have := hmay.2.1; unfold maxLen; omega
      have ka := Kept.alloc noBlock wr (.cells #[.string r.name, .int .i64 r.kind, .int .i64 r.from_, .int .i64 r.to_] 37)
      have hb := heap_alloc_new wr (.cells #[.string r.name, .int .i64 r.kind, .int .i64 r.from_, .int .i64 r.to_] 37)
      have HNX := Lib.hid hnext
      have HNOT := Lib.hid hnot
      clear hp hpr hmay hnot hnext cc hfm
      go_upto_region 5 with (fail)
      obtain ⟨C, hC⟩ : ∃ C, C = wr.heap.size := ⟨_, rfl⟩
      rw [← hC] at hb ⊢
      generalize wr.alloc (.cells #[.string r.name, .int .i64 r.kind, .int .i64 r.from_, .int .i64 r.to_] 37) = w3 at ka hb ⊢
      have HB := Lib.hid hb
      have HR3 := Lib.hid (HR.out.keep ka)
      have HK3 := Lib.hid (HK.out.step ka.to)
      have HCm : Hid (C ≠ m) := fun e => by have := HR.out.rows.lt; omega
      have HCS := Lib.hid hC
      clear e0 e1 e2 e3 ka hb hC
      have CE : Hid (∀ u, Kept (fun i => i = m) w3 u → u.cell? ⟨C, 0, none⟩ = some (.string r.name) ∧ u.cell? ⟨C, 1, none⟩ = some (.int .i64 r.kind) ∧ u.cell? ⟨C, 2, none⟩ = some (.int .i64 r.from_) ∧ u.cell? ⟨C, 3, none⟩ = some (.int .i64 r.to_)) := fun u k => ref_cells (k.blk HB.out HCm.out)
      have hl0 : Srt.look (N.take k) r.name = none := (Srt.has_false _ _).1 HNOT.out
      have HLK := Lib.hid (HR3.out.look r.name hsz hl0)
      clear hl0
      have KC : Hid (Kept noBlock w3 w3.drew) := Kept.drew _ _
      refine wp_region_noPanic ?_
      refine wp_region_held_drew (S := fun u => u.cell? ⟨C, 0, none⟩ = some (.string r.name) ∧ u.cell? ⟨C, 1, none⟩ = some (.int .i64 r.kind) ∧ u.cell? ⟨C, 2, none⟩ = some (.int .i64 r.from_) ∧ u.cell? ⟨C, 3, none⟩ = some (.int .i64 r.to_)) (by kernel_rfl) (CE.out _ (Kept.drew _ _)) (fun hHeld => ?_)
      refine wpAnyH_take (i := 0) (oi := ⟨some 14, Op.move (Operand.tmp 3), 73, _, _, none⟩) (v := ?v0n2k1) rfl (by kernel_rfl) (by kernel_rfl) (by kernel_rfl) (fun _ _ _ h => h) (Or.inl ⟨by rfl, ?y0n2k1⟩) hHeld ?z0n2k1
      case y0n2k1 => intro w hSw; (try dsimp only at hSw); go_simp <;> rfl
      try simp only [Act.put, List.setIfInBounds_toArray, List.set_cons_zero, List.set_cons_succ]
      refine wpAnyH_take (i := 1) (oi := ⟨some 15, Op.fieldAddr 37 (Operand.tmp 5) 0, 0, _, _, none⟩) (v := ?v1n2k2) rfl (by kernel_rfl) (by kernel_rfl) (by kernel_rfl) (fun _ _ _ h => h) (Or.inl ⟨by rfl, ?y1n2k2⟩) hHeld ?z1n2k2
      case y1n2k2 => intro w hSw; (try dsimp only at hSw); go_simp <;> rfl
      try simp only [Act.put, List.setIfInBounds_toArray, List.set_cons_zero, List.set_cons_succ]
      refine wpAnyH_take (i := 2) (oi := ⟨some 16, Op.load 9 (Operand.tmp 15), 9, _, _, none⟩) (v := ?v2n2k3) rfl (by kernel_rfl) (by kernel_rfl) (by kernel_rfl) (fun _ _ _ h => h) (Or.inl ⟨by rfl, ?y2n2k3⟩) hHeld ?z2n2k3
      case y2n2k3 => intro w hSw; (try dsimp only at hSw); go_simp <;> rfl
      try simp only [Act.put, List.setIfInBounds_toArray, List.set_cons_zero, List.set_cons_succ]
      refine wpAnyH_take (i := 3) (oi := ⟨some 17, Op.move (Operand.tmp 3), 73, _, _, none⟩) (v := ?v3n2k4) rfl (by kernel_rfl) (by kernel_rfl) (by kernel_rfl) (fun _ _ _ h => h) (Or.inl ⟨by rfl, ?y3n2k4⟩) hHeld ?z3n2k4
      case y3n2k4 => intro w hSw; (try dsimp only at hSw); go_simp <;> rfl
      try simp only [Act.put, List.setIfInBounds_toArray, List.set_cons_zero, List.set_cons_succ]
      refine wpAnyH_take (i := 4) (oi := ⟨some 18, Op.fieldAddr 37 (Operand.tmp 5) 0, 0, _, _, none⟩) (v := ?v4n2k5) rfl (by kernel_rfl) (by kernel_rfl) (by kernel_rfl) (fun _ _ _ h => h) (Or.inl ⟨by rfl, ?y4n2k5⟩) hHeld ?z4n2k5
      case y4n2k5 => intro w hSw; (try dsimp only at hSw); go_simp <;> rfl
      try simp only [Act.put, List.setIfInBounds_toArray, List.set_cons_zero, List.set_cons_succ]
      refine wpAnyH_take (i := 5) (oi := ⟨some 19, Op.load 9 (Operand.tmp 18), 9, _, _, none⟩) (v := ?v5n2k6) rfl (by kernel_rfl) (by kernel_rfl) (by kernel_rfl) (fun _ _ _ h => h) (Or.inl ⟨by rfl, ?y5n2k6⟩) hHeld ?z5n2k6
      case y5n2k6 => intro w hSw; (try dsimp only at hSw); go_simp <;> rfl
      try simp only [Act.put, List.setIfInBounds_toArray, List.set_cons_zero, List.set_cons_succ]
      refine wpAnyH_take (i := 7) (oi := ⟨some 21, Op.load 37 (Operand.tmp 5), 37, _, _, none⟩) (v := ?v7n2k7) rfl (by kernel_rfl) (by kernel_rfl) (by kernel_rfl) (fun _ _ _ h => h) (Or.inl ⟨by rfl, ?y7n2k7⟩) hHeld ?z7n2k7
      case y7n2k7 => intro w hSw; (try dsimp only at hSw); go_simp <;> rfl
      try simp only [Act.put, List.setIfInBounds_toArray, List.set_cons_zero, List.set_cons_succ]
      refine wpAnyH_ready (rs := [6, 8]) (by kernel_rfl) (by simp) ?_
      refine (AllReadyH.cons (o := ⟨some 20, Op.lookup 73 (Operand.tmp 17) (Operand.tmp 19) false, 25, _, _, none⟩) rfl (fun K hK => ?b6n2k9) (AllReadyH.cons (o := ⟨some 22, Op.buildSlice 25 1 #[(0, Operand.tmp 21)], 25, _, _, none⟩) rfl (fun K hK => ?b8n2k8) AllReadyH.nil))
      case b6n2k9 =>
        have hlk := HLK.out _ KC.out
        go_simp
        refine hK.out _ _ (CE.out _ KC.out.to) (fun hHeld => ?_)
        clear hK K
        try simp only [Act.put, List.setIfInBounds_toArray, List.set_cons_zero, List.set_cons_succ]
        refine wpAnyH_ready (rs := [8]) (by kernel_rfl) (by simp) ?_
        refine AllReadyH.cons (o := ⟨some 22, Op.buildSlice 25 1 #[(0, Operand.tmp 21)], 25, _, _, none⟩) rfl (fun K hK => ?_) AllReadyH.nil
        refine step_oneR r rfl ?_
        intro B8 u8 k8 h8 hB8
        have HB8 := Lib.hid h8
        replace KC := Lib.hid (KC.out.step k8)
        clear k8 h8 hB8
        refine hK.out _ _ (CE.out _ KC.out.to) (fun hHeld => ?_)
        clear hK K
        try simp only [Act.put, List.setIfInBounds_toArray, List.set_cons_zero, List.set_cons_succ]
        refine wpAnyH_ready (rs := [9]) (by kernel_rfl) (by simp) ?_
        refine AllReadyH.cons (o := ⟨some 23, Op.call { callee := Callee.builtin Builtin.append, args := #[Operand.tmp 20, Operand.tmp 22], argTypes := #[25, 25] }, 25, _, _, none⟩) rfl (fun K hK => ?_) AllReadyH.nil
        refine step_append_src rfl (.tmp 20) (.tmp 22) 25 25 rfl 37 noRef.val 4 40 Try.underlying25 Try.infoRef rfl (.slice none 0 0) 0 [] rfl (World.ownsRow_nil _ _ _ _) _ 1 (refCells [r]) rfl (src_ref r HB8.out) (by unfold maxLen; omega) (by omega) ?_
        intro A9 c9 u9 o9 k9 a9
        have k9' : Kept noBlock _ u9 := k9.mono (fun i _ h => by simp [Value.ownBlock] at h)
        have hm8 := Nat.lt_of_lt_of_le HR3.out.rows.lt KC.out.size
        replace KC := Lib.hid (KC.out.step k9')
        have L9 : Hid (Lies u9 (fun i => i ≠ m) A9 (refCells [r]) ∧ 1 ≤ c9) := by
          obtain ⟨_, _, e9, hle9⟩ := own_form o9
          injection e9 with _ _ e9
          refine ⟨Lies.of_rows (by simpa using o9) (fun i hi => ?_), by omega⟩
          rcases a9 i hi with h | h
          · simp [Value.ownBlock] at h
          · have h1 := h.1
            omega
        clear k9 k9' o9 a9
        refine hK.out _ _ (CE.out _ KC.out.to) (fun hHeld => ?_)
        clear hK K
        try simp only [Act.put, List.setIfInBounds_toArray, List.set_cons_zero, List.set_cons_succ]
        refine wpAnyH_ready (rs := [10]) (by kernel_rfl) (by simp) ?_
        refine AllReadyH.cons (o := ⟨none, Op.mapUpdate 73 (Operand.tmp 14) (Operand.tmp 16) (Operand.tmp 23), 0, _, _, none⟩) rfl (fun K hK => ?_) AllReadyH.nil
        obtain ⟨ub, uo, rfl, _, _⟩ := L9.out.1.norm (by simp [refCells, RefV.cells])
        obtain ⟨u10, hrun, hT, ku⟩ := (HR3.out.keep KC.out).put r.name hsz (some (ub, uo), (1, c9)) (N.take (k + 1)) r HNX.out ⟨rfl, L9.out.2, by have := L9.out.1; rw [refCells_one] at this; exact this⟩ (by unfold maxLen; omega)
        have hrun' : (Instr.mapUpdate 73 (.map (some m)) (.string r.name) (.slice (some ⟨ub, uo, none⟩) 1 c9)).run Try.prog _ = .ok () u10 := hrun
        have HT := Lib.hid hT
        have KU := Lib.hid (KC.out.to.step ku)
        clear hrun hT ku
        go_simp
        refine hK.out _ _ (CE.out _ KU.out) (fun hHeld => ?_)
        clear hK K
        try simp only [Act.put, List.setIfInBounds_toArray, List.set_cons_zero, List.set_cons_succ]
        refine wpAnyH_done (by kernel_rfl) ?_ _
        refine NoPanic.normal ?_
        clear hHeld hrun'
        go_wp2
        go_roundw
        case rel => exact ⟨k + 1, by omega, by go_num, HT, Lib.hid (HK3.out.step KU.out)⟩
        case measure => simp [intOf]; omega
      case b8n2k8 =>
        refine step_oneR r rfl ?_
        intro B8 u8 k8 h8 hB8
        have HB8 := Lib.hid h8
        replace KC := Lib.hid (KC.out.step k8)
        clear k8 h8 hB8
        refine hK.out _ _ (CE.out _ KC.out.to) (fun hHeld => ?_)
        clear hK K
        try simp only [Act.put, List.setIfInBounds_toArray, List.set_cons_zero, List.set_cons_succ]
        refine wpAnyH_ready (rs := [6]) (by kernel_rfl) (by simp) ?_
        refine AllReadyH.cons (o := ⟨some 20, Op.lookup 73 (Operand.tmp 17) (Operand.tmp 19) false, 25, _, _, none⟩) rfl (fun K hK => ?_) AllReadyH.nil
        have hlk := HLK.out _ KC.out
        go_simp
        refine hK.out _ _ (CE.out _ KC.out.to) (fun hHeld => ?_)
        clear hK K
        try simp only [Act.put, List.setIfInBounds_toArray, List.set_cons_zero, List.set_cons_succ]
        refine wpAnyH_ready (rs := [9]) (by kernel_rfl) (by simp) ?_
        refine AllReadyH.cons (o := ⟨some 23, Op.call { callee := Callee.builtin Builtin.append, args := #[Operand.tmp 20, Operand.tmp 22], argTypes := #[25, 25] }, 25, _, _, none⟩) rfl (fun K hK => ?_) AllReadyH.nil
        refine step_append_src rfl (.tmp 20) (.tmp 22) 25 25 rfl 37 noRef.val 4 40 Try.underlying25 Try.infoRef rfl (.slice none 0 0) 0 [] rfl (World.ownsRow_nil _ _ _ _) _ 1 (refCells [r]) rfl (src_ref r HB8.out) (by unfold maxLen; omega) (by omega) ?_
        intro A9 c9 u9 o9 k9 a9
        have k9' : Kept noBlock _ u9 := k9.mono (fun i _ h => by simp [Value.ownBlock] at h)
        have hm8 := Nat.lt_of_lt_of_le HR3.out.rows.lt KC.out.size
        replace KC := Lib.hid (KC.out.step k9')
        have L9 : Hid (Lies u9 (fun i => i ≠ m) A9 (refCells [r]) ∧ 1 ≤ c9) := by
          obtain ⟨_, _, e9, hle9⟩ := own_form o9
          injection e9 with _ _ e9
          refine ⟨Lies.of_rows (by simpa using o9) (fun i hi => ?_), by omega⟩
          rcases a9 i hi with h | h
          · simp [Value.ownBlock] at h
          · have h1 := h.1
            omega
        clear k9 k9' o9 a9
        refine hK.out _ _ (CE.out _ KC.out.to) (fun hHeld => ?_)
        clear hK K
        try simp only [Act.put, List.setIfInBounds_toArray, List.set_cons_zero, List.set_cons_succ]
        refine wpAnyH_ready (rs := [10]) (by kernel_rfl) (by simp) ?_
        refine AllReadyH.cons (o := ⟨none, Op.mapUpdate 73 (Operand.tmp 14) (Operand.tmp 16) (Operand.tmp 23), 0, _, _, none⟩) rfl (fun K hK => ?_) AllReadyH.nil
        obtain ⟨ub, uo, rfl, _, _⟩ := L9.out.1.norm (by simp [refCells, RefV.cells])
        obtain ⟨u10, hrun, hT, ku⟩ := (HR3.out.keep KC.out).put r.name hsz (some (ub, uo), (1, c9)) (N.take (k + 1)) r HNX.out ⟨rfl, L9.out.2, by have := L9.out.1; rw [refCells_one] at this; exact this⟩ (by unfold maxLen; omega)
        have hrun' : (Instr.mapUpdate 73 (.map (some m)) (.string r.name) (.slice (some ⟨ub, uo, none⟩) 1 c9)).run Try.prog _ = .ok () u10 := hrun
        have HT := Lib.hid hT
        have KU := Lib.hid (KC.out.to.step ku)
        clear hrun hT ku
        go_simp
        refine hK.out _ _ (CE.out _ KU.out) (fun hHeld => ?_)
        clear hK K
        try simp only [Act.put, List.setIfInBounds_toArray, List.set_cons_zero, List.set_cons_succ]
        refine wpAnyH_done (by kernel_rfl) ?_ _
        refine NoPanic.normal ?_
        clear hHeld hrun'
        go_wp2
        go_roundw
        case rel => exact ⟨k + 1, by omega, by go_num, HT, Lib.hid (HK3.out.step KU.out)⟩
        case measure => simp [intOf]; omega
    · obtain rfl : k = n := by omega
      have hR := HR.out
      rw [List.take_of_length_le (by have := HLEN.out; omega)] at hR
      have h1 := HK.out.blk HS.out (show ¬ (S = m) by have := HWM.out; omega)
      obtain ⟨c0, c1⟩ : wr.cell? ⟨S, 0, none⟩ = some (.slice A k c) ∧ wr.cell? ⟨S, 1, none⟩ = some (.int .i64 f) := ⟨cell_of_row _ _ _ _ _ _ h1, cell_of_row _ _ _ _ _ _ h1⟩
      have R : Hid (Ls (wr.alloc (.cells #[.map (some m), .int .i64 f] 75)) wr.heap.size m N f k) :=
        ⟨heap_alloc_new _ _, (hR.rows.only.mono (fun i hi => ⟨by have := hi.2; omega, hi.1⟩)).keep (Kept.alloc noBlock _ _) (fun h => h) (fun _ _ h => h)⟩
      have K : Hid (Kept noBlock w (wr.alloc (.cells #[.map (some m), .int .i64 f] 75))) := (K2.out.trans (HK.out.step (Kept.alloc _ _ _)) (fun i hi e => by have := HWS.out; have := HWM.out; omega))
      have Z : Hid (w.heap.size ≤ wr.heap.size ∧ w.heap.size ≤ m) := ⟨Nat.le_trans K2.out.size HK.out.size, by have := HWS.out; have := HWM.out; omega⟩
      clear hR h1
      go_wp2
      go_ret
      exact ⟨_, m, rfl, R.out, Z.out.1, Z.out.2, K.out⟩
end Go.Proofs.Ytollmkkbeeeccaa
