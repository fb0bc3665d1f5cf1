/-
  The contract of state.Get. No statement is proved here.
-/
import Derived.Test.YtgmjnjbmolalmaaBox7
namespace Go.Proofs.Ytgmjnjbmolalmaa
open Go.RowKit Tot

/-- What is told of a key. -/
def getV (ps : Prs) (k : ByteArray) : RepV := match Srt.look ps k with | none => told 6 | some v => ⟨0, v.1⟩

set_option maxRecDepth 100000 in
set_option maxHeartbeats 1000000 in
theorem get_any (F : Nat → Prop) (s : StV) (A : Option Addr) (c : Nat) (B : Option Addr) (d : Nat) (key : ByteArray) (w : World) (h : Sv w F s A c B d) (hs : s.Right) :
    Calls Try.prog 17 #[stv s A c B d, .string key] w fun en w' => en = .returned (getV s.pairs key).val ∧ Kept noBlock w w' := by
  obtain ⟨w1, hw1⟩ : ∃ w1, w1 = (w.alloc (.cells (scells s A c B d).toArray 33)).alloc (.cells (told 0).cells.toArray 44) := ⟨_, rfl⟩
  have k1 : Kept noBlock w w1 := by rw [hw1]; exact (Kept.alloc _ _ _).step (Kept.alloc _ _ _)
  have hb : w1.heap[w.heap.size]? = some (.cells (scells s A c B d).toArray 33 (0, 0)) := by rw [hw1]; exact (Kept.alloc noBlock _ _).blk (heap_alloc_new w _) (fun h => h)
  have hR : w1.heap[w.heap.size + 1]? = some (.cells (told 0).cells.toArray 44 (0, 0)) := by
    rw [hw1]
    exact heap_alloc_at (by simp)
  unfold scells RepV.cells told noText at hw1
  unfold scells at hb
  simp only at hw1
  have FIND := Lib.hid (PR.find_any F A s.pairs.length c s.pairs key w1 (h.lp.keep k1 (fun _ _ h => h)) rfl h.cp (by have := hs.len; omega) hs.up)
  have hup := hs.up
  have hcp := h.cp
  obtain ⟨n, hn⟩ : ∃ n, n = s.pairs.length := ⟨_, rfl⟩
  unfold stv
  rw [← hn] at hw1 hb FIND hcp ⊢
  obtain ⟨p, hp⟩ : ∃ p, p = Srt.pos s.pairs key := ⟨_, rfl⟩
  rw [← hp] at FIND
  obtain ⟨c0, c1, c2, c3⟩ := st_cells hb
  have K1 := Lib.hid k1
  have HB := Lib.hid hb
  have HR := Lib.hid hR
  have HL := Lib.hid h.lp
  have HU := Lib.hid hup
  have HN := Lib.hid hn
  have HP := Lib.hid hp
  clear k1 hb hR h hs hup hn hp
  unfold PR.ek at FIND
  go_enter Try.func17, Try.ntmps17
  go_upto_region 1 with (fail)
  rw [← hw1]
  clear hw1
  go_wp2_with fail
  refine FIND.out.mono ?_
  rintro e w2 ⟨rfl, k2⟩
  clear FIND
  have K2 := Lib.hid (K1.out.step k2)
  have HB2 := Lib.hid (k2.blk HB.out (fun h => h))
  have HR2 := Lib.hid (k2.blk HR.out (fun h => h))
  clear k2 c0 c1 c2 c3
  obtain ⟨c0, c1, c2, c3⟩ := st_cells HB2.out
  obtain ⟨r0, r1⟩ := rep_cells HR2.out
  have f0 : w2.frozen? ⟨w.heap.size + 1, 0, none⟩ = false := frozen_of_row _ _ _ _ _ HR2.out
  have f1 : w2.frozen? ⟨w.heap.size + 1, 1, none⟩ = false := frozen_of_row _ _ _ _ _ HR2.out
  cases hk : Srt.look s.pairs key with
  | none =>
    have hh : Srt.has s.pairs key = false := (Srt.has_false _ _).2 hk
    rw [hh]
    have E0 : Hid (getV s.pairs key = told 6) := by unfold Hid getV; rw [hk]
    have hbz := setR_block (x := told 0) (r := told 6) HR2.out
    have KZ : Hid (Kept noBlock w (setR w2 (w.heap.size + 1) (told 6))) := ((K2.out.mono (T := fun i => w.heap.size ≤ i) (fun _ _ h => h.elim)).trans (setR_kept w2 (w.heap.size + 1) (told 6)) (fun i _ h => by omega)).mono (fun i hi h => by omega)
    clear hk hh
    go_wp2
    change bodyPost _ _ _ _ _ (setR w2 (w.heap.size + 1) (told 6))
    generalize setR w2 (w.heap.size + 1) (told 6) = vz at hbz KZ ⊢
    obtain ⟨z0, z1⟩ := rep_cells hbz
    refine bodyPost_ret (v := RepV.val (told 6)) (by simp [results, Try.results17, go_sem, RepV.val, Try.isAgg44, Try.sizeOf44, z0, z1]) rfl ?_
    rw [E0.out]
    exact ⟨rfl, KZ.out⟩
  | some v =>
    have hh : Srt.has s.pairs key = true := (Srt.has_iff _ _).2 ⟨_, hk⟩
    obtain ⟨v', hat, hv'⟩ := Srt.has_at HU.out hh
    rw [hk] at hv'
    injection hv' with hv'
    subst hv'
    have hlt := Srt.has_lt HU.out hh
    rw [← HP.out, ← HN.out] at hlt
    rw [← HP.out] at hat
    rw [hh]
    obtain ⟨g, o, rfl, _, cv⟩ := (HL.out.keep K2.out (fun _ _ h => h)).elem PR.enc_len (by omega) hat
    have cv1 := cv 1 _ rfl
    simp only at cv1
    have E0 : Hid (getV s.pairs key = ⟨0, v.1⟩) := by unfold Hid getV; rw [hk]
    have hbz := setR_block (x := told 0) (r := ⟨0, v.1⟩) HR2.out
    have KZ : Hid (Kept noBlock w (setR w2 (w.heap.size + 1) ⟨0, v.1⟩)) := ((K2.out.mono (T := fun i => w.heap.size ≤ i) (fun _ _ h => h.elim)).trans (setR_kept w2 (w.heap.size + 1) ⟨0, v.1⟩) (fun i _ h => by omega)).mono (fun i hi h => by omega)
    clear hk hh cv hat
    go_wp2
    change bodyPost _ _ _ _ _ (setR w2 (w.heap.size + 1) ⟨0, v.1⟩)
    generalize setR w2 (w.heap.size + 1) ⟨0, v.1⟩ = vz at hbz KZ ⊢
    obtain ⟨z0, z1⟩ := rep_cells hbz
    refine bodyPost_ret (v := RepV.val ⟨0, v.1⟩) (by simp [results, Try.results17, go_sem, RepV.val, Try.isAgg44, Try.sizeOf44, z0, z1]) rfl ?_
    rw [E0.out]
    exact ⟨rfl, KZ.out⟩
end Go.Proofs.Ytgmjnjbmolalmaa
