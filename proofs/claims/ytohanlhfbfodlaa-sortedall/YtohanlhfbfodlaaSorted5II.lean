/-
  A map whose keys rise: Del. No statement is proved here.
-/
import Derived.Test.YtohanlhfbfodlaaSorted3II
import Derived.Test.YtohanlhfbfodlaaSorted4II
namespace Go.Proofs.Ytohanlhfbfodlaa.II
open Go.RowKit Srt Tot

theorem cells_del (L : List (Int × Int)) (k : Int) (hh : has L k = true) : cells (Srt.del L k) = (cells L).take (pos L k * 2) ++ (cells L).drop ((pos L k + 1) * 2) := by
  unfold Srt.del cells
  rw [if_pos hh, pcells_append, pcells_take, pcells_drop]

theorem MpR.del_at {w w1 w2 : World} {F : Nat → Prop} {m c : Nat} {A : Option Addr} {L : List (Int × Int)} {k : Int} (h : MpR w F m L A c) (hh : has L k = true) (k1 : Kept noBlock w w1)
    (o : w2.ownsRow 0 73 2 (.slice A (L.length - 1) c) (L.length - 1) ((cells L).take (pos L k * 2) ++ (cells L).drop ((pos L k + 1) * 2))) (g : Kept (fun b => (Value.slice A L.length c).ownBlock = some b) w1 w2) :
    w2.cell? ⟨m, 0, none⟩ = some (.slice A L.length c) ∧ w2.frozen? ⟨m, 0, none⟩ = false ∧ Did F w (w2.setCell ⟨m, 0, none⟩ (.slice A (L.length - 1) c)) m (Srt.del L k) := by
  have h1 := h.keep k1 (fun _ _ h => h)
  have hb := g.blk h1.blk (own_ne h1.own h1.blk (by decide))
  have hbm := hb
  have hdl : (Srt.del L k).length = L.length - 1 := by rw [del_len h.up, if_pos hh]
  have ks : Kept (fun b => b = m) w2 (w2.setCell ⟨m, 0, none⟩ (.slice A (L.length - 1) c)) := Kept.setCell w2 (by rfl) _
  refine ⟨cell_of_row _ _ _ _ _ _ hb, frozen_of_row _ _ _ _ _ hb, ⟨(k1.mono (fun _ _ h => h.elim)).step ((g.mono (fun b _ hb => h.fr b hb)).step (ks.mono (fun b _ e => by rw [e]; exact h.fm))), A, c, ?_⟩⟩
  rw [← cells_del L k hh] at o
  refine ⟨?_, ?_, .inl h.fm, fun b hb => ?_, fun b hb => ?_, up_del h.up k, by have := h.len; omega⟩
  · rw [hdl]
    have := heap_setCell_same w2 m 0 _ 27 (.slice A (L.length - 1) c) hb
    simpa using this
  · rw [hdl]
    exact own_keep o ks (fun b hb e => own_ne o hbm (by decide) (e ▸ hb))
  · rw [hdl] at hb
    exact .inl (h.fr b (by cases A <;> exact hb))
  · have h9 : (w2.setCell ⟨m, 0, none⟩ (.slice A (L.length - 1) c)).heap.size = w2.heap.size := by simp [World.setCell]
    rcases hb with hb | hb
    · have := h.lt b hb
      have := k1.size
      have := g.size
      omega
    · exact hb.2

set_option maxRecDepth 100000 in
set_option maxHeartbeats 1000000 in
theorem mdel_any (F : Nat → Prop) (m : Nat) (L : List (Int × Int)) (k : Int) (w : World) (h : Mp w F m L) :
    Calls Try.prog 13 #[.pointer (some ⟨m, 0, none⟩), ek k] w fun e w' => e = .returned (.bool (has L k)) ∧ Did F w w' m (Srt.del L k) := by
  have hM := h
  obtain ⟨A, c, h⟩ := h
  have c0 : w.cell? ⟨m, 0, none⟩ = some (.slice A L.length c) := cell_of_row _ _ _ _ _ _ h.blk
  have hnc : L.length ≤ c := by obtain ⟨_, _, e, hle⟩ := own_form h.own; injection e with _ _ e; omega
  have hn2 := h.len
  have HF := Lib.hid (find_any A L.length c L k w (Rowed.of_own h.own) rfl hnc (by omega) h.up)
  have hlt : has L k = true → pos L k < L.length := fun hh => has_lt h.up hh
  obtain ⟨n, hn⟩ : ∃ n, n = L.length := ⟨_, rfl⟩
  rw [← hn] at c0 HF hnc hn2 hlt
  have H := Lib.hid h; clear h
  have HN := Lib.hid hn; clear hn
  generalize ek k = kv at HF ⊢
  obtain ⟨p, hp⟩ : ∃ p, p = pos L k := ⟨_, rfl⟩
  rw [← hp] at HF hlt
  have HP := Lib.hid hp; clear hp
  cases hh : has L k with
  | false =>
    rw [hh] at HF
    have e : Srt.del L k = L := by unfold Srt.del; rw [if_neg (by rw [hh]; simp)]
    rw [e]
    clear hlt e hh
    have HM := Lib.hid hM; clear hM
    go_enter Try.func13, Try.ntmps13
    go_wp2_with fail
    refine HF.out.mono ?_
    rintro e w1 ⟨rfl, k1⟩
    go_wp2
    go_ret
    exact ⟨rfl, k1.mono (fun _ _ h => h.elim), (HM.out.kept k1).mono (fun _ h => .inl h) (fun b hb => hb.elim (fun h => Nat.lt_of_lt_of_le (HM.out.lt b h) k1.size) (fun h => h.2))⟩
  | true =>
    rw [hh] at HF
    have hlt := hlt hh
    have HH := Lib.hid hh; clear hh hM
    have DEL : Hid (∀ w1, Kept noBlock w w1 → Calls Try.prog 30 #[.slice A n c, .int .i64 (p : Int), .int .i64 ((p : Int) + 1)] w1 fun e w2 => e = .returned (.slice A (n - 1) c) ∧
        w2.cell? ⟨m, 0, none⟩ = some (.slice A n c) ∧ w2.frozen? ⟨m, 0, none⟩ = false ∧ Did F w (w2.setCell ⟨m, 0, none⟩ (.slice A (n - 1) c)) m (Srt.del L k)) := Lib.hid (by
      intro w1 k1
      have ho := own_keep H.out.own k1 (fun _ _ h => h)
      rw [← HN.out] at ho
      refine (del_any A n c p (cells L) w1 ho (cells_one L) hlt (by omega)).mono ?_
      rintro e w2 ⟨rfl, o2, k2⟩
      refine ⟨rfl, ?_⟩
      rw [HP.out] at o2
      rw [HN.out] at o2 k2 ⊢
      exact H.out.del_at HH.out k1 o2 k2)
    clear HP HN
    go_enter Try.func13, Try.ntmps13
    go_wp2_with fail
    refine HF.out.mono ?_
    rintro e w1 ⟨rfl, k1⟩
    have c1 := k1.cell c0 (fun h => h)
    clear HF c0
    go_wp2_with fail
    refine (DEL.out w1 k1).mono ?_
    rintro e w2 ⟨rfl, c2, f2, d2⟩
    have D2 := Lib.hid d2
    clear d2 k1 DEL
    go_wp2
    go_ret
    exact ⟨rfl, D2.out⟩
end Go.Proofs.Ytohanlhfbfodlaa.II
