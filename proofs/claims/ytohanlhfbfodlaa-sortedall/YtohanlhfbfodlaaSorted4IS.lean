/-
  A map whose keys rise: Len, Get, Put. No statement is proved here.
-/
import Derived.Test.YtohanlhfbfodlaaSortedIS
import Derived.Test.YtohanlhfbfodlaaSorted2IS
namespace Go.Proofs.Ytohanlhfbfodlaa.IS
open Go.RowKit Srt Tot

/-- The map at block m has the pairs L, in blocks of F. -/
structure MpR (w : World) (F : Nat → Prop) (m : Nat) (L : List (Int × List UInt8)) (A : Option Addr) (c : Nat) : Prop where
  blk : w.heap[m]? = some (.cells #[.slice A L.length c] 64 (0, 0))
  own : w.ownsRow 0 88 2 (.slice A L.length c) L.length (cells L)
  fm : F m
  fr : ∀ b, (Value.slice A L.length c).ownBlock = some b → F b
  lt : ∀ b, F b → b < w.heap.size
  up : Up L
  len : L.length ≤ 1048576
def Mp (w : World) (F : Nat → Prop) (m : Nat) (L : List (Int × List UInt8)) : Prop := ∃ A c, MpR w F m L A c
theorem ek_one (k : Int) : (ek k).oneCell' = true := rfl
theorem ev_one (v : List UInt8) : (ev v).oneCell' = true := rfl
theorem cells_one (L : List (Int × List UInt8)) : ∀ u ∈ cells L, u.oneCell' = true := by
  intro u hu
  unfold cells pcells at hu
  obtain ⟨p, _, hp⟩ := List.mem_flatMap.1 hu
  simp at hp
  rcases hp with rfl | rfl
  · exact ek_one _
  · exact ev_one _
theorem MpR.keep {S : Nat → Prop} {w w' : World} {F : Nat → Prop} {m : Nat} {L : List (Int × List UInt8)} {A : Option Addr} {c : Nat} (h : MpR w F m L A c) (k : Kept S w w') (hd : ∀ b, F b → ¬ S b) : MpR w' F m L A c :=
  ⟨k.blk h.blk (hd m h.fm), own_keep h.own k (fun b hb => hd b (h.fr b hb)), h.fm, h.fr, fun b hb => Nat.lt_of_lt_of_le (h.lt b hb) k.size, h.up, h.len⟩
theorem Mp.keep {S : Nat → Prop} {w w' : World} {F : Nat → Prop} {m : Nat} {L : List (Int × List UInt8)} (h : Mp w F m L) (k : Kept S w w') (hd : ∀ b, F b → ¬ S b) : Mp w' F m L := by
  obtain ⟨A, c, h⟩ := h
  exact ⟨A, c, h.keep k hd⟩
theorem Mp.kept {w w' : World} {F : Nat → Prop} {m : Nat} {L : List (Int × List UInt8)} (h : Mp w F m L) (k : Kept noBlock w w') : Mp w' F m L := h.keep k (fun _ _ h => h)
theorem Mp.up {w : World} {F : Nat → Prop} {m : Nat} {L : List (Int × List UInt8)} (h : Mp w F m L) : Up L := by obtain ⟨_, _, h⟩ := h; exact h.up
theorem Mp.len {w : World} {F : Nat → Prop} {m : Nat} {L : List (Int × List UInt8)} (h : Mp w F m L) : L.length ≤ 1048576 := by obtain ⟨_, _, h⟩ := h; exact h.len
theorem Mp.lt {w : World} {F : Nat → Prop} {m : Nat} {L : List (Int × List UInt8)} (h : Mp w F m L) : ∀ b, F b → b < w.heap.size := by obtain ⟨_, _, h⟩ := h; exact h.lt
theorem Mp.mono {w : World} {F G : Nat → Prop} {m : Nat} {L : List (Int × List UInt8)} (h : Mp w F m L) (hF : ∀ b, F b → G b) (hG : ∀ b, G b → b < w.heap.size) : Mp w G m L := by
  obtain ⟨A, c, h⟩ := h
  exact ⟨A, c, h.blk, h.own, hF _ h.fm, fun b hb => hF b (h.fr b hb), hG, h.up, h.len⟩
/-- A map that was just made. -/
theorem Mp.new {w : World} : Mp (w.alloc (.cells #[.slice none 0 0] 64)) (fun b => b = w.heap.size) w.heap.size [] :=
  ⟨none, 0, heap_alloc_new w _, World.ownsRow_nil _ _ _ _, rfl, fun b h => (by cases h), fun b h => (by subst h; simp), List.Pairwise.nil, Nat.zero_le _⟩
/-- What a call did that changed a map. -/
structure Did (F : Nat → Prop) (w w' : World) (m : Nat) (L : List (Int × List UInt8)) : Prop where
  kept : Kept F w w'
  map : Mp w' (fun b => F b ∨ fresh w w' b) m L

set_option maxRecDepth 100000 in
set_option maxHeartbeats 1000000 in
theorem len_any (F : Nat → Prop) (m : Nat) (L : List (Int × List UInt8)) (w : World) (h : Mp w F m L) :
    Calls Try.prog 25 #[.pointer (some ⟨m, 0, none⟩)] w fun e w' => e = .returned (.int .i64 (L.length : Nat)) ∧ w = w' := by
  obtain ⟨A, c, h⟩ := h
  have c0 : w.cell? ⟨m, 0, none⟩ = some (.slice A L.length c) := cell_of_row _ _ _ _ _ _ h.blk
  obtain ⟨n, hn⟩ : ∃ n, n = L.length := ⟨_, rfl⟩
  rw [← hn] at c0 ⊢
  clear h hn
  go_enter Try.func25, Try.ntmps25
  go_wp2
  go_ret
  exact ⟨rfl, rfl⟩

set_option maxRecDepth 100000 in
set_option maxHeartbeats 1000000 in
theorem get_any (F : Nat → Prop) (m : Nat) (L : List (Int × List UInt8)) (k : Int) (w : World) (h : Mp w F m L) :
    Calls Try.prog 27 #[.pointer (some ⟨m, 0, none⟩), ek k] w fun e w' => e = .returned (.tuple #[ev ((Srt.look L k).getD []), .bool (has L k)]) ∧ Kept noBlock w w' := by
  obtain ⟨A, c, h⟩ := h
  have c0 : w.cell? ⟨m, 0, none⟩ = some (.slice A L.length c) := cell_of_row _ _ _ _ _ _ h.blk
  have hnc : L.length ≤ c := by obtain ⟨_, _, e, hle⟩ := own_form h.own; injection e with _ _ e; omega
  have hn2 := h.len
  have HF := Lib.hid (find_any A L.length c L k w (Rowed.of_own h.own) rfl hnc (by omega) h.up)
  obtain ⟨n, hn⟩ : ∃ n, n = L.length := ⟨_, rfl⟩
  rw [← hn] at c0 HF hnc hn2
  have H := Lib.hid h; clear h
  have HN := Lib.hid hn; clear hn
  obtain ⟨kv, hkv⟩ : ∃ kv, kv = ek k := ⟨_, rfl⟩
  rw [← hkv] at HF ⊢
  clear hkv
  obtain ⟨p, hp⟩ : ∃ p, p = pos L k := ⟨_, rfl⟩
  rw [← hp] at HF
  have HP := Lib.hid hp; clear hp
  cases hh : has L k with
  | false =>
    have hl : Srt.look L k = none := (has_false L k).1 hh
    rw [hh] at HF
    rw [hl]
    clear hh hl
    go_enter Try.func27, Try.ntmps27
    go_wp2_with fail
    refine HF.out.mono ?_
    rintro e w1 ⟨rfl, k1⟩
    go_wp2
    go_ret2
    exact ⟨rfl, k1⟩
  | true =>
    obtain ⟨v, hv, hl⟩ := has_at H.out.up hh
    have hlt := has_lt H.out.up hh
    rw [← HP.out, ← HN.out] at hlt
    rw [hh] at HF
    rw [hl, Option.getD_some]
    obtain ⟨g, o, hA, _, cv⟩ := (Rowed.of_own H.out.own).pair hv
    rw [← HP.out] at cv
    subst hA
    obtain ⟨vv, hvv⟩ : ∃ vv, vv = ev v := ⟨_, rfl⟩
    have cv' : w.cell? ⟨g, o + p * 2 + 1, none⟩ = some vv := by rw [hvv]; exact cv
    rw [← hvv]
    clear hh hl hv cv hvv
    go_enter Try.func27, Try.ntmps27
    go_wp2_with fail
    refine HF.out.mono ?_
    rintro e w1 ⟨rfl, k1⟩
    have c1 := k1.cell c0 (fun h => h)
    have cv1 := k1.cell cv' (fun h => h)
    have K1 := Lib.hid k1
    clear k1 HF
    go_wp2
    go_ret2
    exact ⟨rfl, K1.out⟩

theorem MpR.put_at {w w' : World} {F : Nat → Prop} {m g c : Nat} {L : List (Int × List UInt8)} {k : Int} {v : List UInt8} (h : MpR w F m L (some ⟨g, 0, none⟩) c) (hh : has L k = true) (k1 : Kept noBlock w w') :
    Did F w (w'.setCell ⟨g, pos L k * 2 + 1, none⟩ (ev v)) m (put L k v) := by
  have h' := h.keep k1 (fun _ _ h => h)
  have hg : F g := h.fr g rfl
  have ks : Kept F w' (w'.setCell ⟨g, pos L k * 2 + 1, none⟩ (ev v)) := Kept.setCell w' (by exact hg) _
  have hlt := has_lt h.up hh
  have hmg : m ≠ g := fun e => own_ne h.own h.blk (by decide) (by rw [e]; rfl)
  have e1 : put L k v = L.set (pos L k) (k, v) := by unfold put; rw [if_pos hh]
  have hl : (put L k v).length = L.length := by rw [put_len, if_pos hh]; rfl
  obtain ⟨u, hk, _⟩ := has_at h.up hh
  refine ⟨(k1.mono (fun _ _ h => h.elim)).step ks, ⟨some ⟨g, 0, none⟩, c, ?_⟩⟩
  rw [e1] at hl ⊢
  refine ⟨?_, ?_, .inl h.fm, fun b hb => .inl ?_, fun b hb => ?_, ?_, by rw [hl]; exact h.len⟩
  · rw [heap_setCell_other _ _ _ _ (by exact hmg), hl]
    exact h'.blk
  · rcases h'.own.2 with ⟨e, _⟩ | ⟨g', cap, cur, e, _, hgg, hnc, hcm, hcs, htk⟩
    · cases e
    injection e with e _ ec
    injection e with e
    injection e with e
    subst e ec
    refine ⟨by unfold cells; rw [pcells_len], .inr ⟨g, c, cur.set! (pos L k * 2 + 1) (ev v), by rw [hl], Nat.zero_le _, ?_, by rw [hl]; exact hnc, hcm, by simpa using hcs, ?_⟩⟩
    · exact heap_setCell_same _ _ _ _ _ _ hgg
    · rw [hl]
      have hcl : cur.toList.length = c * 2 := by rw [Array.length_toList]; exact hcs
      have htk' : cur.toList.take (L.length * 2) = cells L := htk
      apply List.ext_getElem?
      intro j
      rw [List.getElem?_take]
      have hset : (cur.set! (pos L k * 2 + 1) (ev v)).toList[j]? = if pos L k * 2 + 1 = j then some (ev v) else cur.toList[j]? := by
        rw [Array.set!_eq_setIfInBounds, Array.toList_setIfInBounds, List.getElem?_set]
        split
        · rw [if_pos (by omega)]
        · rfl
      rw [hset]
      have hold : ∀ j, j < L.length * 2 → cur.toList[j]? = (cells L)[j]? := fun j hj => by
        rw [← htk', List.getElem?_take, if_pos hj]
      by_cases hj : j < L.length * 2
      · rw [if_pos hj]
        obtain ⟨q, r, hq, hr⟩ : ∃ q r, j = q * 2 + r ∧ r < 2 := ⟨j / 2, j % 2, by omega, by omega⟩
        have hql : q < L.length := by omega
        by_cases hqp : q = pos L k
        · subst hqp
          have hs : (L.set (pos L k) (k, v))[pos L k]? = some (k, v) := by rw [List.getElem?_set, if_pos rfl, if_pos hql]
          rcases (by omega : r = 0 ∨ r = 1) with rfl | rfl
          · rw [if_neg (by omega), hold j hj, hq]
            unfold cells
            rw [Nat.add_zero, pcells_key ek ev hs, pcells_key ek ev hk]
          · rw [if_pos hq.symm, hq]
            unfold cells
            rw [pcells_val ek ev hs]
        · have hs : (L.set (pos L k) (k, v))[q]? = some L[q] := by rw [List.getElem?_set, if_neg (Ne.symm hqp), List.getElem?_eq_getElem hql]
          rw [if_neg (by omega), hold j hj, hq]
          unfold cells
          rcases (by omega : r = 0 ∨ r = 1) with rfl | rfl
          · rw [Nat.add_zero, pcells_key ek ev hs, pcells_key ek ev (List.getElem?_eq_getElem hql)]
          · rw [pcells_val ek ev hs, pcells_val ek ev (List.getElem?_eq_getElem hql)]
      · rw [if_neg hj, List.getElem?_eq_none (by unfold cells; rw [pcells_len, hl]; omega)]
  · have : g = b := by simpa [Value.ownBlock] using hb
    rw [← this]; exact hg
  · have := k1.size
    have h9 : (w'.setCell ⟨g, pos L k * 2 + 1, none⟩ (ev v)).heap.size = w'.heap.size := by simp [World.setCell]
    rcases hb with hb | hb
    · have := h.lt b hb; omega
    · exact hb.2
  · rw [← e1]; exact up_put h.up k v

theorem cells_ins (L : List (Int × List UInt8)) (k : Int) (v : List UInt8) (hh : has L k = false) : cells (put L k v) = (cells L).take (pos L k * 2) ++ (ek k :: ev v :: (cells L).drop (pos L k * 2)) := by
  unfold put cells
  rw [if_neg (by rw [hh]; simp), pcells_append, pcells_cons, pcells_take, pcells_drop]

theorem MpR.put_new {w w2 : World} {F : Nat → Prop} {m c c' : Nat} {A A' : Option Addr} {L : List (Int × List UInt8)} {k : Int} {v : List UInt8} (h : MpR w F m L A c) (hh : has L k = false) (hl : L.length < 1048576)
    (o : w2.ownsRow 0 88 2 (.slice A' (L.length + 1) c') (L.length + 1) ((cells L).take (pos L k * 2) ++ (ek k :: ev v :: (cells L).drop (pos L k * 2)))) (g : Grew w w2 (.slice A L.length c) (.slice A' (L.length + 1) c')) :
    w2.cell? ⟨m, 0, none⟩ = some (.slice A L.length c) ∧ w2.frozen? ⟨m, 0, none⟩ = false ∧ Did F w (w2.setCell ⟨m, 0, none⟩ (.slice A' (L.length + 1) c')) m (put L k v) := by
  have hb := g.kept.blk h.blk (own_ne h.own h.blk (by decide))
  have hbm := hb
  have hpl : (put L k v).length = L.length + 1 := by rw [put_len, if_neg (by rw [hh]; simp)]
  have ks : Kept (fun b => b = m) w2 (w2.setCell ⟨m, 0, none⟩ (.slice A' (L.length + 1) c')) := Kept.setCell w2 (by rfl) _
  refine ⟨cell_of_row _ _ _ _ _ _ hb, frozen_of_row _ _ _ _ _ hb, ⟨(g.kept.mono (fun b _ hb => h.fr b hb)).step (ks.mono (fun b _ e => by rw [e]; exact h.fm)), A', c', ?_⟩⟩
  rw [← cells_ins L k v hh] at o
  refine ⟨?_, ?_, .inl h.fm, fun b hb => ?_, fun b hb => ?_, up_put h.up k v, by omega⟩
  · rw [hpl]
    have := heap_setCell_same w2 m 0 _ 64 (.slice A' (L.length + 1) c') hb
    simpa using this
  · rw [hpl]
    exact own_keep o ks (fun b hb e => own_ne o hbm (by decide) (e ▸ hb))
  · rw [hpl] at hb
    rcases g.at_ b hb with h1 | h1
    · exact .inl (h.fr b h1)
    · exact .inr ⟨h1.1, by simpa [World.setCell] using h1.2⟩
  · have h9 : (w2.setCell ⟨m, 0, none⟩ (.slice A' (L.length + 1) c')).heap.size = w2.heap.size := by simp [World.setCell]
    rcases hb with hb | hb
    · have := h.lt b hb
      have := g.kept.size
      omega
    · exact hb.2

set_option maxRecDepth 100000 in
set_option maxHeartbeats 1000000 in
theorem put_any (F : Nat → Prop) (m : Nat) (L : List (Int × List UInt8)) (k : Int) (v : List UInt8) (w : World) (h : Mp w F m L) (hlen : L.length < 1048576) :
    Calls Try.prog 24 #[.pointer (some ⟨m, 0, none⟩), ek k, ev v] w fun e w' => e = .returned (.bool (!has L k)) ∧ Did F w w' m (put L k v) := by
  obtain ⟨A, c, h⟩ := h
  have c0 : w.cell? ⟨m, 0, none⟩ = some (.slice A L.length c) := cell_of_row _ _ _ _ _ _ h.blk
  have hnc : L.length ≤ c := by obtain ⟨_, _, e, hle⟩ := own_form h.own; injection e with _ _ e; omega
  have HF := Lib.hid (find_any A L.length c L k w (Rowed.of_own h.own) rfl hnc (by omega) h.up)
  have hpl := pos_le L k
  obtain ⟨n, hn⟩ : ∃ n, n = L.length := ⟨_, rfl⟩
  rw [← hn] at c0 HF hnc hlen hpl
  have H := Lib.hid h; clear h
  have HN := Lib.hid hn; clear hn
  obtain ⟨kv, hkv⟩ : ∃ kv, kv = ek k := ⟨_, rfl⟩
  have hk1 := ek_one k
  rw [← hkv] at HF hk1 ⊢
  have HK := Lib.hid hkv; clear hkv
  obtain ⟨vv, hvv⟩ : ∃ vv, vv = ev v := ⟨_, rfl⟩
  have hv1 := ev_one v
  rw [← hvv] at hv1 ⊢
  have HV := Lib.hid hvv; clear hvv
  obtain ⟨p, hp⟩ : ∃ p, p = pos L k := ⟨_, rfl⟩
  rw [← hp] at HF hpl
  have HP := Lib.hid hp; clear hp
  cases hh : has L k with
  | true =>
    obtain ⟨u, hu, _⟩ := has_at H.out.up hh
    have hlt := has_lt H.out.up hh
    rw [← HP.out, ← HN.out] at hlt
    rw [hh] at HF
    obtain ⟨g, o, hA, _, cv⟩ := (Rowed.of_own H.out.own).pair hu
    have ho : o = 0 := by
      rcases H.out.own.2 with ⟨e, _⟩ | ⟨g', cap, cur, e, _⟩
      · rw [hA] at e; cases e
      · rw [hA] at e
        injection e with e
        injection e with e
        injection e
    subst hA ho
    have hrow : ∃ cs, w.heap[g]? = some (.cells cs 88 (0, 0)) := by
      rcases H.out.own.2 with ⟨e, _⟩ | ⟨g', cap, cur, e, _, hgg, _⟩
      · cases e
      · injection e with e
        injection e with e
        injection e with e
        subst e
        exact ⟨_, hgg⟩
    obtain ⟨cs, hrow⟩ := hrow
    have HR := Lib.hid hrow; clear hrow
    rw [← HP.out, Nat.zero_add] at cv
    generalize ev u = uv at cv
    have HH := Lib.hid hh; clear hh hu
    rw [HV.out]
    clear HV hv1
    have FIN : Hid (∀ w1, Kept noBlock w w1 → Did F w (w1.setCell ⟨g, p * 2 + 1, none⟩ (ev v)) m (put L k v)) := Lib.hid (by intro w1 k1; rw [HP.out]; exact H.out.put_at HH.out k1)
    unfold ev at *
    go_enter Try.func24, Try.ntmps24
    go_wp2_with fail
    refine HF.out.mono ?_
    rintro e w1 ⟨rfl, k1⟩
    have c1 := k1.cell c0 (fun h => h)
    have cv1 := k1.cell cv (fun h => h)
    have f1 : w1.frozen? ⟨g, p * 2 + 1, none⟩ = false := frozen_of_row _ _ _ _ _ (k1.blk HR.out (fun h => h))
    have F1 := Lib.hid (FIN.out w1 k1)
    clear k1 HF HR FIN
    go_wp2
    go_ret
    exact ⟨rfl, F1.out⟩
  | false =>
    rw [hh] at HF
    have HH := Lib.hid hh; clear hh
    rw [HK.out] at HF
    rw [HK.out, HV.out]
    clear HK HV hk1 hv1
    have hk1 := ek_one k
    have hv1 := ev_one v
    have FIN : Hid (∀ w1 w2 A' c', Kept noBlock w w1 → w2.ownsRow 0 88 2 (.slice A' (n + 1) c') (n + 1) ((cells L).take (p * 2) ++ (ek k :: ev v :: (cells L).drop (p * 2))) → Grew (w1.alloc (.cells #[ek k, ev v] 88)) w2 (.slice A n c) (.slice A' (n + 1) c') →
        w2.cell? ⟨m, 0, none⟩ = some (.slice A n c) ∧ w2.frozen? ⟨m, 0, none⟩ = false ∧ Did F w (w2.setCell ⟨m, 0, none⟩ (.slice A' (n + 1) c')) m (put L k v)) := Lib.hid (by
      intro w1 w2 A' c' k1 o2 g2
      have g3 := Grew.after (k1.step (Kept.alloc noBlock w1 _)) g2
      rw [HP.out] at o2
      rw [HN.out] at o2 g3
      rw [HN.out]
      exact H.out.put_new HH.out (by rw [← HN.out]; exact hlen) o2 g3)
    have INS : Hid (∀ w1, Kept noBlock w w1 → Calls Try.prog 42 #[.slice A n c, .int .i64 (p : Int), .slice (some ⟨w1.heap.size, 0, none⟩) 1 1] (w1.alloc (.cells #[ek k, ev v] 88)) fun e w' => ∃ A' c', e = .returned (.slice A' (n + 1) c') ∧
        w'.ownsRow 0 88 2 (.slice A' (n + 1) c') (n + 1) ((cells L).take (p * 2) ++ (ek k :: ev v :: (cells L).drop (p * 2))) ∧ Grew (w1.alloc (.cells #[ek k, ev v] 88)) w' (.slice A n c) (.slice A' (n + 1) c')) := Lib.hid (by
      intro w1 k1
      have ho := own_keep H.out.own (k1.step (Kept.alloc noBlock w1 (.cells #[ek k, ev v] 88))) (fun _ _ h => h)
      rw [← HN.out] at ho
      refine ins_any A n c p w1.heap.size (cells L) (ek k) (ev v) _ ho (cells_one L) hpl (by omega) (heap_alloc_new _ _) (fun e => ?_) hk1 hv1
      have := own_lt H.out.own _ (by rw [← HN.out]; exact e)
      have := k1.size
      omega)
    unfold ek ev at *
    go_enter Try.func24, Try.ntmps24
    go_wp2_with fail
    refine HF.out.mono ?_
    rintro e w1 ⟨rfl, k1⟩
    have c1 := k1.cell c0 (fun h => h)
    clear HF c0
    go_wp2_with fail
    refine (INS.out w1 k1).mono ?_
    rintro e w2 ⟨A', c', rfl, o2, g2⟩
    obtain ⟨c2, f2, d2⟩ := FIN.out w1 w2 A' c' k1 o2 g2
    have D2 := Lib.hid d2
    clear d2 o2 g2 k1 FIN INS
    go_wp2
    go_ret
    exact ⟨rfl, D2.out⟩
/-- The same of a map whose blocks lie from a place on. -/
def Own (base : Nat) (W : World) (m : Nat) (L : List (Int × List UInt8)) : Prop := ∃ F, Mp W F m L ∧ ∀ b, F b → base ≤ b
theorem Own.keep {S : Nat → Prop} {base : Nat} {w w' : World} {m : Nat} {L : List (Int × List UInt8)} (h : Own base w m L) (k : Kept S w w') (hd : ∀ b, base ≤ b → b < w.heap.size → ¬ S b) : Own base w' m L := by
  obtain ⟨F, h, hF⟩ := h
  exact ⟨F, h.keep k (fun b hb => hd b (hF b hb) (h.lt b hb)), hF⟩
theorem Own.kept {base : Nat} {w w' : World} {m : Nat} {L : List (Int × List UInt8)} (h : Own base w m L) (k : Kept noBlock w w') : Own base w' m L := h.keep k (fun _ _ _ h => h)
theorem Own.up {base : Nat} {w : World} {m : Nat} {L : List (Int × List UInt8)} (h : Own base w m L) : Up L := by obtain ⟨F, h, _⟩ := h; exact h.up
theorem Own.put {base : Nat} {w : World} {m : Nat} {L : List (Int × List UInt8)} (h : Own base w m L) (k : Int) (v : List UInt8) (hlen : L.length < 1048576) (hb : base ≤ w.heap.size) :
    Calls Try.prog 24 #[.pointer (some ⟨m, 0, none⟩), ek k, ev v] w fun e w' => e = .returned (.bool (!has L k)) ∧ Own base w' m (put L k v) ∧ Kept (fun b => base ≤ b) w w' := by
  obtain ⟨F, h, hF⟩ := h
  refine (put_any F m L k v w h hlen).mono ?_
  rintro e w' ⟨rfl, d⟩
  exact ⟨rfl, ⟨_, d.map, fun b hb' => hb'.elim (hF b) (fun h1 => Nat.le_trans hb h1.1)⟩, d.kept.mono (fun b _ => hF b)⟩
theorem Own.get {base : Nat} {w : World} {m : Nat} {L : List (Int × List UInt8)} (h : Own base w m L) (k : Int) :
    Calls Try.prog 27 #[.pointer (some ⟨m, 0, none⟩), ek k] w fun e w' => e = .returned (.tuple #[ev ((Srt.look L k).getD []), .bool (has L k)]) ∧ Kept noBlock w w' := by
  obtain ⟨F, h, _⟩ := h
  exact get_any F m L k w h
theorem Own.size {base : Nat} {w : World} {m : Nat} {L : List (Int × List UInt8)} (h : Own base w m L) :
    Calls Try.prog 25 #[.pointer (some ⟨m, 0, none⟩)] w fun e w' => e = .returned (.int .i64 (L.length : Nat)) ∧ w = w' := by
  obtain ⟨F, h, _⟩ := h
  exact len_any F m L w h
theorem Own.new {base : Nat} {w : World} (hb : base ≤ w.heap.size) : Own base (w.alloc (.cells #[.slice none 0 0] 64)) w.heap.size [] := ⟨_, Mp.new, fun b h => by subst h; exact hb⟩
end Go.Proofs.Ytohanlhfbfodlaa.IS
