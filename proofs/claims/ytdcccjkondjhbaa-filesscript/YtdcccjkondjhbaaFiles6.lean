/-
  A disk's methods, sixth part: Cut, SyncDir, Rename and Remove. No statement is proved here.
-/
import Derived.Test.YtdcccjkondjhbaaFiles5
namespace Go.Proofs.Ytdcccjkondjhbaa
open Go.RowKit Go.Maps

theorem str_beq (p q : List UInt8) : ((str p).toList == (str q).toList) = decide (p = q) := by
  rw [ByteArray.toList_eq, ByteArray.toList_eq]
  unfold str
  simp only
  by_cases h : p = q <;> simp [h]

set_option maxRecDepth 100000 in
set_option maxHeartbeats 2000000 in
theorem cut_any (F : Nat → Prop) (d : Nat) (S : St) (s : List UInt8) (n : Int) (w : World) (h : Dk w F d S) (hs : s.length ≤ maxLen) (hc : S.calls < 1000000) :
    Calls Try.prog 25 #[.pointer (some ⟨d, 0, none⟩), .string (str s), .int .i64 n] w fun e w' => e = .returned (.int .i64 ((S.cut s n).1 : Int)) ∧ Did F w w' d (S.cut s n).2 := by
  obtain ⟨mc, ms, A, c, R, h⟩ := h
  have hf := find_any F d S s mc ms A c R w h hs
  have H := Lib.hid h
  clear h
  unfold St.find at hf
  unfold St.cut St.on
  cases hd : S.down with
  | true =>
    rw [hd, if_pos rfl] at hf
    rw [if_pos rfl]
    clear hd
    go_enter Try.func25, Try.ntmps25
    go_wp2_with fail
    refine hf.mono ?_
    rintro e w1 ⟨rfl, rfl⟩
    clear hf
    go_wp2
    go_ret
    exact ⟨rfl, Did.same H.out.dk⟩
  | false =>
    rw [hd, if_neg (by simp)] at hf
    rw [if_neg (by simp)]
    cases hl : Dir.look S.cur s with
    | none =>
      rw [hl] at hf
      clear hl hd
      go_enter Try.func25, Try.ntmps25
      go_wp2_with fail
      refine hf.mono ?_
      rintro e w1 ⟨rfl, rfl⟩
      clear hf
      go_wp2
      go_ret
      exact ⟨rfl, Did.same H.out.dk⟩
    | some f =>
      rw [hl] at hf
      obtain ⟨l, hfl⟩ := Option.isSome_iff_exists.1 (H.out.ok.cur_fl _ (Dir.mem_of_look hl))
      have HFL := Lib.hid hfl
      have hfil := Lib.hid (H.out.fil f l hfl)
      have hbl := (H.out.ok.fl_len f l hfl).1
      have hsl := (H.out.ok.fl_len f l hfl).2
      have hvl := H.out.ok.vol_le
      have q0 : w.cell? ⟨f, 0, none⟩ = some (.slice (R f).1 l.data.length (R f).2) := cell_of_row _ _ _ _ _ _ hfil.out.blk
      have hf' : Calls Try.prog 33 #[.pointer (some ⟨d, 0, none⟩), .string (str s)] w fun e w' => e = .returned (.tuple #[.pointer (some ⟨f, 0, none⟩), .int .i64 0]) ∧ w = w' := hf
      have HFe := Lib.hid (file_eq hfl)
      clear hf hl hd hfl
      simp only
      have hcnt := count_any F d S mc ms A c R w H.out hc
      unfold St.cutAt
      rw [HFe.out]
      obtain ⟨m, hm⟩ : ∃ m, m = l.data.length := ⟨_, rfl⟩
      rw [← hm] at q0 hsl hbl ⊢
      have HM := Lib.hid hm; clear hm
      by_cases hneg : n < 0
      · rw [if_pos (.inl hneg)]
        clear hcnt
        go_enter Try.func25, Try.ntmps25
        go_wp2_with fail
        refine hf'.mono ?_
        rintro e w1 ⟨rfl, rfl⟩
        clear hf'
        go_wp2
        go_ret
        exact ⟨rfl, Did.same H.out.dk⟩
      · obtain ⟨j, rfl⟩ : ∃ j : Nat, n = (j : Int) := ⟨n.toNat, by omega⟩
        by_cases hbig : m < j
        · rw [if_pos (.inr (by omega))]
          clear hcnt hneg
          go_enter Try.func25, Try.ntmps25
          go_wp2_with fail
          refine hf'.mono ?_
          rintro e w1 ⟨rfl, rfl⟩
          clear hf'
          go_wp2
          go_ret
          exact ⟨rfl, Did.same H.out.dk⟩
        · rw [if_neg (by omega)]
          clear hneg
          rcases S.count_err with he | he
          · rw [he, if_pos rfl]
            rw [he] at hcnt
            go_enter Try.func25, Try.ntmps25
            go_wp2_with fail
            refine hf'.mono ?_
            rintro e w1 ⟨rfl, rfl⟩
            clear hf'
            go_wp2_with fail
            refine hcnt.mono ?_
            rintro e w1 ⟨rfl, h1, k1⟩
            have hfl1 : S.count.2.fl f = some l := by rw [S.count_fl]; exact HFL.out
            have hfil1 := h1.fil f l hfl1
            clear hcnt q0
            go_wp2_with fail
            refine (fkeep_any f (R f) l j w1 hfil1 (by rw [← HM.out]; omega) (by rw [← HM.out]; exact hsl)).mono ?_
            rintro e w2 ⟨rfl, h2, k2, _⟩
            have hv : S.count.2.vol ≤ 1000000000 := by rw [S.count_vol]; exact hvl
            have dd := h1.fileDid hfl1 (r := R f) (k2.mono (fun i _ e => .inl e)) h2 (fun k hk => .inl hk) (Nat.le_refl _) hv (by rw [S.count_vol]; simp only [Fl.keep, List.length_take]; rw [← HM.out]; omega) (by simp only [Fl.keep, List.length_take]; rw [← HM.out]; omega)
            have HD := Lib.hid ((h1.did k1 (fun i e => e ▸ h1.fd)).seq dd)
            clear dd h2 k2 hfil1 h1 k1 hfl1
            go_wp2
            go_ret
            exact ⟨rfl, HD.out⟩
          · rw [he, if_neg (by simp), he]
            rw [he] at hcnt
            go_enter Try.func25, Try.ntmps25
            go_wp2_with fail
            refine hf'.mono ?_
            rintro e w1 ⟨rfl, rfl⟩
            clear hf'
            go_wp2_with fail
            refine hcnt.mono ?_
            rintro e w1 ⟨rfl, h1, k1⟩
            have HD := Lib.hid (h1.did k1 (fun i e => e ▸ h1.fd))
            clear h1 k1 hcnt
            go_wp2
            go_ret
            exact ⟨rfl, HD.out⟩

set_option maxRecDepth 100000 in
set_option maxHeartbeats 2000000 in
theorem syncdir_any (F : Nat → Prop) (d : Nat) (S : St) (w : World) (h : Dk w F d S) (hc : S.calls < 1000000) :
    Calls Try.prog 19 #[.pointer (some ⟨d, 0, none⟩)] w fun e w' => e = .returned (.int .i64 (S.syncDir.1 : Int)) ∧ Did F w w' d S.syncDir.2 := by
  obtain ⟨mc, ms, A, c, R, h⟩ := h
  have hb := h.blk
  unfold dcells at hb
  have c7 : w.cell? ⟨d, 7, none⟩ = some (.bool S.down) := cell_of_row _ _ _ _ _ _ hb
  have H := Lib.hid h
  clear h hb
  unfold St.syncDir
  cases hd : S.down with
  | true =>
    rw [hd] at c7
    rw [if_pos rfl]
    clear hd
    go_enter Try.func19, Try.ntmps19
    go_wp2
    go_ret
    exact ⟨rfl, Did.same H.out.dk⟩
  | false =>
    rw [hd] at c7
    rw [if_neg (by simp)]
    clear hd
    have hcnt := count_any F d S mc ms A c R w H.out hc
    rcases S.count_err with he | he
    · rw [he, if_pos rfl]
      rw [he] at hcnt
      go_enter Try.func19, Try.ntmps19
      go_wp2_with fail
      refine hcnt.mono ?_
      rintro e w1 ⟨rfl, h1, k1⟩
      have hb1 := h1.blk
      have e1 : w1.cell? ⟨d, 1, none⟩ = some (.map mc) := cell_of_row _ _ _ _ _ _ hb1
      have e2 : w1.cell? ⟨d, 2, none⟩ = some (.map ms) := cell_of_row _ _ _ _ _ _ hb1
      have e3 : w1.cell? ⟨d, 3, none⟩ = some (.slice A S.count.2.pend.length c) := cell_of_row _ _ _ _ _ _ hb1
      have f2 : w1.frozen? ⟨d, 2, none⟩ = false := frozen_of_row _ _ _ _ _ hb1
      have f3 : w1.frozen? ⟨d, 3, none⟩ = false := frozen_of_row _ _ _ _ _ hb1
      have k2 : Kept (fun i => i = d) w1 ((w1.setCell ⟨d, 2, none⟩ (.map mc)).setCell ⟨d, 3, none⟩ (.slice none 0 0)) := (Kept.setCell (S := fun i => i = d) w1 (by rfl) _).step (Kept.setCell _ (by rfl) _)
      have b2 := heap_setCell_same _ d 3 _ 57 (.slice none 0 0) (heap_setCell_same w1 d 2 _ 57 (.map mc) hb1)
      have ok : Ok { S.count.2 with safe := S.cur, pend := [] } := by
        have o := h1.ok
        have hcl := o.cur_len
        rw [S.count_cur] at hcl
        refine ⟨o.cur_len, (by simpa using hcl), o.fl_len, o.cur_fl, (by have := o.cur_fl; rw [S.count_cur] at this; exact this), (fun x hx => by cases hx), (fun x hx => by cases hx), o.room_le, o.calls_le, o.vol_le, o.left_lo, o.left_hi⟩
      have h2 := h1.turn (S' := { S.count.2 with safe := S.cur, pend := [] }) (mc' := mc) (ms' := mc) (A' := none) (c' := 0) k2 (by rw [b2]; rfl) rfl h1.cur (by have := h1.cur; rw [S.count_cur] at this; exact this) (World.ownsRow_nil _ _ _ _) h1.fcur h1.fcur (fun k hk => by cases hk) ok
      have HD := Lib.hid (h2.did (k1.step k2) (fun i e => e ▸ h1.fd))
      clear h2 ok b2 k2 hb1 h1 k1 hcnt c7
      go_wp2
      go_ret
      exact ⟨rfl, HD.out⟩
    · rw [he, if_neg (by simp), he]
      rw [he] at hcnt
      go_enter Try.func19, Try.ntmps19
      go_wp2_with fail
      refine hcnt.mono ?_
      rintro e w1 ⟨rfl, h1, k1⟩
      have HD := Lib.hid (h1.did k1 (fun i e => e ▸ h1.fd))
      clear h1 k1 hcnt
      go_wp2
      go_ret
      exact ⟨rfl, HD.out⟩

set_option maxRecDepth 100000 in
set_option maxHeartbeats 2000000 in
theorem remove_any (F : Nat → Prop) (d : Nat) (S : St) (s : List UInt8) (w : World) (h : Dk w F d S) (hs : s.length ≤ maxLen) (hc : S.calls < 1000000) :
    Calls Try.prog 28 #[.pointer (some ⟨d, 0, none⟩), .string (str s)] w fun e w' => e = .returned (.int .i64 ((S.remove s).1 : Int)) ∧ Did F w w' d (S.remove s).2 := by
  obtain ⟨mc, ms, A, c, R, h⟩ := h
  have hf := find_any F d S s mc ms A c R w h hs
  have H := Lib.hid h
  clear h
  unfold St.find at hf
  unfold St.remove St.on
  cases hd : S.down with
  | true =>
    rw [hd, if_pos rfl] at hf
    rw [if_pos rfl]
    clear hd
    go_enter Try.func28, Try.ntmps28
    go_wp2_with fail
    refine hf.mono ?_
    rintro e w1 ⟨rfl, rfl⟩
    clear hf
    go_wp2
    go_ret
    exact ⟨rfl, Did.same H.out.dk⟩
  | false =>
    rw [hd, if_neg (by simp)] at hf
    rw [if_neg (by simp)]
    cases hl : Dir.look S.cur s with
    | none =>
      rw [hl] at hf
      clear hl hd
      go_enter Try.func28, Try.ntmps28
      go_wp2_with fail
      refine hf.mono ?_
      rintro e w1 ⟨rfl, rfl⟩
      clear hf
      go_wp2
      go_ret
      exact ⟨rfl, Did.same H.out.dk⟩
    | some f =>
      rw [hl] at hf
      obtain ⟨l, hfl⟩ := Option.isSome_iff_exists.1 (H.out.ok.cur_fl _ (Dir.mem_of_look hl))
      have HFL := Lib.hid hfl
      have hfil := Lib.hid (H.out.fil f l hfl)
      have hbl := (H.out.ok.fl_len f l hfl).1
      have hsl := (H.out.ok.fl_len f l hfl).2
      have hvl := H.out.ok.vol_le
      have q0 : w.cell? ⟨f, 0, none⟩ = some (.slice (R f).1 l.data.length (R f).2) := cell_of_row _ _ _ _ _ _ hfil.out.blk
      have hf' : Calls Try.prog 33 #[.pointer (some ⟨d, 0, none⟩), .string (str s)] w fun e w' => e = .returned (.tuple #[.pointer (some ⟨f, 0, none⟩), .int .i64 0]) ∧ w = w' := hf
      have HFe := Lib.hid (file_eq hfl)
      clear hf hl hd hfl
      simp only
      go_enter Try.func28, Try.ntmps28
      go_wp2_with fail
      refine hf'.mono ?_
      rintro e w1 ⟨rfl, rfl⟩
      clear hf'
      clear q0 hfil HFL HFe hbl hsl hvl
      go_wp2_with fail
      refine (step_any F d S ⟨s, [], none⟩ mc ms A c R w H.out hc hs (Nat.zero_le _) (fun f hf => by cases hf)).mono ?_
      rintro e w1 ⟨rfl, hd1⟩
      have HD := Lib.hid hd1; clear hd1
      go_wp2
      go_ret
      exact ⟨rfl, HD.out⟩

set_option maxRecDepth 100000 in
set_option maxHeartbeats 2000000 in
theorem rename_any (F : Nat → Prop) (d : Nat) (S : St) (s t : List UInt8) (w : World) (h : Dk w F d S) (hs : s.length ≤ maxLen) (ht : t.length ≤ maxLen) (hc : S.calls < 1000000) :
    Calls Try.prog 27 #[.pointer (some ⟨d, 0, none⟩), .string (str s), .string (str t)] w fun e w' => e = .returned (.int .i64 ((S.rename s t).1 : Int)) ∧ Did F w w' d (S.rename s t).2 := by
  obtain ⟨mc, ms, A, c, R, h⟩ := h
  have hf := find_any F d S s mc ms A c R w h hs
  have H := Lib.hid h
  clear h
  unfold St.find at hf
  unfold St.rename St.on
  cases hd : S.down with
  | true =>
    rw [hd, if_pos rfl] at hf
    rw [if_pos rfl]
    clear hd
    go_enter Try.func27, Try.ntmps27
    go_wp2_with fail
    refine hf.mono ?_
    rintro e w1 ⟨rfl, rfl⟩
    clear hf
    go_wp2
    go_ret
    exact ⟨rfl, Did.same H.out.dk⟩
  | false =>
    rw [hd, if_neg (by simp)] at hf
    rw [if_neg (by simp)]
    cases hl : Dir.look S.cur s with
    | none =>
      rw [hl] at hf
      clear hl hd
      go_enter Try.func27, Try.ntmps27
      go_wp2_with fail
      refine hf.mono ?_
      rintro e w1 ⟨rfl, rfl⟩
      clear hf
      go_wp2
      go_ret
      exact ⟨rfl, Did.same H.out.dk⟩
    | some f =>
      rw [hl] at hf
      obtain ⟨l, hfl⟩ := Option.isSome_iff_exists.1 (H.out.ok.cur_fl _ (Dir.mem_of_look hl))
      have HFL := Lib.hid hfl
      have hfil := Lib.hid (H.out.fil f l hfl)
      have hbl := (H.out.ok.fl_len f l hfl).1
      have hsl := (H.out.ok.fl_len f l hfl).2
      have hvl := H.out.ok.vol_le
      have q0 : w.cell? ⟨f, 0, none⟩ = some (.slice (R f).1 l.data.length (R f).2) := cell_of_row _ _ _ _ _ _ hfil.out.blk
      have hf' : Calls Try.prog 33 #[.pointer (some ⟨d, 0, none⟩), .string (str s)] w fun e w' => e = .returned (.tuple #[.pointer (some ⟨f, 0, none⟩), .int .i64 0]) ∧ w = w' := hf
      have HFe := Lib.hid (file_eq hfl)
      clear hf hl hd hfl
      simp only
      by_cases hst : s = t
      · subst hst
        rw [if_pos rfl]
        clear q0 hfil HFL HFe hbl hsl hvl
        go_enter Try.func27, Try.ntmps27
        go_wp2_with fail
        refine hf'.mono ?_
        rintro e w1 ⟨rfl, rfl⟩
        clear hf'
        go_wp2
        go_ret
        exact ⟨rfl, Did.same H.out.dk⟩
      · rw [if_neg hst]
        have hne : ((str s).toList == (str t).toList) = false := by rw [str_beq]; simpa using hst
        have hisS : (S.fl f).isSome = true := by rw [HFL.out]; rfl
        have HIS := Lib.hid hisS; clear hisS
        clear q0 hfil HFL HFe hbl hsl hvl
        go_enter Try.func27, Try.ntmps27
        go_wp2_with fail
        refine hf'.mono ?_
        rintro e w1 ⟨rfl, rfl⟩
        clear hf'
        go_wp2_with fail
        refine (step_any F d S ⟨s, t, some f⟩ mc ms A c R w H.out hc hs ht (fun g hg => by injection hg with hg; subst hg; exact HIS.out)).mono ?_
        rintro e w1 ⟨rfl, hd1⟩
        have HD := Lib.hid hd1; clear hd1
        go_wp2
        go_ret
        exact ⟨rfl, HD.out⟩
end Go.Proofs.Ytdcccjkondjhbaa
