/-
  A disk's methods, fifth part: the calls that are counted. No statement is proved here.
-/
import Derived.Test.YtdcccjkondjhbaaFiles4
namespace Go.Proofs.Ytdcccjkondjhbaa
open Go.RowKit Go.Maps

def St.file (S : St) (f : Nat) : Fl := match S.fl f with | some l => l | none => ⟨[], 0⟩
/-- A call that wants a name. -/
def St.on (S : St) (s : List UInt8) (k : Nat → Nat × St) : Nat × St :=
  if S.down = true then (7, S) else match Dir.look S.cur s with | none => (6, S) | some f => k f
def St.create (S : St) (s : List UInt8) (f : Nat) : Nat × St :=
  if S.down = true then (7, S) else if (Dir.look S.cur s).isSome = true then (5, S) else if 64 ≤ S.cur.length then (4, S) else (S.setFl f ⟨[], 0⟩).step ⟨s, s, some f⟩
def St.app (S : St) (f : Nat) (b : List UInt8) : St := { S.setFl f ⟨(S.file f).data ++ b, (S.file f).safe⟩ with vol := S.vol + b.length }
def St.appendAt (S : St) (b : List UInt8) (f : Nat) : Nat × St := if S.room < b.length + S.used then (4, S) else (S.app f b).count
def St.append (S : St) (s b : List UInt8) : Nat × St := S.on s (S.appendAt b)
def St.cutAt (S : St) (n : Int) (f : Nat) : Nat × St :=
  if n < 0 ∨ ((S.file f).data.length : Int) < n then (14, S) else if S.count.1 = 0 then (0, S.count.2.setFl f ((S.file f).keep n.toNat)) else S.count
def St.cut (S : St) (s : List UInt8) (n : Int) : Nat × St := S.on s (S.cutAt n)
def St.syncAt (S : St) (f : Nat) : Nat × St := if S.count.1 = 0 then (0, S.count.2.setFl f ⟨(S.file f).data, (S.file f).data.length⟩) else S.count
def St.sync (S : St) (s : List UInt8) : Nat × St := S.on s S.syncAt
def St.syncDir (S : St) : Nat × St := if S.down = true then (7, S) else if S.count.1 = 0 then (0, { S.count.2 with safe := S.cur, pend := [] }) else S.count
def St.rename (S : St) (s t : List UInt8) : Nat × St := S.on s fun f => if s = t then (14, S) else S.step ⟨s, t, some f⟩
def St.remove (S : St) (s : List UInt8) : Nat × St := S.on s fun _ => S.step ⟨s, [], none⟩

section
variable {w w' : World} {F : Nat → Prop} {d : Nat} {S : St} {mc ms : Option Nat} {A : Option Addr} {c : Nat} {R : Nat → Option Addr × Nat}
theorem DkR.did {T : Nat → Prop} (h : DkR w' F d S mc ms A c R) (k : Kept T w w') (hT : ∀ i, T i → F i) : Did F w w' d S := Did.of k hT ⟨mc, ms, A, c, R, h⟩
theorem Did.seq {F : Nat → Prop} {w w1 w2 : World} {d : Nat} {S S' : St} (h1 : Did F w w1 d S) (h2 : Did F w1 w2 d S') : Did F w w2 d S' :=
  ⟨h1.kept.step h2.kept, h2.dk.mono (fun _ hi => hi.imp id fun h => ⟨Nat.le_trans h1.kept.size h.1, h.2⟩) (fun i hi => hi.elim (fun h => h2.dk.lt i (.inl h)) (fun h => h.2))⟩
theorem DkR.dk (h : DkR w F d S mc ms A c R) : Dk w F d S := ⟨mc, ms, A, c, R, h⟩
theorem Ok.setFl {S : St} (o : Ok S) {f : Nat} {l : Fl} {v : Nat} (hv : S.vol ≤ v) (hv2 : v ≤ 1000000000) (hl : l.data.length ≤ v) (hs : l.safe ≤ l.data.length) : Ok { S.setFl f l with vol := v } := by
  have up : ∀ g, (S.fl g).isSome = true → ((S.setFl f l).fl g).isSome = true := fun g hg => by
    by_cases e : g = f
    · simp [St.setFl, e]
    · simpa [St.setFl, e] using hg
  refine ⟨o.cur_len, o.safe_len, fun g m hg => ?_, fun p hp => up _ (o.cur_fl p hp), fun p hp => up _ (o.safe_fl p hp), fun x hx g hg => up _ (o.pend_fl x hx g hg), o.pend_name, o.room_le, o.calls_le, hv2, o.left_lo, o.left_hi⟩
  by_cases e : g = f
  · simp [St.setFl, e] at hg
    subst hg
    exact ⟨hl, hs⟩
  · simp [St.setFl, e] at hg
    exact ⟨Nat.le_trans (o.fl_len g m hg).1 hv, (o.fl_len g m hg).2⟩
theorem file_eq {S : St} {f : Nat} {l : Fl} (h : S.fl f = some l) : S.file f = l := by unfold St.file; rw [h]
/-- A file's cells turned, its row stays where it is. -/
theorem DkR.fileDid (h : DkR w F d S mc ms A c R) {f : Nat} {l l' : Fl} (hf : S.fl f = some l) {r : Option Addr × Nat} (k : Kept (fun i => i = f ∨ rowB (R f) = some i) w w') (hn : Fil w' f r l') (hat : ∀ k, rowB r = some k → rowB (R f) = some k ∨ fresh w w' k)
    {v : Nat} (hv : S.vol ≤ v) (hv2 : v ≤ 1000000000) (hl : l'.data.length ≤ v) (hs : l'.safe ≤ l'.data.length) :
    Did F w w' d { S.setFl f l' with vol := v } :=
  ⟨k.mono (fun i _ hi => by
    rcases hi with rfl | hi
    · exact (h.ffil i l hf).1
    · exact (h.ffil f l hf).2 i hi), (h.file hf k hn hat (h.ok.setFl hv hv2 hl hs)).dk⟩
end

set_option maxRecDepth 100000 in
set_option maxHeartbeats 2000000 in
theorem create_any (F : Nat → Prop) (d : Nat) (S : St) (s : List UInt8) (w : World) (h : Dk w F d S) (hs : s.length ≤ maxLen) (hc : S.calls < 1000000) :
    Calls Try.prog 17 #[.pointer (some ⟨d, 0, none⟩), .string (str s)] w fun e w' => ∃ f, e = .returned (.int .i64 ((S.create s f).1 : Int)) ∧ Did F w w' d (S.create s f).2 ∧ S.fl f = none := by
  obtain ⟨mc, ms, A, c, R, h⟩ := h
  have hb := h.blk
  unfold dcells at hb
  have c7 : w.cell? ⟨d, 7, none⟩ = some (.bool S.down) := cell_of_row _ _ _ _ _ _ hb
  have c1 : w.cell? ⟨d, 1, none⟩ = some (.map mc) := cell_of_row _ _ _ _ _ _ hb
  have HN := Lib.hid h.cur
  have hd := lt_of_blk hb
  have hnone : ∃ f, S.fl f = none := ⟨w.heap.size, by
    cases hf : S.fl w.heap.size with
    | none => rfl
    | some l => have := h.lt _ (h.ffil _ l hf).1; omega⟩
  have hnew : S.fl w.heap.size = none := by
    cases hf : S.fl w.heap.size with
    | none => rfl
    | some l => have := h.lt _ (h.ffil _ l hf).1; omega
  have HNEW := Lib.hid hnew; clear hnew
  have HNONE := Lib.hid hnone; clear hnone
  have H := Lib.hid h
  clear hb h
  unfold St.create
  cases hdn : S.down with
  | true =>
    rw [hdn] at c7
    simp only [if_true]
    clear hdn
    go_enter Try.func17, Try.ntmps17
    go_wp2
    go_ret
    obtain ⟨f, hf⟩ := HNONE.out
    exact ⟨f, rfl, Did.same H.out.dk, hf⟩
  | false =>
    rw [hdn] at c7
    simp only [Bool.false_eq_true, if_false]
    clear hdn
    cases hl : Dir.look S.cur s with
    | some f =>
      have HL := Lib.hid hl; clear hl
      simp only [Option.isSome_some, if_true]
      go_enter Try.func17, Try.ntmps17
      go_wp2_with (at_lookup; refine wpList_look_some rfl _ _ 54 59 rfl Try.underlying54 zeroFile mc S.cur rfl HN.out s rfl hs f HL.out ?_)
      go_ret
      obtain ⟨f, hf⟩ := HNONE.out
      exact ⟨f, rfl, Did.same H.out.dk, hf⟩
    | none =>
      have HL := Lib.hid hl; clear hl
      simp only [Option.isSome_none, Bool.false_eq_true, if_false]
      by_cases h64 : 64 ≤ S.cur.length
      · simp only [if_pos h64]
        obtain ⟨n, hn⟩ : ∃ n, n = S.cur.length := ⟨_, rfl⟩
        have hgt : 64 ≤ n := by omega
        have HNn := Lib.hid hn
        clear h64
        go_enter Try.func17, Try.ntmps17
        go_wp2_with (first | (at_lookup; refine wpList_look_none rfl _ _ 54 59 rfl Try.underlying54 zeroFile mc S.cur rfl HN.out s rfl hs HL.out ?_) | (at_len; refine wpList_mlen rfl _ 54 59 rfl Try.underlying54 mc S.cur rfl HN.out ?_; rw [← hn]; clear hn))
        go_ret
        obtain ⟨f, hf⟩ := HNONE.out
        exact ⟨f, rfl, Did.same H.out.dk, hf⟩
      · simp only [if_neg h64]
        obtain ⟨n, hn⟩ : ∃ n, n = S.cur.length := ⟨_, rfl⟩
        have hgt : n < 64 := by omega
        have HNn := Lib.hid hn
        clear h64
        go_enter Try.func17, Try.ntmps17
        go_wp2_with (first | (at_lookup; refine wpList_look_none rfl _ _ 54 59 rfl Try.underlying54 zeroFile mc S.cur rfl HN.out s rfl hs HL.out ?_) | (at_len; refine wpList_mlen rfl _ 54 59 rfl Try.underlying54 mc S.cur rfl HN.out ?_; rw [← hn]; clear hn))
        have k0 := Kept.alloc noBlock w (.cells #[.slice none 0 0, .int .i64 0] 61)
        have hB := heap_alloc_new w (.cells #[.slice none 0 0, .int .i64 0] 61)
        have hfr : fresh w (w.alloc (.cells #[.slice none 0 0, .int .i64 0] 61)) w.heap.size := ⟨Nat.le_refl _, by simp⟩
        generalize w.alloc (.cells #[.slice none 0 0, .int .i64 0] 61) = w1 at k0 hB hfr ⊢
        have h1 := H.out.newfile k0 hfr ⟨hB, World.ownsRow_nil _ _ _ _⟩
        refine (step_any _ d (S.setFl w.heap.size ⟨[], 0⟩) ⟨s, s, some w.heap.size⟩ _ _ _ _ _ w1 h1 hc hs hs (fun f hf => by injection hf with hf; subst hf; simp [St.setFl])).mono ?_
        rintro e w2 ⟨rfl, d2⟩
        have HD := Lib.hid (Did.join ⟨k0.mono (fun _ _ h => h.elim), h1.dk⟩ d2)
        clear h1 d2 k0 hB hfr
        go_wp2
        go_ret
        exact ⟨w.heap.size, rfl, HD.out, HNEW.out⟩

set_option maxRecDepth 100000 in
set_option maxHeartbeats 2000000 in
theorem sync_any (F : Nat → Prop) (d : Nat) (S : St) (s : List UInt8) (w : World) (h : Dk w F d S) (hs : s.length ≤ maxLen) (hc : S.calls < 1000000) :
    Calls Try.prog 26 #[.pointer (some ⟨d, 0, none⟩), .string (str s)] w fun e w' => e = .returned (.int .i64 ((S.sync s).1 : Int)) ∧ Did F w w' d (S.sync s).2 := by
  obtain ⟨mc, ms, A, c, R, h⟩ := h
  have hf := find_any F d S s mc ms A c R w h hs
  have H := Lib.hid h
  clear h
  unfold St.find at hf
  unfold St.sync St.on
  cases hd : S.down with
  | true =>
    rw [hd, if_pos rfl] at hf
    rw [if_pos rfl]
    clear hd
    go_enter Try.func26, Try.ntmps26
    go_wp2_with fail
    refine hf.mono ?_
    rintro e w1 ⟨rfl, rfl⟩
    clear hf
    go_wp2
    go_ret
    exact ⟨rfl, Did.same H.out.dk⟩
  | false =>
    rw [hd, if_neg (by simp)] at hf
    rw [if_neg (by simp)]
    cases hl : Dir.look S.cur s with
    | none =>
      rw [hl] at hf
      clear hl hd
      go_enter Try.func26, Try.ntmps26
      go_wp2_with fail
      refine hf.mono ?_
      rintro e w1 ⟨rfl, rfl⟩
      clear hf
      go_wp2
      go_ret
      exact ⟨rfl, Did.same H.out.dk⟩
    | some f =>
      rw [hl] at hf
      obtain ⟨l, hfl⟩ := Option.isSome_iff_exists.1 (H.out.ok.cur_fl _ (Dir.mem_of_look hl))
      have HFL := Lib.hid hfl
      have hfil := Lib.hid (H.out.fil f l hfl)
      have hbl := (H.out.ok.fl_len f l hfl).1
      have hsl := (H.out.ok.fl_len f l hfl).2
      have hvl := H.out.ok.vol_le
      have q0 : w.cell? ⟨f, 0, none⟩ = some (.slice (R f).1 l.data.length (R f).2) := cell_of_row _ _ _ _ _ _ hfil.out.blk
      have hf' : Calls Try.prog 33 #[.pointer (some ⟨d, 0, none⟩), .string (str s)] w fun e w' => e = .returned (.tuple #[.pointer (some ⟨f, 0, none⟩), .int .i64 0]) ∧ w = w' := hf
      have HFe := Lib.hid (file_eq hfl)
      clear hf hl hd hfl
      simp only
      have hcnt := count_any F d S mc ms A c R w H.out hc
      unfold St.syncAt
      rw [HFe.out]
      rcases S.count_err with he | he
      · rw [he, if_pos rfl]
        rw [he] at hcnt
        obtain ⟨n, hn⟩ : ∃ n, n = l.data.length := ⟨_, rfl⟩
        rw [← hn] at q0
        have HNn := Lib.hid hn; clear hn
        go_enter Try.func26, Try.ntmps26
        go_wp2_with fail
        refine hf'.mono ?_
        rintro e w1 ⟨rfl, rfl⟩
        clear hf'
        go_wp2_with fail
        refine hcnt.mono ?_
        rintro e w1 ⟨rfl, h1, k1⟩
        have hfl1 : S.count.2.fl f = some l := by rw [S.count_fl]; exact HFL.out
        have hfil1 := h1.fil f l hfl1
        have r0 : w1.cell? ⟨f, 0, none⟩ = some (.slice (R f).1 l.data.length (R f).2) := cell_of_row _ _ _ _ _ _ hfil1.blk
        have r1 : w1.cell? ⟨f, 1, none⟩ = some (.int .i64 (l.safe : Int)) := cell_of_row _ _ _ _ _ _ hfil1.blk
        have r2 : w1.frozen? ⟨f, 1, none⟩ = false := frozen_of_row _ _ _ _ _ hfil1.blk
        rw [← HNn.out] at r0
        have k2 : Kept (fun i => i = f ∨ rowB (R f) = some i) w1 (w1.setCell ⟨f, 1, none⟩ (.int .i64 (n : Int))) := Kept.setCell w1 (.inl rfl) _
        have b2 := heap_setCell_same w1 f 1 _ 61 (.int .i64 (n : Int)) hfil1.blk
        have hv : S.count.2.vol ≤ 1000000000 := by rw [S.count_vol]; exact hvl
        have dd := h1.fileDid hfl1 (r := R f) k2 (l' := ⟨l.data, l.data.length⟩) ⟨by rw [b2, HNn.out]; rfl, own_keep hfil1.own (Kept.setCell (S := fun i => i = f) w1 (by rfl) _) (fun i hi e => by subst e; exact own_ne hfil1.own hfil1.blk (by decide) hi)⟩ (fun k hk => .inl hk) (Nat.le_refl _) hv (by rw [S.count_vol]; exact hbl) (Nat.le_refl _)
        have HD := Lib.hid ((h1.did k1 (fun i e => e ▸ h1.fd)).seq dd)
        clear dd k2 b2 hfil1 h1 k1 hfl1 hcnt
        go_wp2
        go_ret
        exact ⟨rfl, HD.out⟩
      · rw [he, if_neg (by simp), he]
        rw [he] at hcnt
        clear q0
        go_enter Try.func26, Try.ntmps26
        go_wp2_with fail
        refine hf'.mono ?_
        rintro e w1 ⟨rfl, rfl⟩
        clear hf'
        go_wp2_with fail
        refine hcnt.mono ?_
        rintro e w1 ⟨rfl, h1, k1⟩
        have HD := Lib.hid (h1.did k1 (fun i e => e ▸ h1.fd))
        clear h1 k1 hcnt
        go_wp2
        go_ret
        exact ⟨rfl, HD.out⟩
end Go.Proofs.Ytdcccjkondjhbaa
