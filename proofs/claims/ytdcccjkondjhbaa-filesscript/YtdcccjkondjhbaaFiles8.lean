/-
  A disk's methods, eighth part: Restart. No statement is proved here.
-/
import Derived.Test.YtdcccjkondjhbaaFiles7
namespace Go.Proofs.Ytdcccjkondjhbaa
open Go.RowKit Go.Maps

/-- What is left of a file behind a restart. -/
def Fl.back (l : Fl) (b : Nat) : Fl := ⟨l.data.take (l.safe + min b (l.data.length - l.safe)), l.safe + min b (l.data.length - l.safe)⟩
theorem Fl.back_len (l : Fl) (b : Nat) (h : l.safe ≤ l.data.length) : (l.back b).data.length = (l.back b).safe := by
  unfold Fl.back
  simp only [List.length_take]
  omega
theorem Fl.back_le (l : Fl) (b : Nat) : (l.back b).data.length ≤ l.data.length := by
  unfold Fl.back
  simp only [List.length_take]
  omega
theorem Fl.back_back (l : Fl) (b : Nat) (h : l.safe ≤ l.data.length) : (l.back b).back b = l.back b := by
  have h1 := l.back_len b h
  obtain ⟨d, s⟩ := l
  unfold Fl.back at *
  simp only at *
  rw [h1]
  simp only [Nat.sub_self, Nat.min_zero, Nat.add_zero, List.take_take, Nat.min_self]
/-- A file has one of these names. -/
def Dir.holds (N : Dir) (f : Nat) : Bool := N.any fun p => p.2 == f
/-- .. and that name has come. -/
def Dir.came (N : Dir) (left : Lit → Bool) (f : Nat) : Bool := N.any fun p => p.2 == f && !left (.string p.1)
def St.names (S : St) (n : Nat) : Dir := Dir.after S.safe (S.pend.take n)
def St.restart (S : St) (n b : Int) : St :=
  { S with cur := S.names n.toNat, safe := S.names n.toNat, pend := [], armed := false, left := -1, down := false,
           fl := fun f => if (S.names n.toNat).holds f = true then (S.fl f).map (·.back b.toNat) else S.fl f }
theorem came_none {N : Dir} {left : Lit → Bool} (h : Dir.still N left = []) (f : Nat) : Dir.came N left f = Dir.holds N f := by
  unfold Dir.came Dir.holds
  unfold Dir.still at h
  rw [List.filter_eq_nil_iff] at h
  induction N with
  | nil => rfl
  | cons y r ih =>
    have h1 := h y (by simp)
    simp only [List.any_cons]
    rw [ih (fun p hp => h p (by simp [hp]))]
    simp at h1
    rw [h1]
    simp
theorem came_all {N : Dir} {left : Lit → Bool} (h : Dir.still N left = N) (f : Nat) : Dir.came N left f = false := by
  unfold Dir.came
  unfold Dir.still at h
  rw [List.filter_eq_self] at h
  rw [List.any_eq_false]
  intro p hp
  simp [h p hp]
theorem came_step {N : Dir} (hnd : N.Pairwise fun p q => p.1 ≠ q.1) {left : Lit → Bool} {s : List UInt8} {f : Nat} (hm : (s, f) ∈ N) (g : Nat) :
    Dir.came N (fun z => left z && !z.sameKey (.string s)) g = (Dir.came N left g || f == g) := by
  unfold Dir.came
  induction N with
  | nil => simp at hm
  | cons y r ih =>
    obtain ⟨h1, h2⟩ := List.pairwise_cons.1 hnd
    have key : ∀ p : List UInt8 × Nat, (Lit.string p.1).sameKey (.string s) = (p.1 == s) := fun p => rfl
    simp only [List.any_cons, key]
    by_cases hy : y.1 = s
    · have hyf : y = (s, f) := by
        rcases List.mem_cons.1 hm with h' | h'
        · exact h'.symm
        · exact absurd hy (h1 _ h')
      subst hyf
      have er : (r.any fun p => p.2 == g && !(left (.string p.1) && !(p.1 == s))) = r.any fun p => p.2 == g && !left (.string p.1) := by
        rw [Bool.eq_iff_iff, List.any_eq_true, List.any_eq_true]
        constructor
        · rintro ⟨p, hp, hq⟩
          refine ⟨p, hp, ?_⟩
          have : (p.1 == s) = false := by simpa using fun e : p.1 = s => h1 p hp e.symm
          rw [this] at hq
          simpa using hq
        · rintro ⟨p, hp, hq⟩
          refine ⟨p, hp, ?_⟩
          have : (p.1 == s) = false := by simpa using fun e : p.1 = s => h1 p hp e.symm
          rw [this]
          simpa using hq
      rw [er]
      simp
      cases hfg : (f == g) <;> simp
    · have hm' : (s, f) ∈ r := by
        rcases List.mem_cons.1 hm with h' | h'
        · exact absurd (by rw [← h']) hy
        · exact h'
      have e := ih h2 hm'
      simp only [key] at e
      rw [e]
      have : (y.1 == s) = false := by simpa using hy
      rw [this]
      simp [Bool.or_assoc]

/-- A restart under way: the names have come that are not left. -/
def St.under (S : St) (N : Dir) (b : Nat) (left : Lit → Bool) : St :=
  { S with cur := N, safe := N, pend := [], fl := fun f => if N.came left f = true then (S.fl f).map (·.back b) else S.fl f }
theorem Ok.under {S : St} (o : Ok S) {n : Nat} (b : Nat) (left : Lit → Bool) : Ok (S.under (S.names n) b left) := by
  have hl : (S.names n).length ≤ S.calls := by
    have h1 := Dir.after_len (S.pend.take n) S.safe
    have h2 := o.safe_len
    rw [List.length_take] at h1
    unfold St.names
    omega
  have up : ∀ g, (S.fl g).isSome = true → ((S.under (S.names n) b left).fl g).isSome = true := fun g hg => by
    unfold St.under
    simp only
    split
    · simpa using hg
    · exact hg
  have hN : ∀ p ∈ S.names n, (S.fl p.2).isSome = true := Dir.after_fl (I := fun f => (S.fl f).isSome = true) _ o.safe_fl (fun c hc f hf => o.pend_fl c (List.mem_of_mem_take hc) f hf)
  refine ⟨hl, (by simpa [St.under] using hl), fun g m hg => ?_, fun p hp => up _ (hN p hp), fun p hp => up _ (hN p hp), (fun x hx => by cases hx), (fun x hx => by cases hx), o.room_le, o.calls_le, o.vol_le, o.left_lo, o.left_hi⟩
  unfold St.under at hg
  simp only at hg
  split at hg
  · cases hf : S.fl g with
    | none => rw [hf] at hg; cases hg
    | some l =>
      rw [hf] at hg
      simp at hg
      have h1 := o.fl_len g l hf
      have h2 := l.back_le b
      have h3 := l.back_len b h1.2
      subst hg
      exact ⟨by show _ ≤ S.vol; omega, by omega⟩
  · exact o.fl_len g m hg
theorem under_step {S : St} {N : Dir} {b : Nat} {left : Lit → Bool} {s : List UInt8} {f : Nat} (o : ∀ f l, S.fl f = some l → l.safe ≤ l.data.length) (hnd : N.Pairwise fun p q => p.1 ≠ q.1) (hm : (s, f) ∈ N) {l : Fl} (hl : (S.under N b left).fl f = some l) :
    (S.under N b left).setFl f (l.back b) = S.under N b fun z => left z && !z.sameKey (.string s) := by
  unfold St.setFl
  unfold St.under
  simp only [St.mk.injEq, true_and, and_true]
  funext g
  rw [came_step hnd hm]
  by_cases e : g = f
  · subst e
    simp only [if_true, BEq.rfl, Bool.or_true]
    unfold St.under at hl
    simp only at hl
    split at hl
    · cases hf : S.fl g with
      | none => rw [hf] at hl; cases hl
      | some l0 =>
        rw [hf] at hl
        simp at hl
        subst hl
        simp [Fl.back_back l0 b (o g l0 hf)]
    · rw [hl]; rfl
  · rw [if_neg e]
    have : (f == g) = false := by simpa using fun h : f = g => e h.symm
    rw [this, Bool.or_false]
theorem own_lies {w : World} {e : TypeId} {size n c : Nat} {a : Option Addr} {xs : List Value} (h : w.ownsRow 0 e size (.slice a n c) n xs) : Lies w (fun _ => True) a xs := fun hx => by
  rcases h.2 with ⟨h1, h2⟩ | ⟨g, cap, cur, h1, _⟩
  · subst h2
    exact absurd (List.eq_nil_of_length_eq_zero (by rw [h.1]; simp)) hx
  · injection h1 with h1
    subst h1
    exact ⟨_, rfl, trivial, h.cells (g := g) rfl⟩
/-- A file's cells turned, nothing came. -/
theorem DkR.fileHere {w w' : World} {F : Nat → Prop} {d : Nat} {S : St} {mc ms : Option Nat} {A : Option Addr} {c : Nat} {R : Nat → Option Addr × Nat} (h : DkR w F d S mc ms A c R) {f : Nat} {l l' : Fl} (hf : S.fl f = some l) (k : Kept (fun i => i = f) w w')
    (hn : Fil w' f (R f) l') (hsz : w'.heap.size = w.heap.size) (hl : l'.data.length ≤ S.vol) (hs : l'.safe ≤ l'.data.length) : DkR w' F d (S.setFl f l') mc ms A c R := by
  have h1 := h.file hf (k.mono (fun i _ e => .inl e)) hn (fun k hk => .inl hk) (v := S.vol) (h.ok.setFl (Nat.le_refl _) h.ok.vol_le hl hs)
  have eF : (fun k => F k ∨ fresh w w' k) = F := by
    funext k
    unfold fresh
    rw [hsz]
    apply propext
    constructor
    · rintro (h | h)
      · exact h
      · omega
    · exact .inl
  have eR : (fun g => if g = f then R f else R g) = R := by funext g; split <;> simp_all
  rw [eF, eR] at h1
  exact h1

set_option maxRecDepth 100000 in
set_option maxHeartbeats 2000000 in
theorem restart_any (F : Nat → Prop) (d : Nat) (S : St) (names bytes : Int) (w : World) (h : Dk w F d S) :
    Calls Try.prog 7 #[.pointer (some ⟨d, 0, none⟩), .int .i64 names, .int .i64 bytes] w fun e w' => e = .returned (.tuple #[]) ∧ Did F w w' d (S.restart names bytes) := by
  obtain ⟨mc, ms, A, c, R, h⟩ := h
  have hb := h.blk
  unfold dcells at hb
  obtain ⟨n, hn⟩ : ∃ n, n = S.pend.length := ⟨_, rfl⟩
  have hown := h.pend
  rw [← hn] at hb hown
  have hcap : n ≤ c := by obtain ⟨_, _, e, hle⟩ := own_form hown; injection e with _ _ e; omega
  have c2 : w.cell? ⟨d, 2, none⟩ = some (.map ms) := cell_of_row _ _ _ _ _ _ hb
  have c3 : w.cell? ⟨d, 3, none⟩ = some (.slice A n c) := cell_of_row _ _ _ _ _ _ hb
  have hd := lt_of_blk hb
  obtain ⟨k, hk⟩ : ∃ k : Nat, k = min names.toNat n := ⟨_, rfl⟩
  have hkn : k ≤ n := by omega
  have hkc : k ≤ c := by omega
  have hNk : S.names names.toNat = Dir.after S.safe (S.pend.take k) := by
    unfold St.names
    congr 1
    rw [hk, hn]
    by_cases h1 : names.toNat ≤ S.pend.length
    · rw [Nat.min_eq_left h1]
    · rw [Nat.min_eq_right (by omega), List.take_of_length_le (by omega), List.take_of_length_le (Nat.le_refl _)]
  have hl : Lies w (fun _ => True) A (chgCells (S.pend.take k)) := by
    have := (own_lies hown).take (k * 3)
    rw [chgCells_take] at this
    exact this
  have HL := Lib.hid hl; clear hl
  have HN := Lib.hid hn; clear hn
  have HK := Lib.hid hk
  have HNK := Lib.hid hNk; clear hNk
  have HO := Lib.hid hown; clear hown
  have HB := Lib.hid hb; clear hb
  have H := Lib.hid h; clear h
  have hlen : Hid (S.safe.length + k < 1000000000) := by have h1 := H.out.ok.safe_len; have h2 := H.out.ok.calls_le; have := HN.out; show _ < _; omega
  have hnm : Hid (∀ x ∈ S.pend.take k, x.frm.length ≤ maxLen ∧ x.to_.length ≤ maxLen) := Lib.hid fun x hx => H.out.ok.pend_name x (List.mem_of_mem_take hx)
  have hkl : Hid ((S.pend.take k).length = k) := by show _ = _; rw [List.length_take, ← HN.out]; omega
  go_enter Try.func7, Try.ntmps7
  go_upto_region 0 with (fail)
  go_cut [6] (fun x wc => x = .int .i64 (k : Int) ∧ w = wc)
  case first =>
    go_wp2
    all_goals
      go_meet
      case rel => exact ⟨by congr 1; omega, rfl⟩
  case rest =>
    obtain ⟨rfl, rfl⟩ := hcut
    clear hk
    have haf := after_any (fun _ => True) ms S.safe A k c (S.pend.take k) w.drew (H.out.safe.keep (Kept.drew noBlock w) (fun _ _ h => h)) (HL.out.keep (Kept.drew noBlock w) (fun _ _ h => h)) hkl.out hkc hlen.out hnm.out
    obtain ⟨N, hN⟩ : ∃ N, N = Dir.after S.safe (S.pend.take k) := ⟨_, rfl⟩
    rw [← hN] at haf
    have HNe := Lib.hid hN; clear hN
    go_upto_region 1 with (fail)
    go_cut [29] (fun _ wc => ∃ b w1, Hid (Kept noBlock w w1) ∧ Hid (Nm w1 (some b) N) ∧ Hid (w.heap.size ≤ b) ∧ wc = w1.setCell ⟨d, 2, none⟩ (.map (some b)))
    case first =>
      go_region_law (go_simp; refine haf.mono ?_; rintro e w1 ⟨b, rfl, hN1, k1, hb1⟩; have HN1 := Lib.hid hN1; have HK1 := Lib.hid (show Kept noBlock w w1 from (Kept.drew noBlock w).step k1); have HB1 := Lib.hid (show w.heap.size ≤ b from hb1); have q1 : w1.cell? ⟨d, 2, none⟩ = some (.map ms) := HK1.out.cell c2 (fun h => h); have q2 : w1.frozen? ⟨d, 2, none⟩ = false := frozen_of_row _ _ _ _ _ (HK1.out.blk HB.out (fun h => h)); clear hN1 k1 hb1; dsimp only)
      all_goals
        go_wp2
        go_meet
        case rel => exact ⟨b, w1, HK1, HN1, HB1, rfl⟩
    case rest =>
      obtain ⟨b, w1, HK1, HN1, HB1, rfl⟩ := hcut
      clear haf
      have hb1 := HK1.out.blk HB.out (fun h => h)
      have h1 := H.out.keep HK1.out (fun _ _ h => h)
      have e1 : w1.cell? ⟨d, 1, none⟩ = some (.map mc) := cell_of_row _ _ _ _ _ _ hb1
      have e2 : w1.cell? ⟨d, 2, none⟩ = some (.map ms) := cell_of_row _ _ _ _ _ _ hb1
      have e3 : w1.cell? ⟨d, 3, none⟩ = some (.slice A n c) := cell_of_row _ _ _ _ _ _ hb1
      have e7 : w1.cell? ⟨d, 7, none⟩ = some (.bool S.down) := cell_of_row _ _ _ _ _ _ hb1
      have f1 : w1.frozen? ⟨d, 1, none⟩ = false := frozen_of_row _ _ _ _ _ hb1
      have f3 : w1.frozen? ⟨d, 3, none⟩ = false := frozen_of_row _ _ _ _ _ hb1
      have k4 : Kept (fun i => i = d) w1 (((w1.setCell ⟨d, 2, none⟩ (.map (some b))).setCell ⟨d, 1, none⟩ (.map (some b))).setCell ⟨d, 3, none⟩ (.slice none 0 0)) :=
        ((Kept.setCell (S := fun i => i = d) w1 (by rfl) _).step (Kept.setCell _ (by rfl) _)).step (Kept.setCell _ (by rfl) _)
      have b4 := heap_setCell_same _ d 3 _ 57 (.slice none 0 0) (heap_setCell_same _ d 1 _ 57 (.map (some b)) (heap_setCell_same w1 d 2 _ 57 (.map (some b)) hb1))
      have hsz4 : (((w1.setCell ⟨d, 2, none⟩ (.map (some b))).setCell ⟨d, 1, none⟩ (.map (some b))).setCell ⟨d, 3, none⟩ (.slice none 0 0)).heap.size = w1.heap.size := by simp [World.setCell]
      obtain ⟨S1, hS1⟩ : ∃ S1 : St, S1 = { S with cur := N, safe := N, pend := [] } := ⟨_, rfl⟩
      have hunder : ∀ left bz, (∀ f, Dir.came N left f = false) → S.under N bz left = S1 := by
        intro left bz hl
        rw [hS1]
        unfold St.under
        simp only [hl, Bool.false_eq_true, if_false]
      have hSN : S.names names.toNat = N := by rw [HNe.out]; exact HNK.out
      have okU : ∀ left, Ok (S.under N bytes.toNat left) := fun left => by
        have := H.out.ok.under (n := names.toNat) bytes.toNat left
        rw [hSN] at this
        exact this
      have ok1 : Ok S1 := by
        have := okU (fun _ => true)
        rw [hunder _ _ (fun f => by unfold Dir.came; rw [List.any_eq_false]; intro p _; simp)] at this
        exact this
      have h1F : DkR w1 (fun i => F i ∨ fresh w w1 i) d S mc ms A c R := h1.mono (fun _ h => .inl h) (fun i hi => hi.elim (h1.lt i) (fun h => h.2))
      have hNlt := HN1.out.lt
      have hFb : ∀ x, some b = some x → (F x ∨ fresh w w1 x) := fun x hx => by injection hx with hx; subst hx; exact .inr ⟨HB1.out, hNlt⟩
      have h4 := h1F.turn (S' := S1) (mc' := some b) (ms' := some b) (A' := none) (c' := 0) k4 (by rw [b4, hS1]; rfl) (by rw [hS1]) (by rw [hS1]; exact HN1.out) (by rw [hS1]; exact HN1.out) (by rw [hS1]; exact World.ownsRow_nil _ _ _ _) hFb hFb (fun _ hx => by cases hx) ok1
      have kw4 : Kept F w (((w1.setCell ⟨d, 2, none⟩ (.map (some b))).setCell ⟨d, 1, none⟩ (.map (some b))).setCell ⟨d, 3, none⟩ (.slice none 0 0)) :=
        (HK1.out.mono (fun _ _ h => h.elim)).trans k4 (fun i _ e => e ▸ H.out.fd)
      have H4 := Lib.hid h4
      have KW4 := Lib.hid kw4
      have HS1 := Lib.hid hS1
      have HU := Lib.hid hunder
      have OKU := Lib.hid okU
      have HSN := Lib.hid hSN
      have hcurS1 : S1.cur = N := by rw [hS1]
      have HCS := Lib.hid hcurS1
      clear h4 kw4 hS1 hunder okU hSN hcurS1 h1F hFb k4 b4 ok1 h1
      go_wp2_with (at_range; refine wpList_mrange rfl _ 54 59 rfl Try.underlying54 b N rfl ?hm ?_)
      case hm => rw [← HCS.out]; exact H4.out.cur
      intro w5 left0 hrg0 hst0 k5 hs5
      have HR0 := Lib.hid hrg0
      have HL0 := Lib.hid (HU.out left0 bytes.toNat (came_all hst0))
      have h5 := H4.out.keep k5 (fun _ _ h => h)
      have KW5 := Lib.hid (KW4.out.trans k5 (fun _ _ h => h.elim))
      have HF : Hid (∀ i, (F i ∨ fresh w w1 i) → i < w1.heap.size) := Lib.hid fun i hi => hi.elim (fun h => Nat.lt_of_lt_of_le (H.out.lt i h) HK1.out.size) (fun h => h.2)
      have hdw1 : d < w1.heap.size := lt_of_blk hb1
      rw [← HL0.out] at h5
      have H5 := Lib.hid h5
      have HND := Lib.hid HN1.out.nodup
      have hwr : Hid (w.heap.size ≤ w1.heap.size) := Lib.hid HK1.out.size
      clear h5 hrg0 hst0 k5 e1 e2 e3 e7 f1 f3 hb1 H4 KW4 hsz4
      go_wp2
      go_loopw [8] (fun _ wr => ∃ (left : Lit → Bool) (cnt : Nat), Hid (Rng wr b w1.heap.size N left cnt) ∧ Hid (DkR wr (fun i => F i ∨ fresh w w1 i) d (S.under N bytes.toNat left) (some b) (some b) none 0 R) ∧ Hid (Kept F w wr)) (fun _ wr => wr.rangeLeft b w1.heap.size)
      case atStart => exact ⟨left0, N.length, HR0, H5, KW5⟩
      case round =>
        obtain ⟨left, cnt, HR, HD, HKF⟩ := hrel
        go_wp2_with (at_next; refine wpList_mnext rfl _ rfl b w1.heap.size N left cnt rfl HR.out ?_ ?_)
        · intro hdone
          have hd6 := HD.out
          have hbk := hd6.blk
          have g7 : wr.cell? ⟨d, 7, none⟩ = some (.bool S.down) := cell_of_row _ _ _ _ _ _ hbk
          have g7f : wr.frozen? ⟨d, 7, none⟩ = false := frozen_of_row _ _ _ _ _ hbk
          have k7 : Kept (fun i => i = d) wr (wr.setCell ⟨d, 7, none⟩ (.bool false)) := Kept.setCell wr (by rfl) _
          have b7 := heap_setCell_same wr d 7 _ 57 (.bool false) hbk
          have o := hd6.ok
          have h7 := hd6.turn (S' := { S.under N bytes.toNat left with down := false }) k7 (by rw [b7]; rfl) rfl hd6.cur hd6.safe hd6.pend hd6.fcur hd6.fsafe hd6.fpend ⟨o.cur_len, o.safe_len, o.fl_len, o.cur_fl, o.safe_fl, o.pend_fl, o.pend_name, o.room_le, o.calls_le, o.vol_le, o.left_lo, o.left_hi⟩
          have hfin : St.arm { S.under N bytes.toNat left with down := false } (-1) = S.restart names bytes := by
            unfold St.arm St.restart St.under
            rw [HSN.out]
            simp only [came_none hdone]
            rfl
          have H7 := Lib.hid h7
          have K7 := Lib.hid k7
          have HFIN := Lib.hid hfin
          clear h7 k7 hfin b7 o hbk hd6
          go_wp2_with fail
          refine (arm_any _ d _ (-1) (some b) (some b) none 0 R _ H7.out (by omega) (by omega)).mono ?_
          rintro e w8 ⟨rfl, h8, k8⟩
          rw [HFIN.out] at h8
          have HD8 := Lib.hid (show Did F w w8 d (S.restart names bytes) from by
            have k78 := K7.out.step k8
            refine ⟨HKF.out.trans k78 (fun i _ e => e ▸ H.out.fd), (h8.mono (fun i hi => hi.imp id fun h9 => ⟨h9.1, Nat.lt_of_lt_of_le (h8.lt i (.inr h9)) (Nat.le_refl _)⟩) (fun i hi => hi.elim (fun h9 => h8.lt i (.inl h9)) (fun h9 => h9.2))).dk⟩)
          clear h8 k8
          go_wp2
          go_end0
          exact ⟨rfl, HD8.out⟩
        · intro s f w6 cnt6 hmem hl hsl hrg6 hlt6 k6 hsz6 hen
          have h6 := HD.out.keep k6 (fun i hi e => by have := HF.out i hi; omega)
          obtain ⟨l, hfl⟩ := Option.isSome_iff_exists.1 (h6.ok.cur_fl (s, f) hmem)
          have hfil := h6.fil f l hfl
          have hvol := (h6.ok.fl_len f l hfl).1
          have hsafe := (h6.ok.fl_len f l hfl).2
          obtain ⟨z, hz⟩ : ∃ z, l.data.length = l.safe + z := ⟨l.data.length - l.safe, by omega⟩
          have hbk := hfil.blk
          rw [hz] at hbk
          have hlcap : l.safe + z ≤ (R f).2 := by obtain ⟨_, _, e, hle⟩ := own_form hfil.own; injection e with _ _ e; omega
          obtain ⟨sf, hsf⟩ : ∃ sf, sf = l.safe := ⟨_, rfl⟩
          rw [← hsf] at hbk hlcap
          have q0 : w6.cell? ⟨f, 0, none⟩ = some (.slice (R f).1 (sf + z) (R f).2) := cell_of_row _ _ _ _ _ _ hbk
          have q1 : w6.cell? ⟨f, 1, none⟩ = some (.int .i64 (sf : Int)) := cell_of_row _ _ _ _ _ _ hbk
          obtain ⟨m, hm⟩ : ∃ m, m = min bytes.toNat z := ⟨_, rfl⟩
          have hmz : m ≤ z := by omega
          have hbig : sf + z ≤ 1000000000 := by have := h6.ok.vol_le; have h9 : (S.under N bytes.toNat left).vol = S.vol := rfl; omega
          have HRG := Lib.hid hrg6
          have H6 := Lib.hid h6
          have HFL := Lib.hid hfl
          have HFI := Lib.hid hfil
          have HZ := Lib.hid hz
          have HSF := Lib.hid hsf
          have HMEM := Lib.hid hmem
          have HM := Lib.hid hm
          have HSAFE := Lib.hid hsafe
          have HVOL := Lib.hid hvol
          have K6 := Lib.hid k6
          have HSZ6 := Lib.hid hsz6
          have HM3 := Lib.hid (show wr.rangeLeft b w1.heap.size = cnt from World.ranges.left_eq HR.out)
          clear hrg6 h6 hfl hfil hz hsf hmem hbk hsafe hvol k6 hl hsz6
          go_upto_region 7 with (fail)
          go_cut [9] (fun x wc => x = .int .i64 (m : Int) ∧ wc = w6.drew)
          case first =>
            refine wp_region_noPanic ?_
            refine wp_region_held_drew (S := fun w' => w'.cell? ⟨f, 0, none⟩ = some (.slice (R f).1 (sf + z) (R f).2) ∧ w'.cell? ⟨f, 1, none⟩ = some (.int .i64 (sf : Int))) (by kernel_rfl) ⟨q0, q1⟩ (fun hHeld => ?_)
            refine wpAnyH_take (i := 0) (oi := ⟨some 51, Op.move (Operand.tmp 2), 3, _, _, none⟩) (v := ?v0n1k1) rfl (by kernel_rfl) (by kernel_rfl) (by kernel_rfl) (fun _ _ _ h => h) (Or.inl ⟨by rfl, ?y0n1k1⟩) hHeld ?z0n1k1
            case y0n1k1 => intro w hSw; (try dsimp only at hSw); go_simp <;> rfl
            try simp only [Act.put, List.setIfInBounds_toArray, List.set_cons_zero, List.set_cons_succ]
            refine wpAnyH_take (i := 1) (oi := ⟨some 52, Op.call { callee := Callee.builtin Builtin.max, args := #[Operand.tmp 51, Operand.const (Value.int IntKind.i64 0)], argTypes := #[3, 3] }, 3, _, _, none⟩) (v := ?v1n1k2) rfl (by kernel_rfl) (by kernel_rfl) (by kernel_rfl) (fun _ _ _ h => h) (Or.inl ⟨by rfl, ?y1n1k2⟩) hHeld ?z1n1k2
            case y1n1k2 => intro w hSw; (try dsimp only at hSw); go_simp <;> rfl
            try simp only [Act.put, List.setIfInBounds_toArray, List.set_cons_zero, List.set_cons_succ]
            refine wpAnyH_take (i := 2) (oi := ⟨some 53, Op.move (Operand.tmp 8), 59, _, _, none⟩) (v := ?v2n1k3) rfl (by kernel_rfl) (by kernel_rfl) (by kernel_rfl) (fun _ _ _ h => h) (Or.inl ⟨by rfl, ?y2n1k3⟩) hHeld ?z2n1k3
            case y2n1k3 => intro w hSw; (try dsimp only at hSw); go_simp <;> rfl
            try simp only [Act.put, List.setIfInBounds_toArray, List.set_cons_zero, List.set_cons_succ]
            refine wpAnyH_take (i := 3) (oi := ⟨some 54, Op.nilCheck (Operand.tmp 53), 0, _, _, none⟩) (v := ?v3n1k4) rfl (by kernel_rfl) (by kernel_rfl) (by kernel_rfl) (fun _ _ _ h => h) (Or.inl ⟨by rfl, ?y3n1k4⟩) hHeld ?z3n1k4
            case y3n1k4 => intro w hSw; (try dsimp only at hSw); go_simp <;> rfl
            try simp only [Act.put, List.setIfInBounds_toArray, List.set_cons_zero, List.set_cons_succ]
            refine wpAnyH_take (i := 4) (oi := ⟨some 55, Op.fieldAddr 61 (Operand.tmp 54) 0, 0, _, _, none⟩) (v := ?v4n1k5) rfl (by kernel_rfl) (by kernel_rfl) (by kernel_rfl) (fun _ _ _ h => h) (Or.inl ⟨by rfl, ?y4n1k5⟩) hHeld ?z4n1k5
            case y4n1k5 => intro w hSw; (try dsimp only at hSw); go_simp <;> rfl
            try simp only [Act.put, List.setIfInBounds_toArray, List.set_cons_zero, List.set_cons_succ]
            refine wpAnyH_take (i := 5) (oi := ⟨some 56, Op.load 32 (Operand.tmp 55), 32, _, _, none⟩) (v := ?v5n1k6) rfl (by kernel_rfl) (by kernel_rfl) (by kernel_rfl) (fun _ _ _ h => h) (Or.inl ⟨by rfl, ?y5n1k6⟩) hHeld ?z5n1k6
            case y5n1k6 => intro w hSw; (try dsimp only at hSw); go_simp <;> rfl
            try simp only [Act.put, List.setIfInBounds_toArray, List.set_cons_zero, List.set_cons_succ]
            refine wpAnyH_take (i := 6) (oi := ⟨some 57, Op.call { callee := Callee.builtin Builtin.len, args := #[Operand.tmp 56], argTypes := #[32] }, 3, _, _, none⟩) (v := ?v6n1k7) rfl (by kernel_rfl) (by kernel_rfl) (by kernel_rfl) (fun _ _ _ h => h) (Or.inl ⟨by rfl, ?y6n1k7⟩) hHeld ?z6n1k7
            case y6n1k7 => intro w hSw; (try dsimp only at hSw); go_simp <;> rfl
            try simp only [Act.put, List.setIfInBounds_toArray, List.set_cons_zero, List.set_cons_succ]
            refine wpAnyH_take (i := 7) (oi := ⟨some 58, Op.move (Operand.tmp 8), 59, _, _, none⟩) (v := ?v7n1k8) rfl (by kernel_rfl) (by kernel_rfl) (by kernel_rfl) (fun _ _ _ h => h) (Or.inl ⟨by rfl, ?y7n1k8⟩) hHeld ?z7n1k8
            case y7n1k8 => intro w hSw; (try dsimp only at hSw); go_simp <;> rfl
            try simp only [Act.put, List.setIfInBounds_toArray, List.set_cons_zero, List.set_cons_succ]
            refine wpAnyH_take (i := 8) (oi := ⟨some 59, Op.nilCheck (Operand.tmp 58), 0, _, _, none⟩) (v := ?v8n1k9) rfl (by kernel_rfl) (by kernel_rfl) (by kernel_rfl) (fun _ _ _ h => h) (Or.inl ⟨by rfl, ?y8n1k9⟩) hHeld ?z8n1k9
            case y8n1k9 => intro w hSw; (try dsimp only at hSw); go_simp <;> rfl
            try simp only [Act.put, List.setIfInBounds_toArray, List.set_cons_zero, List.set_cons_succ]
            refine wpAnyH_take (i := 9) (oi := ⟨some 60, Op.fieldAddr 61 (Operand.tmp 59) 1, 0, _, _, none⟩) (v := ?v9n1k10) rfl (by kernel_rfl) (by kernel_rfl) (by kernel_rfl) (fun _ _ _ h => h) (Or.inl ⟨by rfl, ?y9n1k10⟩) hHeld ?z9n1k10
            case y9n1k10 => intro w hSw; (try dsimp only at hSw); go_simp <;> rfl
            try simp only [Act.put, List.setIfInBounds_toArray, List.set_cons_zero, List.set_cons_succ]
            refine wpAnyH_take (i := 10) (oi := ⟨some 61, Op.load 3 (Operand.tmp 60), 3, _, _, none⟩) (v := ?v10n1k11) rfl (by kernel_rfl) (by kernel_rfl) (by kernel_rfl) (fun _ _ _ h => h) (Or.inl ⟨by rfl, ?y10n1k11⟩) hHeld ?z10n1k11
            case y10n1k11 => intro w hSw; (try dsimp only at hSw); go_simp <;> rfl
            try simp only [Act.put, List.setIfInBounds_toArray, List.set_cons_zero, List.set_cons_succ]
            refine wpAnyH_take (i := 11) (oi := ⟨some 62, Op.binOp BinOp.sub 3 (Operand.tmp 57) (Operand.tmp 61) 3, 3, _, _, none⟩) (v := ?v11n1k12) rfl (by kernel_rfl) (by kernel_rfl) (by kernel_rfl) (fun _ _ _ h => h) (Or.inl ⟨by rfl, ?y11n1k12⟩) hHeld ?z11n1k12
            case y11n1k12 => intro w hSw; (try dsimp only at hSw); go_simp <;> rfl
            try simp only [Act.put, List.setIfInBounds_toArray, List.set_cons_zero, List.set_cons_succ]
            refine wpAnyH_take (i := 12) (oi := ⟨some 63, Op.call { callee := Callee.builtin Builtin.min, args := #[Operand.tmp 52, Operand.tmp 62], argTypes := #[3, 3] }, 3, _, _, none⟩) (v := ?v12n1k13) rfl (by kernel_rfl) (by kernel_rfl) (by kernel_rfl) (fun _ _ _ h => h) (Or.inl ⟨by rfl, ?y12n1k13⟩) hHeld ?z12n1k13
            case y12n1k13 => intro w hSw; (try dsimp only at hSw); go_simp <;> rfl
            try simp only [Act.put, List.setIfInBounds_toArray, List.set_cons_zero, List.set_cons_succ]
            refine wpAnyH_take (i := 13) (oi := ⟨some 9, Op.assign (Operand.tmp 63), 3, _, _, none⟩) (v := ?v13n1k14) rfl (by kernel_rfl) (by kernel_rfl) (by kernel_rfl) (fun _ _ _ h => h) (Or.inl ⟨by rfl, ?y13n1k14⟩) hHeld ?z13n1k14
            case y13n1k14 => intro w hSw; (try dsimp only at hSw); go_simp <;> rfl
            try simp only [Act.put, List.setIfInBounds_toArray, List.set_cons_zero, List.set_cons_succ]
            refine wpAnyH_done (by kernel_rfl) ?_ _
            refine NoPanic.normal ?_
            go_wp2
            all_goals
              go_meet
              case rel =>
                have hwz : IntKind.i64.wrap ((sf : Int) + (z : Int) - (sf : Int)) = (z : Int) := by rw [wrap_small (by omega) (by omega)]; omega
                refine ⟨?_, rfl⟩
                congr 1
                omega
          case rest =>
            obtain ⟨rfl, rfl⟩ := hcut
            have h6 := H6.out.keep (Kept.drew noBlock w6) (fun _ _ h => h)
            have hfi := h6.fil f l HFL.out
            have hfk := fkeep_any f (R f) l (sf + m) w6.drew hfi (by rw [HZ.out, HSF.out]; omega) HSAFE.out
            rw [Int.natCast_add] at hfk
            clear hm
            go_wp2_with fail
            refine hfk.mono ?_
            rintro e w7 ⟨rfl, h7, k7, hsz7⟩
            have hkd : (l.data.take (sf + m)).length = sf + m := by rw [List.length_take, HZ.out, ← HSF.out]; omega
            have hb7 := h7.blk
            unfold Fl.keep at hb7
            simp only [hkd] at hb7
            have g0 : w7.cell? ⟨f, 0, none⟩ = some (.slice (R f).1 (sf + m) (R f).2) := cell_of_row _ _ _ _ _ _ hb7
            have g1 : w7.cell? ⟨f, 1, none⟩ = some (.int .i64 (min l.safe (sf + m) : Nat)) := cell_of_row _ _ _ _ _ _ hb7
            have gf : w7.frozen? ⟨f, 1, none⟩ = false := frozen_of_row _ _ _ _ _ hb7
            have b8 := heap_setCell_same w7 f 1 _ 61 (.int .i64 ((sf + m : Nat) : Int)) hb7
            have k8 : Kept (fun i => i = f) w7 (w7.setCell ⟨f, 1, none⟩ (.int .i64 ((sf + m : Nat) : Int))) := Kept.setCell w7 (by rfl) _
            have ho8 := own_keep h7.own k8 (fun i hi e => by subst e; exact own_ne h7.own h7.blk (by decide) hi)
            unfold Fl.keep at ho8
            simp only [hkd] at ho8
            have hback : l.back bytes.toNat = ⟨l.data.take (sf + m), sf + m⟩ := by
              unfold Fl.back
              have e1 : l.data.length - l.safe = z := by have := HZ.out; omega
              rw [e1, ← HSF.out, ← HM.out]
            have h8 := h6.fileHere HFL.out (k7.step k8) (l' := l.back bytes.toNat) (by rw [hback]; exact ⟨by rw [b8]; simp only [hkd]; rfl, by simp only [hkd]; exact ho8⟩) (by rw [show (w7.setCell ⟨f, 1, none⟩ (.int .i64 ((sf + m : Nat) : Int))).heap.size = w7.heap.size from by simp [World.setCell]]; exact hsz7) (Nat.le_trans (l.back_le _) HVOL.out) (by rw [l.back_len _ HSAFE.out]; exact Nat.le_refl _)
            rw [under_step (fun f l hf => (H.out.ok.fl_len f l hf).2) HND.out HMEM.out HFL.out] at h8
            have H8 := Lib.hid h8
            have k68 : Kept (fun i => i = f) w6 (w7.setCell ⟨f, 1, none⟩ (.int .i64 ((sf + m : Nat) : Int))) := (Kept.drew (fun i => i = f) w6).step (k7.step k8)
            have hr8 := HRG.out.keep k68 (HRG.out.nm.ne HFI.out.blk) (HRG.out.ne HFI.out.blk)
            have HR8 := Lib.hid hr8
            have hkF : Kept F w (w7.setCell ⟨f, 1, none⟩ (.int .i64 ((sf + m : Nat) : Int))) :=
              (HKF.out.trans K6.out (fun i hi e => by have := hwr.out; omega)).trans k68 (fun i hi e => by
                subst e
                rcases (H6.out.ffil i l HFL.out).1 with h9 | h9
                · exact h9
                · exact absurd h9.1 (by omega))
            have HKF8 := Lib.hid hkF
            have HM2 := Lib.hid (show (w7.setCell ⟨f, 1, none⟩ (.int .i64 ((sf + m : Nat) : Int))).rangeLeft b w1.heap.size = cnt6 from World.ranges.left_eq hr8)
            clear h8 hr8 hkF k68 b8 k8 ho8 hb7 h7 k7 hfk hfi h6 hback hkd q0 q1
            go_wp2
            go_roundw
            case rel => exact ⟨_, cnt6, HR8, H8, HKF8⟩
            case measure => have h9 := HM2.out; rw [Int.natCast_add] at h9; rw [h9, HM3.out]; exact hlt6
end Go.Proofs.Ytdcccjkondjhbaa
