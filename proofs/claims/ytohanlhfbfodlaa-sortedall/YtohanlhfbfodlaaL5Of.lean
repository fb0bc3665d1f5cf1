/-
  Layer 5: Of; two maps that are apart. No statement is proved here.
-/
import Derived.Test.YtohanlhfbfodlaaL5Acts
import Derived.Test.YtohanlhfbfodlaaSorted5II
namespace Go.Proofs.Ytohanlhfbfodlaa
open Go.RowKit

/-- What Of makes of deeds. -/
def ofL (xs : List ActV) : List (Int × Int) := xs.foldl (fun N x => Srt.put N x.key (x.val : Int)) []
theorem ofL_snoc (xs : List ActV) (x : ActV) : ofL (xs ++ [x]) = Srt.put (ofL xs) x.key (x.val : Int) := by simp [ofL]
theorem ofL_up (xs : List ActV) : Srt.Up (ofL xs) := by
  induction xs using rev_ind with
  | h0 => exact List.Pairwise.nil
  | h1 l a ih => rw [ofL_snoc]; exact Srt.up_put ih _ _
theorem ofL_len (xs : List ActV) : (ofL xs).length ≤ xs.length := by
  induction xs using rev_ind with
  | h0 => exact Nat.le_refl _
  | h1 l a ih =>
    rw [ofL_snoc, Srt.put_len, List.length_append]
    split <;> simp <;> omega
/-- All keys are numbers of eight bits. -/
def Small (L : List (Int × Int)) : Prop := ∀ p ∈ L, -128 ≤ p.1 ∧ p.1 ≤ 127
theorem ofL_small {xs : List ActV} (h : ∀ x ∈ xs, x.fit) : Small (ofL xs) := by
  induction xs using rev_ind with
  | h0 => intro p hp; cases hp
  | h1 l a ih =>
    intro p hp
    rw [ofL_snoc] at hp
    rcases (Srt.mem_put (ofL_up l) _ _ p).1 hp with rfl | ⟨hp, _⟩
    · have := h a (by simp); exact ⟨this.lo, this.hi⟩
    · exact ih (fun x hx => h x (by simp [hx])) p hp

set_option maxRecDepth 100000 in
set_option maxHeartbeats 1000000 in
theorem of_any (F : Nat → Prop) (a : Option Addr) (n c : Nat) (xs : List ActV) (w : World) (h : Lies w F a (actCells xs)) (hx : ∀ x ∈ xs, x.fit) (hl : xs.length = n) (hc : n ≤ c) :
    Calls Try.prog 19 #[.slice a n c] w fun e w' => ∃ m, e = .returned (.pointer (some ⟨m, 0, none⟩)) ∧ II.Own w.heap.size w' m (ofL (xs.take 60)) ∧ Kept noBlock w w' := by
  obtain ⟨M, hme⟩ : ∃ M, M = min n 60 := ⟨_, rfl⟩
  have q1 : (if (60 : Int) < (n : Int) then (60 : Int) else (n : Int)) = (M : Int) := by split <;> omega
  have i1 : (M : Int) ≤ c := by omega
  have hmn : M ≤ n := by omega
  have hm60 : M ≤ 60 := by omega
  have htk : xs.take 60 = xs.take M := by
    rcases Nat.lt_or_ge 60 n with h1 | h1
    · rw [show M = 60 by omega]
    · rw [show M = n by omega, List.take_of_length_le (by omega), List.take_of_length_le (by omega)]
  rw [htk]
  have HX := Lib.hid hx; clear hx
  have HL := Lib.hid hl; clear hl
  have H := Lib.hid h; clear h
  clear hme htk
  go_enter Try.func19, Try.ntmps19
  have o0 : II.Own w.heap.size (w.alloc (.cells #[.slice none 0 0] 27)) w.heap.size [] := II.Own.new (Nat.le_refl _)
  have O0 := Lib.hid o0; clear o0
  have K0 := Lib.hid (Kept.alloc noBlock w (.cells #[.slice none 0 0] 27))
  go_wp2_with fail
  obtain ⟨m, hm⟩ : ∃ m, m = w.heap.size := ⟨_, rfl⟩
  rw [← hm] at O0 ⊢
  generalize w.alloc (.cells #[.slice none 0 0] 27) = w0 at O0 K0 ⊢
  have HM := Lib.hid hm; clear hm
  go_loopw [14] (fun v wr => ∃ k : Nat, k ≤ M ∧ v = .int .i64 (k : Int) ∧ Hid (II.Own m wr m (ofL (xs.take k))) ∧ Hid (Kept noBlock w wr)) (fun v _ => M - (intOf v).toNat)
  case atStart => exact ⟨0, Nat.zero_le _, rfl, O0, K0⟩
  case round =>
    clear O0 K0
    obtain ⟨k, hk, rfl, HO, HK⟩ := hrel
    by_cases hlt : k < M
    · obtain ⟨x, hxk⟩ : ∃ x, xs[k]? = some x := ⟨xs[k]'(by rw [HL.out]; omega), List.getElem?_eq_getElem _⟩
      obtain ⟨g, o, rfl, c0, c1, c2⟩ := acts_at H.out HK.out hxk
      obtain ⟨f1, f2, f3, f4⟩ := HX.out x (List.mem_of_getElem? hxk)
      have hsn := take_snoc xs k x hxk
      obtain ⟨op, key, val⟩ := x
      simp only at c0 c1 c2 f1 f2 f3 f4
      have ka : Kept noBlock wr (wr.alloc (.cells #[.int .u8 (op : Int), .int .i8 key, .int .u16 (val : Int)] 36)) := Kept.alloc _ _ _
      have hws : m ≤ (wr.alloc (.cells #[.int .u8 (op : Int), .int .i8 key, .int .u16 (val : Int)] 36)).heap.size := by have := HK.out.size; have := HM.out; simp; omega
      have hlen : (ofL (xs.take k)).length < 1048576 := by have := ofL_len (xs.take k); rw [List.length_take] at this; omega
      have P := Lib.hid ((HO.out.kept ka).put key (val : Int) hlen hws)
      rw [show Srt.put (ofL (xs.take k)) key (val : Int) = ofL (xs.take (k + 1)) from by rw [hsn, ofL_snoc]] at P
      have KA := Lib.hid (HK.out.step ka)
      unfold II.ek II.ev at P
      clear hxk hsn ka hws hlen HO
      go_wp2_with fail
      refine P.out.mono ?_
      rintro e w2 ⟨rfl, o2, k2⟩
      have O2 := Lib.hid o2
      have K2 := Lib.hid (KA.out.trans k2 (fun i hi h => by have := HM.out; omega))
      clear o2 k2 P KA c0 c1 c2
      go_wp2
      go_roundw
      case rel => exact ⟨k + 1, by omega, by go_num, O2, K2⟩
      case measure => simp [intOf]; omega
    · obtain rfl : k = M := by omega
      go_wp2
      go_ret
      exact ⟨m, rfl, by have := HM.out; rw [← this]; exact HO.out, HK.out⟩

/-- Two maps, in blocks that came since w, apart from each other and from the blocks of E. -/
def TwoR (w wr : World) (x y : Nat) (Lx Ly : List (Int × Int)) (E : List Nat) (F G : Nat → Prop) : Prop :=
  II.Mp wr F x Lx ∧ II.Mp wr G y Ly ∧ (∀ i, F i → ¬ G i) ∧ (∀ i, F i → w.heap.size ≤ i) ∧ (∀ i, G i → w.heap.size ≤ i) ∧ Kept noBlock w wr ∧ ∀ e ∈ E, e < wr.heap.size ∧ ¬ F e ∧ ¬ G e
def Two (w wr : World) (x y : Nat) (Lx Ly : List (Int × Int)) (E : List Nat) : Prop := ∃ F G : Nat → Prop, TwoR w wr x y Lx Ly E F G
/-- What one who goes over maps does between two things leaves them. -/
theorem TwoR.abide {w A B : World} {x y m0 : Nat} {Lx Ly : List (Int × Int)} {E : List Nat} {F G : Nat → Prop} {T : Nat → TypeId → Prop} (h : TwoR w A x y Lx Ly E F G) (k : Abide T m0 A B) (hF : ∀ i, F i → i < m0) (hG : ∀ i, G i → i < m0) (hw : w.heap.size ≤ m0) : TwoR w B x y Lx Ly E F G := by
  obtain ⟨h1, h2, a1, a2, a3, h4, h5⟩ := h
  exact ⟨h1.keep k.keptLow (fun i hi => by have := hF i hi; omega), h2.keep k.keptLow (fun i hi => by have := hG i hi; omega), a1, a2, a3, Abide.kept h4 k hw, fun e he => ⟨Nat.lt_of_lt_of_le (h5 e he).1 k.size, (h5 e he).2⟩⟩
theorem TwoR.keep {S : Nat → Prop} {w A B : World} {x y : Nat} {Lx Ly : List (Int × Int)} {E : List Nat} {F G : Nat → Prop} (h : TwoR w A x y Lx Ly E F G) (k : Kept S A B) (hS : ∀ i, S i → i ∈ E ∧ w.heap.size ≤ i) : TwoR w B x y Lx Ly E F G := by
  obtain ⟨h1, h2, a1, a2, a3, h4, h5⟩ := h
  exact ⟨h1.keep k (fun i hi hs => (h5 i (hS i hs).1).2.1 hi), h2.keep k (fun i hi hs => (h5 i (hS i hs).1).2.2 hi), a1, a2, a3, h4.trans k (fun i hi hs => by have := (hS i hs).2; omega), fun e he => ⟨Nat.lt_of_lt_of_le (h5 e he).1 k.size, (h5 e he).2⟩⟩
theorem TwoR.kept {w A B : World} {x y : Nat} {Lx Ly : List (Int × Int)} {E : List Nat} {F G : Nat → Prop} (h : TwoR w A x y Lx Ly E F G) (k : Kept noBlock A B) : TwoR w B x y Lx Ly E F G := h.keep k (fun _ h => h.elim)
theorem TwoR.two {w A : World} {x y : Nat} {Lx Ly : List (Int × Int)} {E : List Nat} {F G : Nat → Prop} (h : TwoR w A x y Lx Ly E F G) : Two w A x y Lx Ly E := ⟨F, G, h⟩
/-- Blocks that are as they were. -/
def Same (E : List Nat) (A B : World) : Prop := ∀ e ∈ E, B.heap[e]? = A.heap[e]?
theorem Same.refl (E : List Nat) (A : World) : Same E A A := fun _ _ => rfl
theorem Same.trans {E : List Nat} {A B C : World} (h : Same E A B) (k : Same E B C) : Same E A C := fun e he => (k e he).trans (h e he)
section
variable {w wr w' : World} {x y : Nat} {Lx Ly : List (Int × Int)} {E : List Nat}
theorem Two.world (h : Two w wr x y Lx Ly E) : Kept noBlock w wr := by obtain ⟨_, _, _, _, _, _, _, h, _⟩ := h; exact h
theorem Two.upx (h : Two w wr x y Lx Ly E) : Srt.Up Lx := by obtain ⟨_, _, h, _⟩ := h; exact h.up
theorem Two.upy (h : Two w wr x y Lx Ly E) : Srt.Up Ly := by obtain ⟨_, _, _, h, _⟩ := h; exact h.up
theorem Two.keep {S : Nat → Prop} (h : Two w wr x y Lx Ly E) (k : Kept S wr w') (hS : ∀ i, S i → i ∈ E ∧ w.heap.size ≤ i) : Two w w' x y Lx Ly E := by
  obtain ⟨F, G, h⟩ := h
  exact ⟨F, G, h.keep k hS⟩
theorem Two.kept (h : Two w wr x y Lx Ly E) (k : Kept noBlock wr w') : Two w w' x y Lx Ly E := h.keep k (fun _ h => h.elim)
theorem same_kept {E : List Nat} {A B : World} (k : Kept noBlock A B) (h : ∀ e ∈ E, e < A.heap.size) : Same E A B := fun e he => k.block e (h e he) (fun h => h)
theorem Two.same (h : Two w wr x y Lx Ly E) (k : Kept noBlock wr w') : Same E wr w' := by
  obtain ⟨F, G, _, _, _, _, _, _, h5⟩ := h
  exact same_kept k (fun e he => (h5 e he).1)
theorem Two.more (h : Two w wr x y Lx Ly E) (k : Kept noBlock wr w') (b : Nat) (h1 : wr.heap.size ≤ b) (h2 : b < w'.heap.size) : Two w w' x y Lx Ly (b :: E) := by
  obtain ⟨F, G, m1, m2, a1, a2, a3, h4, h5⟩ := h
  refine ⟨F, G, m1.kept k, m2.kept k, a1, a2, a3, h4.step k, fun e he => ?_⟩
  rcases List.mem_cons.1 he with rfl | he
  · exact ⟨h2, fun hf => by have := m1.lt _ hf; omega, fun hg => by have := m2.lt _ hg; omega⟩
  · exact ⟨Nat.lt_of_lt_of_le (h5 e he).1 k.size, (h5 e he).2⟩
theorem Two.less {E' : List Nat} (h : Two w wr x y Lx Ly E) (hE : ∀ e ∈ E', e ∈ E) : Two w wr x y Lx Ly E' := by
  obtain ⟨F, G, h1, h2, a1, a2, a3, h4, h5⟩ := h
  exact ⟨F, G, h1, h2, a1, a2, a3, h4, fun e he => h5 e (hE e he)⟩
theorem Two.swap (h : Two w wr x y Lx Ly E) : Two w wr y x Ly Lx E := by
  obtain ⟨F, G, h1, h2, a1, a2, a3, h4, h5⟩ := h
  exact ⟨G, F, h2, h1, fun i hg hf => a1 i hf hg, a3, a2, h4, fun e he => ⟨(h5 e he).1, (h5 e he).2.2, (h5 e he).2.1⟩⟩
theorem Two.mapx (h : Two w wr x y Lx Ly E) : ∃ F, II.Mp wr F x Lx ∧ (∀ i, F i → w.heap.size ≤ i) ∧ ∀ e ∈ E, ¬ F e := by
  obtain ⟨F, G, h1, h2, a1, a2, a3, h4, h5⟩ := h
  exact ⟨F, h1, a2, fun e he => (h5 e he).2.1⟩
theorem Two.get (h : Two w wr x y Lx Ly E) (k : Int) : Calls Try.prog 11 #[.pointer (some ⟨x, 0, none⟩), .int .i64 k] wr fun e w' => e = .returned (.tuple #[.int .i64 ((Srt.look Lx k).getD 0), .bool (Srt.has Lx k)]) ∧ Kept noBlock wr w' := by
  obtain ⟨F, h1, _⟩ := h.mapx
  exact II.get_any F x Lx k wr h1
theorem Two.size (h : Two w wr x y Lx Ly E) : Calls Try.prog 17 #[.pointer (some ⟨x, 0, none⟩)] wr fun e w' => e = .returned (.int .i64 (Lx.length : Nat)) ∧ wr = w' := by
  obtain ⟨F, h1, _⟩ := h.mapx
  exact II.len_any F x Lx wr h1
theorem Two.did {F G : Nat → Prop} {N : List (Int × Int)} (d : II.Did F wr w' x N) (h2 : II.Mp wr G y Ly) (a1 : ∀ i, F i → ¬ G i) (a2 : ∀ i, F i → w.heap.size ≤ i) (a3 : ∀ i, G i → w.heap.size ≤ i) (h4 : Kept noBlock w wr) (h5 : ∀ e ∈ E, e < wr.heap.size ∧ ¬ F e ∧ ¬ G e) :
    Two w w' x y N Ly E ∧ Same E wr w' :=
  ⟨⟨_, G, d.map, h2.keep d.kept (fun i hg hf => a1 i hf hg), fun i hi hg => hi.elim (fun h => a1 i h hg) (fun h => by have := h2.lt i hg; have := h.1; omega), fun i hi => hi.elim (a2 i) (fun h => Nat.le_trans h4.size h.1), a3,
    h4.trans d.kept (fun i hi h => by have := a2 i h; omega), fun e he => ⟨Nat.lt_of_lt_of_le (h5 e he).1 d.kept.size, fun hi => hi.elim (h5 e he).2.1 (fun h => by have := (h5 e he).1; have := h.1; omega), (h5 e he).2.2⟩⟩,
   fun e he => d.kept.block e (h5 e he).1 (h5 e he).2.1⟩
theorem Two.put (h : Two w wr x y Lx Ly E) (k v : Int) (hl : Lx.length < 1048576) : Calls Try.prog 15 #[.pointer (some ⟨x, 0, none⟩), .int .i64 k, .int .i64 v] wr fun e w' => e = .returned (.bool (!Srt.has Lx k)) ∧ Two w w' x y (Srt.put Lx k v) Ly E ∧ Same E wr w' := by
  obtain ⟨F, G, h1, h2, a1, a2, a3, h4, h5⟩ := h
  exact (II.put_any F x Lx k v wr h1 hl).mono fun e w' ⟨he, d⟩ => ⟨he, Two.did d h2 a1 a2 a3 h4 h5⟩
theorem Two.del (h : Two w wr x y Lx Ly E) (k : Int) : Calls Try.prog 13 #[.pointer (some ⟨x, 0, none⟩), .int .i64 k] wr fun e w' => e = .returned (.bool (Srt.has Lx k)) ∧ Two w w' x y (Srt.del Lx k) Ly E ∧ Same E wr w' := by
  obtain ⟨F, G, h1, h2, a1, a2, a3, h4, h5⟩ := h
  exact (II.mdel_any F x Lx k wr h1).mono fun e w' ⟨he, d⟩ => ⟨he, Two.did d h2 a1 a2 a3 h4 h5⟩
/-- Two maps, one made behind the other. -/
theorem Two.of {w0 w1 w2 : World} (k0 : Kept noBlock w w0) (o1 : II.Own w0.heap.size w1 x Lx) (k1 : Kept noBlock w0 w1) (o2 : II.Own w1.heap.size w2 y Ly) (k2 : Kept noBlock w1 w2) (hE : ∀ e ∈ E, e < w0.heap.size) : Two w w2 x y Lx Ly E := by
  obtain ⟨F, m1, f1⟩ := o1
  obtain ⟨G, m2, f2⟩ := o2
  have s0 := k0.size
  have s1 := k1.size
  have s2 := k2.size
  exact ⟨F, G, m1.kept k2, m2, fun i hf hg => by have := m1.lt i hf; have := f2 i hg; omega, fun i hf => by have := f1 i hf; omega, fun i hg => by have := f2 i hg; omega, (k0.step k1).step k2,
    fun e he => ⟨by have := hE e he; omega, fun hf => by have := f1 e hf; have := hE e he; omega, fun hg => by have := f2 e hg; have := hE e he; omega⟩⟩
end
end Go.Proofs.Ytohanlhfbfodlaa
