/-
  SortedScript: what it does with whatever deeds. No statement is proved here.
-/
import Derived.Test.YtohanlhfbfodlaaL5Acts
import Derived.Test.YtohanlhfbfodlaaSorted5II
import Derived.Test.YtohanlhfbfodlaaSorted5SI
import Derived.Test.YtohanlhfbfodlaaTabTI
namespace Go.Proofs.Ytohanlhfbfodlaa
open Go.RowKit Go.Maps

/-- Three maps that are apart, and, if there is one, a deed's cells beside them. -/
def Sc (w wr : World) (m s b : Nat) (N1 : List (Int × Int)) (N2 : List (List UInt8 × Int)) (N3 : List (Int × Int)) (X : Option (Nat × Array Value)) : Prop :=
  ∃ F G : Nat → Prop, II.Mp wr F m N1 ∧ SI.Mp wr G s N2 ∧ TI.Tb wr b N3 ∧ (∀ i, F i → ¬ G i) ∧ ¬ F b ∧ ¬ G b ∧ (∀ i, F i → w.heap.size ≤ i) ∧ (∀ i, G i → w.heap.size ≤ i) ∧ w.heap.size ≤ b ∧ Kept noBlock w wr ∧
    ∀ A cs, X = some (A, cs) → wr.heap[A]? = some (.cells cs 36 (0, 0)) ∧ ¬ F A ∧ ¬ G A
section
variable {w wr w' : World} {m s b : Nat} {N1 : List (Int × Int)} {N2 : List (List UInt8 × Int)} {N3 : List (Int × Int)} {X : Option (Nat × Array Value)}
theorem Sc.world (h : Sc w wr m s b N1 N2 N3 X) : Kept noBlock w wr := by obtain ⟨_, _, _, _, _, _, _, _, _, _, _, h, _⟩ := h; exact h
theorem Sc.table (h : Sc w wr m s b N1 N2 N3 X) : TI.Tb wr b N3 := by obtain ⟨_, _, _, _, h, _⟩ := h; exact h
theorem Sc.kept (h : Sc w wr m s b N1 N2 N3 X) (k : Kept noBlock wr w') : Sc w w' m s b N1 N2 N3 X := by
  obtain ⟨F, G, h1, h2, h3, a1, a2, a3, a4, a5, a6, h4, h5⟩ := h
  exact ⟨F, G, h1.kept k, h2.kept k, h3.keep k (fun h => h), a1, a2, a3, a4, a5, a6, h4.step k, fun A cs e => ⟨k.blk (h5 A cs e).1 (fun h => h), (h5 A cs e).2⟩⟩
theorem Sc.get1 (h : Sc w wr m s b N1 N2 N3 X) (k : Int) : Calls Try.prog 11 #[.pointer (some ⟨m, 0, none⟩), .int .i64 k] wr fun e w' => e = .returned (.tuple #[.int .i64 ((Srt.look N1 k).getD 0), .bool (Srt.has N1 k)]) ∧ Sc w w' m s b N1 N2 N3 X := by
  have h' := h
  obtain ⟨F, G, h1, _⟩ := h'
  exact (II.get_any F m N1 k wr h1).mono fun e w' ⟨he, k⟩ => ⟨he, h.kept k⟩
theorem Sc.get2 (h : Sc w wr m s b N1 N2 N3 X) (k : List UInt8) : Calls Try.prog 12 #[.pointer (some ⟨s, 0, none⟩), .string (str k)] wr fun e w' => e = .returned (.tuple #[.int .i64 ((Srt.look N2 k).getD 0), .bool (Srt.has N2 k)]) ∧ Sc w w' m s b N1 N2 N3 X := by
  have h' := h
  obtain ⟨F, G, _, h1, _⟩ := h'
  exact (SI.get_any G s N2 k wr h1).mono fun e w' ⟨he, k⟩ => ⟨he, h.kept k⟩
theorem Sc.did1 {F G : Nat → Prop} {N : List (Int × Int)} (d : II.Did F wr w' m N) (h2 : SI.Mp wr G s N2) (h3 : TI.Tb wr b N3) (a1 : ∀ i, F i → ¬ G i) (a2 : ¬ F b) (a3 : ¬ G b) (a4 : ∀ i, F i → w.heap.size ≤ i) (a5 : ∀ i, G i → w.heap.size ≤ i) (a6 : w.heap.size ≤ b) (h4 : Kept noBlock w wr)
    (h5 : ∀ A cs, X = some (A, cs) → wr.heap[A]? = some (.cells cs 36 (0, 0)) ∧ ¬ F A ∧ ¬ G A) : Sc w w' m s b N N2 N3 X :=
  ⟨_, G, d.map, h2.keep d.kept (fun i hg hf => a1 i hf hg), h3.keep d.kept a2, fun i hi hg => hi.elim (fun h => a1 i h hg) (fun h => by have := h2.lt i hg; have := h.1; omega), fun hi => hi.elim a2 (fun h => by have := h3.lt; have := h.1; omega), a3,
    fun i hi => hi.elim (a4 i) (fun h => Nat.le_trans h4.size h.1), a5, a6, h4.trans d.kept (fun i hi h => by have := a4 i h; omega),
    fun A cs e => ⟨d.kept.blk (h5 A cs e).1 (h5 A cs e).2.1, fun hi => hi.elim (h5 A cs e).2.1 (fun h => by have := lt_of_blk (h5 A cs e).1; have := h.1; omega), (h5 A cs e).2.2⟩⟩
theorem Sc.did2 {F G : Nat → Prop} {N : List (List UInt8 × Int)} (d : SI.Did G wr w' s N) (h1 : II.Mp wr F m N1) (h3 : TI.Tb wr b N3) (a1 : ∀ i, F i → ¬ G i) (a2 : ¬ F b) (a3 : ¬ G b) (a4 : ∀ i, F i → w.heap.size ≤ i) (a5 : ∀ i, G i → w.heap.size ≤ i) (a6 : w.heap.size ≤ b) (h4 : Kept noBlock w wr)
    (h5 : ∀ A cs, X = some (A, cs) → wr.heap[A]? = some (.cells cs 36 (0, 0)) ∧ ¬ F A ∧ ¬ G A) : Sc w w' m s b N1 N N3 X :=
  ⟨F, _, h1.keep d.kept a1, d.map, h3.keep d.kept a3, fun i hf hi => hi.elim (a1 i hf) (fun h => by have := h1.lt i hf; have := h.1; omega), a2, fun hi => hi.elim a3 (fun h => by have := h3.lt; have := h.1; omega),
    a4, fun i hi => hi.elim (a5 i) (fun h => Nat.le_trans h4.size h.1), a6, h4.trans d.kept (fun i hi h => by have := a5 i h; omega),
    fun A cs e => ⟨d.kept.blk (h5 A cs e).1 (h5 A cs e).2.2, (h5 A cs e).2.1, fun hi => hi.elim (h5 A cs e).2.2 (fun h => by have := lt_of_blk (h5 A cs e).1; have := h.1; omega)⟩⟩
theorem Sc.put1 (h : Sc w wr m s b N1 N2 N3 X) (k v : Int) (hl : N1.length < 1048576) : Calls Try.prog 15 #[.pointer (some ⟨m, 0, none⟩), .int .i64 k, .int .i64 v] wr fun e w' => e = .returned (.bool (!Srt.has N1 k)) ∧ Sc w w' m s b (Srt.put N1 k v) N2 N3 X := by
  obtain ⟨F, G, h1, h2, h3, a1, a2, a3, a4, a5, a6, h4, h5⟩ := h
  exact (II.put_any F m N1 k v wr h1 hl).mono fun e w' ⟨he, d⟩ => ⟨he, Sc.did1 d h2 h3 a1 a2 a3 a4 a5 a6 h4 h5⟩
theorem Sc.put2 (h : Sc w wr m s b N1 N2 N3 X) (k : List UInt8) (v : Int) (hl : N2.length < 1048576) : Calls Try.prog 16 #[.pointer (some ⟨s, 0, none⟩), .string (str k), .int .i64 v] wr fun e w' => e = .returned (.bool (!Srt.has N2 k)) ∧ Sc w w' m s b N1 (Srt.put N2 k v) N3 X := by
  obtain ⟨F, G, h1, h2, h3, a1, a2, a3, a4, a5, a6, h4, h5⟩ := h
  exact (SI.put_any G s N2 k v wr h2 hl).mono fun e w' ⟨he, d⟩ => ⟨he, Sc.did2 d h1 h3 a1 a2 a3 a4 a5 a6 h4 h5⟩
theorem Sc.del1 (h : Sc w wr m s b N1 N2 N3 X) (k : Int) : Calls Try.prog 13 #[.pointer (some ⟨m, 0, none⟩), .int .i64 k] wr fun e w' => e = .returned (.bool (Srt.has N1 k)) ∧ Sc w w' m s b (Srt.del N1 k) N2 N3 X := by
  obtain ⟨F, G, h1, h2, h3, a1, a2, a3, a4, a5, a6, h4, h5⟩ := h
  exact (II.mdel_any F m N1 k wr h1).mono fun e w' ⟨he, d⟩ => ⟨he, Sc.did1 d h2 h3 a1 a2 a3 a4 a5 a6 h4 h5⟩
theorem Sc.del2 (h : Sc w wr m s b N1 N2 N3 X) (k : List UInt8) : Calls Try.prog 14 #[.pointer (some ⟨s, 0, none⟩), .string (str k)] wr fun e w' => e = .returned (.bool (Srt.has N2 k)) ∧ Sc w w' m s b N1 (Srt.del N2 k) N3 X := by
  obtain ⟨F, G, h1, h2, h3, a1, a2, a3, a4, a5, a6, h4, h5⟩ := h
  exact (SI.mdel_any G s N2 k wr h2).mono fun e w' ⟨he, d⟩ => ⟨he, Sc.did2 d h1 h3 a1 a2 a3 a4 a5 a6 h4 h5⟩
theorem Sc.tab {N : List (Int × Int)} (h : Sc w wr m s b N1 N2 N3 X) (t : TI.Tb w' b N) (k : Kept (fun i => i = b) wr w') : Sc w w' m s b N1 N2 N X := by
  obtain ⟨F, G, h1, h2, h3, a1, a2, a3, a4, a5, a6, h4, h5⟩ := h
  exact ⟨F, G, h1.keep k (fun i hi e => a2 (e ▸ hi)), h2.keep k (fun i hi e => a3 (e ▸ hi)), t, a1, a2, a3, a4, a5, a6, h4.trans k (fun i hi e => by omega),
    fun A cs e => ⟨k.blk (h5 A cs e).1 (Ne.symm (h3.ne (h5 A cs e).1)), (h5 A cs e).2⟩⟩
theorem Sc.len1 (h : Sc w wr m s b N1 N2 N3 X) : Calls Try.prog 17 #[.pointer (some ⟨m, 0, none⟩)] wr fun e w' => e = .returned (.int .i64 (N1.length : Nat)) ∧ wr = w' := by
  obtain ⟨F, G, h1, _⟩ := h
  exact II.len_any F m N1 wr h1
theorem Sc.len2 (h : Sc w wr m s b N1 N2 N3 X) : Calls Try.prog 18 #[.pointer (some ⟨s, 0, none⟩)] wr fun e w' => e = .returned (.int .i64 (N2.length : Nat)) ∧ wr = w' := by
  obtain ⟨F, G, _, h1, _⟩ := h
  exact SI.len_any G s N2 wr h1
theorem Sc.hold (h : Sc w wr m s b N1 N2 N3 X) (cs : Array Value) : Sc w (wr.alloc (.cells cs 36)) m s b N1 N2 N3 (some (wr.heap.size, cs)) := by
  have k := Kept.alloc noBlock wr (.cells cs 36)
  obtain ⟨F, G, h1, h2, h3, a1, a2, a3, a4, a5, a6, h4, h5⟩ := h
  refine ⟨F, G, h1.kept k, h2.kept k, h3.keep k (fun h => h), a1, a2, a3, a4, a5, a6, h4.step k, fun A cs' e => ?_⟩
  injection e with e
  injection e with e1 e2
  subst e1 e2
  exact ⟨heap_alloc_new _ _, fun h => by have := h1.lt _ h; omega, fun h => by have := h2.lt _ h; omega⟩
theorem Sc.drop (h : Sc w wr m s b N1 N2 N3 X) : Sc w wr m s b N1 N2 N3 none := by
  obtain ⟨F, G, h1, h2, h3, a1, a2, a3, a4, a5, a6, h4, _⟩ := h
  exact ⟨F, G, h1, h2, h3, a1, a2, a3, a4, a5, a6, h4, fun A cs e => by cases e⟩
theorem Sc.held {A : Nat} {cs : Array Value} (h : Sc w wr m s b N1 N2 N3 (some (A, cs))) : wr.heap[A]? = some (.cells cs 36 (0, 0)) := by
  obtain ⟨_, _, _, _, _, _, _, _, _, _, _, _, h⟩ := h
  exact (h A cs rfl).1
end

theorem Sc.start {w w1 : World} (k1 : Kept noBlock w w1) :
    Sc w (((w1.alloc (.cells #[.slice none 0 0] 27)).alloc (.cells #[.slice none 0 0] 31)).alloc (.map #[] 0)) w1.heap.size (w1.heap.size + 1) (w1.heap.size + 1 + 1) [] [] [] none := by
  have m1 : II.Mp (w1.alloc (.cells #[.slice none 0 0] 27)) (fun b => b = w1.heap.size) w1.heap.size [] := II.Mp.new
  have m2 : SI.Mp ((w1.alloc (.cells #[.slice none 0 0] 27)).alloc (.cells #[.slice none 0 0] 31)) (fun b => b = w1.heap.size + 1) (w1.heap.size + 1) [] := by
    have := SI.Mp.new (w := w1.alloc (.cells #[.slice none 0 0] 27))
    rw [World.size_alloc] at this
    exact this
  have m3 : TI.Tb (((w1.alloc (.cells #[.slice none 0 0] 27)).alloc (.cells #[.slice none 0 0] 31)).alloc (.map #[] 0)) (w1.heap.size + 1 + 1) [] := by
    have := World.ownsMap_made ((w1.alloc (.cells #[.slice none 0 0] 27)).alloc (.cells #[.slice none 0 0] 31)) Try.prog 3 TI.rd
    rw [World.size_alloc, World.size_alloc] at this
    exact ⟨this, List.Pairwise.nil⟩
  have hs := k1.size
  exact ⟨_, _, (m1.kept (Kept.alloc _ _ _)).kept (Kept.alloc _ _ _), m2.kept (Kept.alloc _ _ _), m3, fun i h1 h2 => by omega, by omega, by omega, fun i h => by omega, fun i h => by omega, by omega,
    ((k1.step (Kept.alloc _ _ _)).step (Kept.alloc _ _ _)).step (Kept.alloc _ _ _), fun _ _ e => by cases e⟩

/-- A number's word. -/
def wordN (k : Int) : Nat := (k % 256).toNat
def word (k : Int) : List UInt8 := [UInt8.ofNat (wordN k), 107]
theorem word_inj {j k : Int} (h1 : -128 ≤ j) (h2 : j ≤ 127) (h3 : -128 ≤ k) (h4 : k ≤ 127) (h : word j = word k) : j = k := by
  unfold word wordN at h
  injection h with h _
  have := congrArg UInt8.toNat h
  simp at this
  omega
theorem word_conv (w : World) (cn : Nat) (h : cn < 256) : (convert 37 9 (.slice (some ⟨w.heap.size, 0, none⟩) 2 2)).run Try.prog (w.alloc (.cells #[.int .u8 (cn : Int), .int .u8 107] 5)) =
    .ok (.string (str [UInt8.ofNat cn, 107])) (w.alloc (.cells #[.int .u8 (cn : Int), .int .u8 107] 5)) := by
  have hl : Lies (w.alloc (.cells ([UInt8.ofNat cn, 107].map bv).toArray 5)) (fun _ => True) (some ⟨w.heap.size, 0, none⟩) ([UInt8.ofNat cn, 107].map bv) := Lies.new w _ _ _ _ trivial
  have e : ([UInt8.ofNat cn, 107].map bv).toArray = #[.int .u8 (cn : Int), .int .u8 107] := by
    have : (UInt8.ofNat cn).toNat = cn := by simp; omega
    simp [bv, this]
  rw [e] at hl
  exact run_str_lies 37 9 5 Try.underlying37 Try.underlying5 Try.underlying9 hl rfl 2
/-- What words have is what numbers have. -/
structure Alike (N : List (Int × Int)) (N2 : List (List UInt8 × Int)) : Prop where
  up : Srt.Up N
  up2 : Srt.Up N2
  len : N2.length = N.length
  look : ∀ k, -128 ≤ k → k ≤ 127 → Srt.look N2 (word k) = Srt.look N k
theorem Alike.has {N : List (Int × Int)} {N2 : List (List UInt8 × Int)} (h : Alike N N2) (k : Int) (h1 : -128 ≤ k) (h2 : k ≤ 127) : Srt.has N2 (word k) = Srt.has N k := by unfold Srt.has; rw [h.look k h1 h2]
theorem Alike.put {N : List (Int × Int)} {N2 : List (List UInt8 × Int)} (h : Alike N N2) (k v : Int) (h1 : -128 ≤ k) (h2 : k ≤ 127) : Alike (Srt.put N k v) (Srt.put N2 (word k) v) := by
  refine ⟨Srt.up_put h.up k v, Srt.up_put h.up2 _ v, by rw [Srt.put_len, Srt.put_len, h.has k h1 h2, h.len], fun j h3 h4 => ?_⟩
  rw [Srt.look_put h.up2, Srt.look_put h.up]
  by_cases e : j = k
  · rw [if_pos e, if_pos (by rw [e])]
  · rw [if_neg e, if_neg (fun h9 => e (word_inj h3 h4 h1 h2 h9)), h.look j h3 h4]
theorem Alike.del {N : List (Int × Int)} {N2 : List (List UInt8 × Int)} (h : Alike N N2) (k : Int) (h1 : -128 ≤ k) (h2 : k ≤ 127) : Alike (Srt.del N k) (Srt.del N2 (word k)) := by
  refine ⟨Srt.up_del h.up k, Srt.up_del h.up2 _, by rw [Srt.del_len h.up2, Srt.del_len h.up, h.has k h1 h2, h.len], fun j h3 h4 => ?_⟩
  rw [Srt.look_del h.up2, Srt.look_del h.up]
  by_cases e : j = k
  · rw [if_pos e, if_pos (by rw [e])]
  · rw [if_neg e, if_neg (fun h9 => e (word_inj h3 h4 h1 h2 h9)), h.look j h3 h4]

set_option maxRecDepth 100000 in
set_option maxHeartbeats 4000000 in
theorem script_walk (F : Nat → Prop) (a : Option Addr) (n c : Nat) (xs : List ActV) (y : Bool) (w : World) (h : Lies w F a (actCells xs)) (hx : ∀ x ∈ xs, x.fit) (hl : xs.length = n) (hc : n ≤ c) :
    Calls Try.prog 3 #[.slice a n c, .bool y] w fun e w' => e = .returned (.bool true) ∧ Kept noBlock w w' := by
  obtain ⟨M, hme⟩ : ∃ M, M = min n 150 := ⟨_, rfl⟩
  have q1 : (if (150 : Int) < (n : Int) then (150 : Int) else (n : Int)) = (M : Int) := by split <;> omega
  have i1 : (M : Int) ≤ c := by omega
  have hmn : M ≤ n := by omega
  have hm150 : M ≤ 150 := by omega
  have HX := Lib.hid hx; clear hx
  have HL := Lib.hid hl; clear hl
  have H := Lib.hid h; clear h
  clear hme
  go_enter Try.func3, Try.ntmps3
  go_wp2_with fail
  refine (awake_any w).mono ?_
  rintro e w1 ⟨rfl, k1⟩
  have hmm := @run_makeMap Try.prog
  have SC0 := Lib.hid (Sc.start k1)
  have K1 := Lib.hid k1; clear k1
  go_wp2_with fail
  obtain ⟨m, hm⟩ : ∃ m, m = w1.heap.size := ⟨_, rfl⟩
  obtain ⟨s, hs⟩ : ∃ s, s = w1.heap.size + 1 := ⟨_, rfl⟩
  obtain ⟨b, hb⟩ : ∃ b, b = w1.heap.size + 1 + 1 := ⟨_, rfl⟩
  rw [← hb, ← hs, ← hm] at SC0
  rw [← hb, ← hs, ← hm]
  clear hm hs hb hmm
  generalize (((w1.alloc (.cells #[.slice none 0 0] 27)).alloc (.cells #[.slice none 0 0] 31)).alloc (.map #[] 0)) = w2 at SC0 ⊢
  go_loopw [31] (fun v wr => ∃ (k : Nat) (N : List (Int × Int)) (N2 : List (List UInt8 × Int)), k ≤ M ∧ v = .int .i64 (k : Int) ∧ Hid (N.length ≤ k) ∧ Hid (Alike N N2) ∧ Hid (Sc w wr m s b N N2 N none)) (fun v _ => M - (intOf v).toNat)
  case atStart => exact ⟨0, [], [], Nat.zero_le _, rfl, Lib.hid (Nat.le_refl _), Lib.hid ⟨List.Pairwise.nil, List.Pairwise.nil, rfl, fun _ _ _ => rfl⟩, SC0⟩
  case round =>
    clear SC0 K1
    obtain ⟨k, N, N2, hk, rfl, HNL, HA, HS⟩ := hrel
    by_cases hlt : k < M
    · obtain ⟨x, hxk⟩ : ∃ x, xs[k]? = some x := ⟨xs[k]'(by rw [HL.out]; omega), List.getElem?_eq_getElem _⟩
      obtain ⟨g, o, rfl, c0, c1, c2⟩ := acts_at H.out HS.out.world hxk
      obtain ⟨f1, f2, f3, f4⟩ := HX.out x (List.mem_of_getElem? hxk)
      obtain ⟨op, key, val⟩ := x
      simp only at c0 c1 c2 f1 f2 f3 f4
      clear hxk
      have hNL := HNL.out
      obtain ⟨cn, hcn⟩ : ∃ cn, cn = wordN key := ⟨_, rfl⟩
      have hq : key % 256 = (cn : Int) := by rw [hcn]; unfold wordN; omega
      have hcn2 : cn < 256 := by omega
      obtain ⟨wd, hwd⟩ : ∃ wd, wd = str (word key) := ⟨_, rfl⟩
      obtain ⟨was, hwas⟩ : ∃ was, was = (Srt.look N key).getD 0 := ⟨_, rfl⟩
      obtain ⟨had, hhad⟩ : ∃ had, had = Srt.has N key := ⟨_, rfl⟩
      have hfit : TI.Fits key := ⟨by omega, by omega⟩
      have hh2 := HA.out.has key f2 f3
      have G1 : Hid (∀ (wr : World) (M2 : List (List UInt8 × Int)) (M3 : List (Int × Int)) (X : Option (Nat × Array Value)), Sc w wr m s b N M2 M3 X → Calls Try.prog 11 #[.pointer (some ⟨m, 0, none⟩), .int .i64 key] wr fun e w' => e = .returned (.tuple #[.int .i64 was, .bool had]) ∧ Sc w w' m s b N M2 M3 X) := Lib.hid (by
        intro wr M2 M3 X h; rw [hwas, hhad]; exact h.get1 key)
      have G2 : Hid (∀ (wr : World) (M1 M3 : List (Int × Int)) (X : Option (Nat × Array Value)), Sc w wr m s b M1 N2 M3 X → Calls Try.prog 12 #[.pointer (some ⟨s, 0, none⟩), .string wd] wr fun e w' => e = .returned (.tuple #[.int .i64 was, .bool had]) ∧ Sc w w' m s b M1 N2 M3 X) := Lib.hid (by
        intro wr M1 M3 X h; rw [hwas, hhad, hwd, ← hh2, ← HA.out.look key f2 f3]; exact h.get2 (word key))
      have D1 : Hid (∀ (wr : World) (M2 : List (List UInt8 × Int)) (M3 : List (Int × Int)) (X : Option (Nat × Array Value)), Sc w wr m s b N M2 M3 X → Calls Try.prog 13 #[.pointer (some ⟨m, 0, none⟩), .int .i64 key] wr fun e w' => e = .returned (.bool had) ∧ Sc w w' m s b (Srt.del N key) M2 M3 X) := Lib.hid (by
        intro wr M2 M3 X h; rw [hhad]; exact h.del1 key)
      have D2 : Hid (∀ (wr : World) (M1 M3 : List (Int × Int)) (X : Option (Nat × Array Value)), Sc w wr m s b M1 N2 M3 X → Calls Try.prog 14 #[.pointer (some ⟨s, 0, none⟩), .string wd] wr fun e w' => e = .returned (.bool had) ∧ Sc w w' m s b M1 (Srt.del N2 (word key)) M3 X) := Lib.hid (by
        intro wr M1 M3 X h; rw [hhad, hwd, ← hh2]; exact h.del2 (word key))
      have P1 : Hid (∀ (wr : World) (M2 : List (List UInt8 × Int)) (M3 : List (Int × Int)) (X : Option (Nat × Array Value)), Sc w wr m s b N M2 M3 X → Calls Try.prog 15 #[.pointer (some ⟨m, 0, none⟩), .int .i64 key, .int .i64 (val : Int)] wr fun e w' => e = .returned (.bool (!had)) ∧ Sc w w' m s b (Srt.put N key (val : Int)) M2 M3 X) := Lib.hid (by
        intro wr M2 M3 X h; rw [hhad]; exact h.put1 key val (by omega))
      have P2 : Hid (∀ (wr : World) (M1 M3 : List (Int × Int)) (X : Option (Nat × Array Value)), Sc w wr m s b M1 N2 M3 X → Calls Try.prog 16 #[.pointer (some ⟨s, 0, none⟩), .string wd, .int .i64 (val : Int)] wr fun e w' => e = .returned (.bool (!had)) ∧ Sc w w' m s b M1 (Srt.put N2 (word key) (val : Int)) M3 X) := Lib.hid (by
        intro wr M1 M3 X h; rw [hhad, hwd, ← hh2]; exact h.put2 (word key) val (by have := HA.out.len; omega))
      have hcv := word_conv (wr.alloc (.cells #[.int .u8 (op : Int), .int .i8 key, .int .u16 (val : Int)] 36)) cn hcn2
      rw [World.size_alloc, show str [UInt8.ofNat cn, 107] = wd from by rw [hwd, hcn]; rfl] at hcv
      have HWAS := Lib.hid hwas; clear hwas
      have HHAD := Lib.hid hhad; clear hhad
      clear hcn hwd hh2
      go_upto_region 10 with (fail)
      have S3 := Lib.hid ((HS.out.hold #[.int .u8 (op : Int), .int .i8 key, .int .u16 (val : Int)]).kept (Kept.alloc noBlock _ (.cells #[.int .u8 (cn : Int), .int .u8 107] 5)))
      obtain ⟨A, hA⟩ : ∃ A, A = wr.heap.size := ⟨_, rfl⟩
      rw [← hA] at S3 ⊢
      generalize ((wr.alloc (.cells #[.int .u8 (op : Int), .int .i8 key, .int .u16 (val : Int)] 36)).alloc (.cells #[.int .u8 (cn : Int), .int .u8 107] 5)) = w3 at S3 ⊢
      clear hA hcv c0 c1 c2 HS hq hcn2
      go_wp2_with (at_lookup; refine TI.wpList_look2 rfl _ _ rfl b N rfl S3.out.table key rfl hfit ?_; rw [← HWAS.out, ← HHAD.out]; unfold TI.ev)
      refine (G1.out _ _ _ _ S3.out).mono ?_
      rintro e w4 ⟨rfl, s4⟩
      have S4 := Lib.hid s4; clear s4 S3
      go_wp2_with fail
      refine (G2.out _ _ _ _ S4.out).mono ?_
      rintro e w5 ⟨rfl, s5⟩
      have S5 := Lib.hid s5; clear s5 S4
      have c50 : w5.cell? ⟨A, 0, none⟩ = some (.int .u8 (op : Int)) := cell_of_row _ _ _ _ _ _ S5.out.held
      have c52 : w5.cell? ⟨A, 2, none⟩ = some (.int .u16 (val : Int)) := cell_of_row _ _ _ _ _ _ S5.out.held
      obtain ⟨r, hr⟩ : ∃ r, r = op % 3 := ⟨_, rfl⟩
      have hri : (op : Int) % 3 = (r : Int) := by omega
      clear hr
      by_cases hr0 : r = 0
      · subst hr0
        go_upto_region 16 with (fail)
        go_wp2_with (with_reducible refine TI.wpList_del rfl (.tmp 83) (.tmp 84) rfl b N rfl S5.out.table key rfl hfit ?_)
        intro w6 t6 k6
        have S6 := Lib.hid (S5.out.tab t6 k6)
        clear t6 k6 S5 c50 c52 G1 G2 P1 P2
        go_wp2_with fail
        refine (D1.out _ _ _ _ S6.out).mono ?_
        rintro e w7 ⟨rfl, s7⟩
        have S7 := Lib.hid s7; clear s7 S6
        go_wp2_with fail
        refine (D2.out _ _ _ _ S7.out).mono ?_
        rintro e w8 ⟨rfl, s8⟩
        have HA8 := Lib.hid (HA.out.del key f2 f3)
        obtain ⟨N8, hN8⟩ : ∃ N8, N8 = Srt.del N key := ⟨_, rfl⟩
        obtain ⟨M8, hM8⟩ : ∃ M8, M8 = Srt.del N2 (word key) := ⟨_, rfl⟩
        have HNL8 : Hid (N8.length ≤ k + 1) := Lib.hid (by have := Srt.del_len HA.out.up key; rw [hN8]; omega)
        rw [← hN8, ← hM8] at HA8 s8
        clear hN8 hM8 D1 D2 S7
        have S8 := Lib.hid s8; clear s8
        obtain ⟨L8, hL8⟩ : ∃ L8, L8 = N8.length := ⟨_, rfl⟩
        have Q1 := Lib.hid S8.out.len1
        have Q2 := Lib.hid S8.out.len2
        rw [HA8.out.len] at Q2
        rw [← hL8] at Q1 Q2
        have HL8 := Lib.hid hL8; clear hL8
        go_upto_region 22 with (fail)
        go_wp2_with fail
        refine Q1.out.mono ?_
        rintro e w9 ⟨rfl, rfl⟩
        go_wp2_with (first | (with_reducible refine TI.wpList_size rfl (.tmp 122) rfl b N8 rfl S8.out.table ?_; rw [← HL8.out]) | fail)
        refine Q2.out.mono ?_
        rintro e w9 ⟨rfl, rfl⟩
        have hsz := TI.run_size b N8 S8.out.table
        rw [← HL8.out] at hsz
        go_wp2
        go_roundw
        case rel => exact ⟨k + 1, N8, M8, by omega, by go_num, HNL8, HA8, Lib.hid S8.out.drop⟩
        case measure => simp [intOf]; omega
      · have hr1 : ((r : Int) == 0) = false := beq_false_of_ne (by omega)
        go_upto_region 19 with (fail)
        have hN1 : N.length < maxLen := by unfold maxLen; omega
        have HN1 := Lib.hid hN1; clear hN1
        go_wp2_with (with_reducible refine TI.wpList_put rfl (.tmp 97) (.tmp 98) (.tmp 101) rfl b N rfl S5.out.table key rfl hfit HN1.out (val : Int) rfl ?_)
        intro w6 t6 k6
        have S6 := Lib.hid (S5.out.tab t6 k6)
        have c62 : w6.cell? ⟨A, 2, none⟩ = some (.int .u16 (val : Int)) := cell_of_row _ _ _ _ _ _ S6.out.held
        clear t6 k6 S5 c50 c52 G1 G2 D1 D2
        go_wp2_with fail
        refine (P1.out _ _ _ _ S6.out).mono ?_
        rintro e w7 ⟨rfl, s7⟩
        have S7 := Lib.hid s7; clear s7 S6 c62
        have c72 : w7.cell? ⟨A, 2, none⟩ = some (.int .u16 (val : Int)) := cell_of_row _ _ _ _ _ _ S7.out.held
        have hnb : (!had == had) = false := by cases had <;> rfl
        go_wp2_with fail
        refine (P2.out _ _ _ _ S7.out).mono ?_
        rintro e w8 ⟨rfl, s8⟩
        have HA8 := Lib.hid (HA.out.put key val f2 f3)
        obtain ⟨N8, hN8⟩ : ∃ N8, N8 = Srt.put N key (val : Int) := ⟨_, rfl⟩
        obtain ⟨M8, hM8⟩ : ∃ M8, M8 = Srt.put N2 (word key) (val : Int) := ⟨_, rfl⟩
        have HNL8 : Hid (N8.length ≤ k + 1) := Lib.hid (by have := Srt.put_len N key (val : Int); rw [hN8]; split at this <;> omega)
        rw [← hN8, ← hM8] at HA8 s8
        clear hN8 hM8 P1 P2 S7 c72
        have S8 := Lib.hid s8; clear s8
        obtain ⟨L8, hL8⟩ : ∃ L8, L8 = N8.length := ⟨_, rfl⟩
        have Q1 := Lib.hid S8.out.len1
        have Q2 := Lib.hid S8.out.len2
        rw [HA8.out.len] at Q2
        rw [← hL8] at Q1 Q2
        have HL8 := Lib.hid hL8; clear hL8
        go_upto_region 22 with (fail)
        go_wp2_with fail
        refine Q1.out.mono ?_
        rintro e w9 ⟨rfl, rfl⟩
        go_wp2_with (first | (with_reducible refine TI.wpList_size rfl (.tmp 122) rfl b N8 rfl S8.out.table ?_; rw [← HL8.out]) | fail)
        refine Q2.out.mono ?_
        rintro e w9 ⟨rfl, rfl⟩
        have hsz := TI.run_size b N8 S8.out.table
        rw [← HL8.out] at hsz
        go_wp2
        go_roundw
        case rel => exact ⟨k + 1, N8, M8, by omega, by go_num, HNL8, HA8, Lib.hid S8.out.drop⟩
        case measure => simp [intOf]; omega
    · go_wp2
      go_ret
      exact ⟨rfl, HS.out.world⟩
end Go.Proofs.Ytohanlhfbfodlaa
