/-
  The model's methods: changes as a deed makes them. No statement is proved here.
-/
import Derived.Test.YtdcccjkondjhbaaMdl6
namespace Go.Proofs.Ytdcccjkondjhbaa
open Go.RowKit Go.Maps

theorem alloc2 (w : World) (o1 o2 : Obj) : ((w.alloc o1).alloc o2).heap[w.heap.size]? = some o1 ∧ ((w.alloc o1).alloc o2).heap[w.heap.size + 1]? = some o2 ∧ Kept noBlock w ((w.alloc o1).alloc o2) ∧ ((w.alloc o1).alloc o2).heap.size = w.heap.size + 2 := by
  have k1 := Kept.alloc noBlock w o1
  have k2 := Kept.alloc noBlock (w.alloc o1) o2
  have h2 := heap_alloc_new (w.alloc o1) o2
  have s1 : (w.alloc o1).heap.size = w.heap.size + 1 := by simp
  rw [s1] at h2
  exact ⟨k2.blk (heap_alloc_new w o1) (fun h => h), h2, k1.step k2, by simp⟩
theorem alloc3 (w : World) (o1 o2 o3 : Obj) : (((w.alloc o1).alloc o2).alloc o3).heap[w.heap.size]? = some o1 ∧ (((w.alloc o1).alloc o2).alloc o3).heap[w.heap.size + 1]? = some o2 ∧ (((w.alloc o1).alloc o2).alloc o3).heap[w.heap.size + 1 + 1]? = some o3 ∧
    Kept noBlock w (((w.alloc o1).alloc o2).alloc o3) ∧ (((w.alloc o1).alloc o2).alloc o3).heap.size = w.heap.size + 3 := by
  obtain ⟨h1, h2, k, s⟩ := alloc2 w o1 o2
  have k3 := Kept.alloc noBlock ((w.alloc o1).alloc o2) o3
  have h3 := heap_alloc_new ((w.alloc o1).alloc o2) o3
  rw [s] at h3
  exact ⟨k3.blk h1 (fun h => h), k3.blk h2 (fun h => h), h3, k.step k3, by simp⟩

/-- A change whose rows were just laid. -/
theorem change_in (G K : Nat → Prop) (m : Nat) (S : St) (g : Nat → Nat) (x : Chg) (b1 b2 n : Nat) {w W : World} (k : Kept noBlock w W) (hlt : ∀ i, G i → i < w.heap.size) (h : Md W (fun i => G i ∨ fresh w W i) m S g K) (hxK : ∀ f, x.file = some f → K f)
    (hb1 : W.heap[b1]? = some (.cells (x.ns.map sv).toArray 9 (0, 0))) (hb2 : W.heap[b2]? = some (.cells (x.fs.map fun o => ptrOf (o.map g)).toArray 44 (0, 0))) (h1 : w.heap.size ≤ b1) (h2 : w.heap.size ≤ b2) (hn : x.ns.length = n) (hnm : ∀ s ∈ x.ns, s.length ≤ maxLen)
    (ok1 : Ok { S with cur := Dir.step S.cur x }) (ok2 : Ok (S.chg x)) :
    Calls Try.prog 30 #[.pointer (some ⟨m, 0, none⟩), .slice (some ⟨b1, 0, none⟩) n n, .slice (some ⟨b2, 0, none⟩) n n] W fun e w' => e = .returned (.tuple #[]) ∧ Md w' (fun i => G i ∨ fresh w w' i) m (S.chg x) g K ∧ Kept G w w' := by
  subst hn
  have o := h.ok
  have hc := o.calls_le
  have h9 := o.cur_len
  have h8 := o.safe_len
  have hp : S.pend.length < 1000000 := by
    have := ok2.safe_len
    have := ok2.calls_le
    simp only [St.chg, List.length_append, List.length_singleton] at *
    omega
  refine (change_any _ K m S g x b1 b2 W h hxK hb1 (.inr ⟨h1, lt_of_blk hb1⟩) hb2 (.inr ⟨h2, lt_of_blk hb2⟩) hnm (by omega) hp ok1 ok2).mono ?_
  rintro e w' ⟨rfl, hM, k'⟩
  refine ⟨rfl, hM.mono (fun i hi => ?_) (fun i hi => ?_), (k.mono (fun _ _ h => h.elim)).trans k' (fun i hi h => ?_)⟩
  · rcases hi with (hi | hi) | hi
    · exact .inl hi
    · exact .inr ⟨hi.1, Nat.lt_of_lt_of_le hi.2 k'.size⟩
    · exact .inr ⟨Nat.le_trans k.size hi.1, hi.2⟩
  · rcases hi with hi | hi
    · exact Nat.lt_of_lt_of_le (hlt i hi) (Nat.le_trans k.size k'.size)
    · exact hi.2
  · rcases h with h | h
    · exact h
    · exact absurd h.1 (by omega)

section
variable {w : World} {G K : Nat → Prop} {m : Nat} {S : St} {g : Nat → Nat}
theorem Md.grown {W : World} (h : Md w G m S g K) (k : Kept noBlock w W) : Md W (fun i => G i ∨ fresh w W i) m S g K :=
  (h.keep k (fun _ _ h => h)).mono (fun _ h => .inl h) (fun i hi => hi.elim (fun h9 => Nat.lt_of_lt_of_le (h.lt i h9) k.size) (fun h9 => h9.2))
/-- A new file has a name. -/
theorem make_any (h : Md w G m S g K) {f : Nat} (hf : S.fl f = none) (s : List UInt8) (hs : s.length ≤ maxLen) (ok : Ok (S.setFl f ⟨[], 0⟩)) (ok1 : Ok { S.setFl f ⟨[], 0⟩ with cur := Dir.step (S.setFl f ⟨[], 0⟩).cur ⟨s, s, some f⟩ }) (ok2 : Ok ((S.setFl f ⟨[], 0⟩).chg ⟨s, s, some f⟩)) :
    Calls Try.prog 30 #[.pointer (some ⟨m, 0, none⟩), .slice (some ⟨w.heap.size, 0, none⟩) 1 1, .slice (some ⟨w.heap.size + 1 + 1, 0, none⟩) 1 1]
      (((w.alloc (.cells #[.string (str s)] 9)).alloc (.cells #[.string ⟨#[]⟩, .int .i64 0] 48)).alloc (.cells #[.pointer (some ⟨w.heap.size + 1, 0, none⟩)] 44)) fun e w' =>
      e = .returned (.tuple #[]) ∧ (∃ g' K', Md w' (fun i => G i ∨ fresh w w' i) m ((S.setFl f ⟨[], 0⟩).chg ⟨s, s, some f⟩) g' K') ∧ Kept G w w' := by
  obtain ⟨h1, h2, h3, k, sz⟩ := alloc3 w (.cells #[.string (str s)] 9) (.cells #[.string ⟨#[]⟩, .int .i64 0] 48) (.cells #[.pointer (some ⟨w.heap.size + 1, 0, none⟩)] 44)
  generalize ((w.alloc (.cells #[.string (str s)] 9)).alloc (.cells #[.string ⟨#[]⟩, .int .i64 0] 48)).alloc (.cells #[.pointer (some ⟨w.heap.size + 1, 0, none⟩)] 44) = W at h1 h2 h3 k sz ⊢
  have hlt := h.lt
  have hB : Md W (fun i => G i ∨ fresh w W i) m (S.setFl f ⟨[], 0⟩) (fun i => if i = f then w.heap.size + 1 else g i) (fun i => i = f ∨ K i) := by
    obtain ⟨stop, mn, mk, A, c, A', c', xs, ys, h⟩ := h.grown k
    exact (h.newfile hf h2 (.inr ⟨by omega, by omega⟩) (fun i hi e => by
      have h9 := h.fil i
      obtain ⟨l, hl⟩ := Option.isSome_iff_exists.1 (h.kfl i hi)
      rename_i h0
      obtain ⟨_, _, _, _, _, _, _, _, _, h0⟩ := h0
      have := hlt _ (h0.gfil i hi)
      omega) (Kept.refl _ _) ok).md
  refine (change_in G _ m _ _ ⟨s, s, some f⟩ w.heap.size (w.heap.size + 1 + 1) 1 k hlt hB (fun i hi => by injection hi with hi; exact .inl hi.symm) ?_ ?_ (Nat.le_refl _) (by omega) ?_ ?_ ok1 ok2).mono ?_
  · rw [h1]; simp [Chg.ns, sv]
  · rw [h3]; simp [Chg.fs, ptrOf]
  · simp [Chg.ns]
  · intro t ht
    simp [Chg.ns] at ht
    rw [ht]; exact hs
  · rintro e w' ⟨rfl, hM, k'⟩
    exact ⟨rfl, ⟨_, _, hM⟩, k'⟩
/-- A name is none's. -/
theorem drop_any (h : Md w G m S g K) (s : List UInt8) (hs : s.length ≤ maxLen) (ok1 : Ok { S with cur := Dir.step S.cur ⟨s, [], none⟩ }) (ok2 : Ok (S.chg ⟨s, [], none⟩)) :
    Calls Try.prog 30 #[.pointer (some ⟨m, 0, none⟩), .slice (some ⟨w.heap.size, 0, none⟩) 1 1, .slice (some ⟨w.heap.size + 1, 0, none⟩) 1 1]
      ((w.alloc (.cells #[.string (str s)] 9)).alloc (.cells #[.pointer none] 44)) fun e w' =>
      e = .returned (.tuple #[]) ∧ Md w' (fun i => G i ∨ fresh w w' i) m (S.chg ⟨s, [], none⟩) g K ∧ Kept G w w' := by
  obtain ⟨h1, h2, k, sz⟩ := alloc2 w (.cells #[.string (str s)] 9) (.cells #[.pointer none] 44)
  generalize (w.alloc (.cells #[.string (str s)] 9)).alloc (.cells #[.pointer none] 44) = W at h1 h2 k sz ⊢
  refine change_in G K m S g ⟨s, [], none⟩ w.heap.size (w.heap.size + 1) 1 k h.lt (h.grown k) (fun i hi => by cases hi) ?_ ?_ (Nat.le_refl _) (by omega) ?_ ?_ ok1 ok2
  · rw [h1]; simp [Chg.ns, sv]
  · rw [h2]; simp [Chg.fs, ptrOf]
  · simp [Chg.ns]
  · intro t ht
    simp [Chg.ns] at ht
    rw [ht]; exact hs
/-- A file has another name. -/
theorem move_any (h : Md w G m S g K) (s t : List UInt8) (hst : s ≠ t) (hs : s.length ≤ maxLen) (ht : t.length ≤ maxLen) (f : Nat) (hK : K f) (ok1 : Ok { S with cur := Dir.step S.cur ⟨s, t, some f⟩ }) (ok2 : Ok (S.chg ⟨s, t, some f⟩)) :
    Calls Try.prog 30 #[.pointer (some ⟨m, 0, none⟩), .slice (some ⟨w.heap.size, 0, none⟩) 2 2, .slice (some ⟨w.heap.size + 1, 0, none⟩) 2 2]
      ((w.alloc (.cells #[.string (str s), .string (str t)] 9)).alloc (.cells #[.pointer none, .pointer (some ⟨g f, 0, none⟩)] 44)) fun e w' =>
      e = .returned (.tuple #[]) ∧ Md w' (fun i => G i ∨ fresh w w' i) m (S.chg ⟨s, t, some f⟩) g K ∧ Kept G w w' := by
  obtain ⟨h1, h2, k, sz⟩ := alloc2 w (.cells #[.string (str s), .string (str t)] 9) (.cells #[.pointer none, .pointer (some ⟨g f, 0, none⟩)] 44)
  generalize (w.alloc (.cells #[.string (str s), .string (str t)] 9)).alloc (.cells #[.pointer none, .pointer (some ⟨g f, 0, none⟩)] 44) = W at h1 h2 k sz ⊢
  refine change_in G K m S g ⟨s, t, some f⟩ w.heap.size (w.heap.size + 1) 2 k h.lt (h.grown k) (fun i hi => by injection hi with hi; exact hi ▸ hK) ?_ ?_ (Nat.le_refl _) (by omega) ?_ ?_ ok1 ok2
  · rw [h1]; simp [Chg.ns, sv, hst]
  · rw [h2]; simp [Chg.fs, ptrOf, hst]
  · simp [Chg.ns, hst]
  · intro u hu
    simp [Chg.ns, hst] at hu
    rcases hu with rfl | rfl
    · exact hs
    · exact ht
end
end Go.Proofs.Ytdcccjkondjhbaa
