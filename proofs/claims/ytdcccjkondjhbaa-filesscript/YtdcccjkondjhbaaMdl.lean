/-
  The model of a disk: where it lies, as the same plain words ('St') say that say what a disk is, its files by blocks of their own. No statement is proved here.
-/
import Derived.Test.YtdcccjkondjhbaaL4Acts
import Derived.Test.YtdcccjkondjhbaaNames
namespace Go.Proofs.Ytdcccjkondjhbaa
open Go.RowKit Go.Maps
open Go.WideElems (Fit rd rg rd_key rg_of)

/-! ### names in order -/
theorem Nm.sorted {w : World} {b : Nat} {N : Dir} (h : Nm w (some b) N) : N.Pairwise fun p q => bytesBefore p.1 q.1 = true := by
  obtain ⟨es, clock, _, F, _, hD⟩ := h
  have s := sorted_sorted keyed.one (es.toList.map (rg Try.prog 9 fileR)) (fun p hp => by
    obtain ⟨x, hx, rfl⟩ := List.mem_map.1 hp
    obtain ⟨y, hy⟩ := F.reads x hx
    rw [rg_of hy]
    exact ⟨_, rd_key hy⟩) (Maps.fit_apart keyed F)
  unfold Dir.enc at hD
  injection hD with hD
  rw [← hD, List.pairwise_map] at s
  exact s.imp fun h => h
theorem dir_ext : ∀ {N M : Dir}, N.Pairwise (fun p q => bytesBefore p.1 q.1 = true) → M.Pairwise (fun p q => bytesBefore p.1 q.1 = true) → (∀ p, p ∈ N ↔ p ∈ M) → N = M
  | [], [], _, _, _ => rfl
  | [], q :: s, _, _, h => by have := (h q).2 (by simp); cases this
  | p :: r, [], _, _, h => by have := (h p).1 (by simp); cases this
  | p :: r, q :: s, hN, hM, h => by
    obtain ⟨a1, a2⟩ := List.pairwise_cons.1 hN
    obtain ⟨b1, b2⟩ := List.pairwise_cons.1 hM
    have irr : ∀ x : List UInt8, ¬ bytesBefore x x = true := fun x hx => by rw [WideAt.bytes_irrefl] at hx; cases hx
    have e : p = q := by
      rcases List.mem_cons.1 ((h p).1 (by simp)) with h1 | h1
      · exact h1
      · rcases List.mem_cons.1 ((h q).2 (by simp)) with h2 | h2
        · exact h2.symm
        · exact absurd (WideShapes.bytes_trans _ _ _ (a1 q h2) (b1 p h1)) (irr _)
    subst e
    congr 1
    refine dir_ext a2 b2 fun x => ⟨fun hx => ?_, fun hx => ?_⟩
    · rcases List.mem_cons.1 ((h x).1 (by simp [hx])) with e | h1
      · subst e; exact absurd (a1 _ hx) (irr _)
      · exact h1
    · rcases List.mem_cons.1 ((h x).2 (by simp [hx])) with e | h1
      · subst e; exact absurd (b1 _ hx) (irr _)
      · exact h1

theorem nodup_sorted : ∀ {N : Dir}, N.Pairwise (fun p q => bytesBefore p.1 q.1 = true) → ∀ {p q : List UInt8 × Nat}, p ∈ N → q ∈ N → p.1 = q.1 → p = q
  | y :: r, h, p, q, hp, hq, e => by
    obtain ⟨h1, h2⟩ := List.pairwise_cons.1 h
    have irr : ∀ x : List UInt8, ¬ bytesBefore x x = true := fun x hx => by rw [WideAt.bytes_irrefl] at hx; cases hx
    rcases List.mem_cons.1 hp with ep | ep
    · rcases List.mem_cons.1 hq with eq | eq
      · rw [ep, eq]
      · have := h1 q eq; rw [← ep, e] at this; exact absurd this (irr _)
    · rcases List.mem_cons.1 hq with eq | eq
      · have := h1 p ep; rw [← eq, e] at this; exact absurd this (irr _)
      · exact nodup_sorted h2 ep eq e

/-! ### names with other blocks -/
def Dir.re (N : Dir) (g : Nat → Nat) : Dir := N.map fun p => (p.1, g p.2)
/-- A name has a file, or none. -/
def Dir.set (N : Dir) (s : List UInt8) : Option Nat → Dir
  | none => N.del s
  | some f => (N.del s).put s f
def Dir.sets (N : Dir) (l : List (List UInt8 × Option Nat)) : Dir := l.foldl (fun N p => Dir.set N p.1 p.2) N
namespace Dir
variable (N : Dir) (g : Nat → Nat) (s t : List UInt8) (f : Nat)
theorem re_len : (N.re g).length = N.length := by simp [re]
theorem re_del : (N.del s).re g = (N.re g).del s := by
  unfold re del
  rw [List.filter_map]
  rfl
theorem re_ins (x : List UInt8 × Nat) : ∀ N : Dir, (ins x N).map (fun p => (p.1, g p.2)) = ins (x.1, g x.2) (N.map fun p => (p.1, g p.2))
  | [] => rfl
  | y :: r => by
    unfold ins
    simp only [List.map_cons]
    split
    · rfl
    · rw [List.map_cons, re_ins x r]
theorem re_put : (N.put s f).re g = (N.re g).put s (g f) := by
  unfold put
  rw [← re_del]
  exact re_ins g (s, f) _
theorem re_look : (N.re g).look s = (N.look s).map g := by
  unfold look re
  rw [find_map]
  have e : ((fun p : List UInt8 × Nat => p.1 == s) ∘ fun p : List UInt8 × Nat => (p.1, g p.2)) = fun p => p.1 == s := rfl
  rw [e]
  cases N.find? (fun p => p.1 == s) <;> rfl
theorem re_set (o : Option Nat) : (N.set s o).re g = (N.re g).set s (o.map g) := by
  cases o with
  | none => exact re_del N g s
  | some f => show ((N.del s).put s f).re g = ((N.re g).del s).put s (g f); rw [re_put, re_del]
theorem mem_re (p : List UInt8 × Nat) : p ∈ N.re g ↔ ∃ q ∈ N, (q.1, g q.2) = p := by simp [re]
theorem re_congr {g g' : Nat → Nat} {N : Dir} (h : ∀ p ∈ N, g p.2 = g' p.2) : N.re g = N.re g' := by
  unfold re
  exact List.map_congr_left fun p hp => by rw [h p hp]
theorem del_del : (N.del s).del s = N.del s := by unfold del; simp [List.filter_filter]
theorem put_del : (N.del s).put s f = N.put s f := by unfold put; rw [del_del]
theorem sets_snoc (l : List (List UInt8 × Option Nat)) (p : List UInt8 × Option Nat) : N.sets (l ++ [p]) = (N.sets l).set p.1 p.2 := by unfold sets; simp
theorem set_len (o : Option Nat) : (N.set s o).length ≤ N.length + 1 := by
  cases o with
  | none => have := del_len N s; show (N.del s).length ≤ _; omega
  | some f => have := del_len N s; have := put_len (N.del s) s f; show ((N.del s).put s f).length ≤ _; omega
theorem sets_len (l : List (List UInt8 × Option Nat)) : ∀ N : Dir, (N.sets l).length ≤ N.length + l.length := by
  unfold sets
  induction l with
  | nil => intro N; simp
  | cons p r ih =>
    intro N
    have := ih (N.set p.1 p.2)
    have := set_len N p.1 p.2
    simp only [List.foldl_cons, List.length_cons]
    omega
end Dir

/-- A change as the model has it: its names, and behind each its file, or none. -/
def Chg.ns (x : Chg) : List (List UInt8) := match x.file with | none => [x.frm] | some _ => if x.frm = x.to_ then [x.frm] else [x.frm, x.to_]
def Chg.fs (x : Chg) : List (Option Nat) := match x.file with | none => [none] | some f => if x.frm = x.to_ then [some f] else [none, some f]
theorem Chg.fs_len (x : Chg) : x.fs.length = x.ns.length := by
  unfold Chg.fs Chg.ns
  cases x.file with
  | none => rfl
  | some f => simp only; split <;> rfl
theorem Chg.ns_le (x : Chg) : x.ns.length ≤ 2 := by
  unfold Chg.ns
  cases x.file with
  | none => simp
  | some f => simp only; split <;> simp
theorem Chg.sets (N : Dir) (x : Chg) : N.sets (x.ns.zip x.fs) = Dir.step N x := by
  unfold Chg.fs Chg.ns Dir.step Dir.sets
  cases x.file with
  | none => rfl
  | some f =>
    simp only
    by_cases h : x.frm = x.to_
    · rw [if_pos h, if_pos h, ← h]; rfl
    · rw [if_neg h, if_neg h]
      simp only [List.zip_cons_cons, List.zip_nil_right, List.foldl_cons, List.foldl_nil]
      exact Dir.put_del _ _ _
theorem Dir.re_sets (g : Nat → Nat) (l : List (List UInt8 × Option Nat)) : ∀ N : Dir, (N.sets l).re g = (N.re g).sets (l.map fun p => (p.1, p.2.map g)) := by
  unfold Dir.sets
  induction l with
  | nil => intro N; rfl
  | cons p r ih =>
    intro N
    simp only [List.foldl_cons, List.map_cons]
    rw [ih, Dir.re_set]
theorem Chg.sets_re (N : Dir) (g : Nat → Nat) (x : Chg) : (N.re g).sets (x.ns.zip (x.fs.map (·.map g))) = (Dir.step N x).re g := by
  rw [← Chg.sets, Dir.re_sets]
  congr 1
  rw [List.zip_map_right]
  rfl

/-! ### where the model lies -/
def sv (s : List UInt8) : Value := .string (str s)
def mcells (S : St) (stop : Int) (mn mk : Nat) (A : Option Addr) (c : Nat) (A' : Option Addr) (c' : Nat) : Array Value :=
  #[.map (some mn), .map (some mk), .slice A S.pend.length c, .slice A' S.pend.length c', .int .i64 S.room, .int .i64 stop, .bool S.down, .int .i64 S.calls]
/-- A pending change's two rows. -/
def Two (w : World) (G : Nat → Prop) (g : Nat → Nat) (x : Chg) (v u : Value) : Prop :=
  ∃ b1 b2, v = .slice (some ⟨b1, 0, none⟩) x.ns.length x.ns.length ∧ w.heap[b1]? = some (.cells (x.ns.map sv).toArray 9 (0, 0)) ∧ G b1 ∧
    u = .slice (some ⟨b2, 0, none⟩) x.ns.length x.ns.length ∧ w.heap[b2]? = some (.cells (x.fs.map fun o => ptrOf (o.map g)).toArray 44 (0, 0)) ∧ G b2
structure MdR (w : World) (G : Nat → Prop) (m : Nat) (S : St) (g : Nat → Nat) (K : Nat → Prop) (stop : Int) (mn mk : Nat) (A : Option Addr) (c : Nat) (A' : Option Addr) (c' : Nat) (xs ys : List Value) : Prop where
  blk : w.heap[m]? = some (.cells (mcells S stop mn mk A c A' c') 31 (0, 0))
  now : Nm w (some mn) (S.cur.re g)
  kept : Nm w (some mk) (S.safe.re g)
  ne : mn ≠ mk
  wait : w.ownsRow 0 42 1 (.slice A S.pend.length c) S.pend.length xs
  files : w.ownsRow 0 63 1 (.slice A' S.pend.length c') S.pend.length ys
  rows : ∀ (k : Nat) (x : Chg), S.pend[k]? = some x → ∃ v u : Value, xs[k]? = some v ∧ ys[k]? = some u ∧ Two w G g x v u
  fil : ∀ f l, K f → S.fl f = some l → w.heap[g f]? = some (.cells #[.string (str l.data), .int .i64 l.safe] 48 (0, 0))
  inj : ∀ f f', K f → K f' → g f = g f' → f = f'
  kfl : ∀ f, K f → (S.fl f).isSome = true
  kcur : ∀ p ∈ S.cur, K p.2
  ksafe : ∀ p ∈ S.safe, K p.2
  kpend : ∀ x ∈ S.pend, ∀ f, x.file = some f → K f
  gm : G m
  gn : G mn
  gk : G mk
  gA : ∀ k, rowB (A, c) = some k → G k
  gA' : ∀ k, rowB (A', c') = some k → G k
  gfil : ∀ f, K f → G (g f)
  lt : ∀ k, G k → k < w.heap.size
  stp : S.down = false → stop = if S.armed = true then S.left else -1
  lo : -1 ≤ stop
  hi : stop ≤ 1000
  arm : S.armed = true → 0 ≤ S.left
  ok : Ok S
/-- The model at block m: as S says; file f of S, if it is of K, lies at block g f. -/
def Md (w : World) (G : Nat → Prop) (m : Nat) (S : St) (g : Nat → Nat) (K : Nat → Prop) : Prop := ∃ stop mn mk A c A' c' xs ys, MdR w G m S g K stop mn mk A c A' c' xs ys

section
variable {w w' : World} {F G K : Nat → Prop} {m : Nat} {S : St} {g : Nat → Nat} {stop : Int} {mn mk : Nat} {A A' : Option Addr} {c c' : Nat} {xs ys : List Value}
theorem Two.keep {T : Nat → Prop} {x : Chg} {v u : Value} (h : Two w G g x v u) (k : Kept T w w') (hd : ∀ i, G i → ¬ T i) : Two w' G g x v u := by
  obtain ⟨b1, b2, e1, h1, l1, e2, h2, l2⟩ := h
  exact ⟨b1, b2, e1, k.blk h1 (hd _ l1), l1, e2, k.blk h2 (hd _ l2), l2⟩
/-- .. where what changed is of another kind. -/
theorem Two.keepN {T : Nat → Prop} {x : Chg} {v u : Value} (h : Two w G g x v u) (k : Kept T w w') (hd : ∀ i, T i → ∀ cs fr, w.heap[i]? ≠ some (.cells cs 9 fr) ∧ w.heap[i]? ≠ some (.cells cs 44 fr)) : Two w' G g x v u := by
  obtain ⟨b1, b2, e1, h1, l1, e2, h2, l2⟩ := h
  exact ⟨b1, b2, e1, k.blk h1 (fun ht => (hd b1 ht _ _).1 h1), l1, e2, k.blk h2 (fun ht => (hd b2 ht _ _).2 h2), l2⟩
theorem Two.mono {x : Chg} {v u : Value} (h : Two w F g x v u) (hF : ∀ i, F i → G i) : Two w G g x v u := by
  obtain ⟨b1, b2, e1, h1, l1, e2, h2, l2⟩ := h
  exact ⟨b1, b2, e1, h1, hF _ l1, e2, h2, hF _ l2⟩
theorem not_cells {i : Nat} {cs : Array Value} {t : TypeId} {fr : Nat × Nat} (h : w.heap[i]? = some (.cells cs t fr)) (h1 : t ≠ 9) (h2 : t ≠ 44) : ∀ cs fr, w.heap[i]? ≠ some (.cells cs 9 fr) ∧ w.heap[i]? ≠ some (.cells cs 44 fr) := by
  intro cs' fr'
  rw [h]
  exact ⟨fun e => by injection e with e; injection e with _ e; exact h1 e, fun e => by injection e with e; injection e with _ e; exact h2 e⟩
theorem Nm.not_cells {i : Nat} {N : Dir} (h : Nm w (some i) N) : ∀ cs fr, w.heap[i]? ≠ some (.cells cs 9 fr) ∧ w.heap[i]? ≠ some (.cells cs 44 fr) :=
  fun _ _ => ⟨fun e => h.ne e rfl, fun e => h.ne e rfl⟩
theorem MdR.keep {T : Nat → Prop} (h : MdR w G m S g K stop mn mk A c A' c' xs ys) (k : Kept T w w') (hd : ∀ i, G i → ¬ T i) : MdR w' G m S g K stop mn mk A c A' c' xs ys where
  blk := k.blk h.blk (hd m h.gm)
  now := h.now.keep k fun b hb => by injection hb with hb; subst hb; exact hd _ h.gn
  kept := h.kept.keep k fun b hb => by injection hb with hb; subst hb; exact hd _ h.gk
  ne := h.ne
  wait := own_keep h.wait k fun i hi => hd i (h.gA i (by rw [own_rowB] at hi; exact hi))
  files := own_keep h.files k fun i hi => hd i (h.gA' i (by rw [own_rowB] at hi; exact hi))
  rows := fun i x hx => by
    obtain ⟨v, u, h1, h2, h3⟩ := h.rows i x hx
    exact ⟨v, u, h1, h2, h3.keep k hd⟩
  fil := fun f l hK hf => k.blk (h.fil f l hK hf) (hd _ (h.gfil f hK))
  inj := h.inj
  kfl := h.kfl
  kcur := h.kcur
  ksafe := h.ksafe
  kpend := h.kpend
  gm := h.gm
  gn := h.gn
  gk := h.gk
  gA := h.gA
  gA' := h.gA'
  gfil := h.gfil
  lt := fun i hi => Nat.lt_of_lt_of_le (h.lt i hi) k.size
  stp := h.stp
  lo := h.lo
  hi := h.hi
  arm := h.arm
  ok := h.ok
theorem MdR.mono (h : MdR w F m S g K stop mn mk A c A' c' xs ys) (hF : ∀ i, F i → G i) (hG : ∀ i, G i → i < w.heap.size) : MdR w G m S g K stop mn mk A c A' c' xs ys where
  blk := h.blk
  now := h.now
  kept := h.kept
  ne := h.ne
  wait := h.wait
  files := h.files
  rows := fun i x hx => by
    obtain ⟨v, u, h1, h2, h3⟩ := h.rows i x hx
    exact ⟨v, u, h1, h2, h3.mono hF⟩
  fil := h.fil
  inj := h.inj
  kfl := h.kfl
  kcur := h.kcur
  ksafe := h.ksafe
  kpend := h.kpend
  gm := hF _ h.gm
  gn := hF _ h.gn
  gk := hF _ h.gk
  gA := fun k hk => hF _ (h.gA k hk)
  gA' := fun k hk => hF _ (h.gA' k hk)
  gfil := fun f hK => hF _ (h.gfil f hK)
  lt := hG
  stp := h.stp
  lo := h.lo
  hi := h.hi
  arm := h.arm
  ok := h.ok
theorem MdR.md (h : MdR w G m S g K stop mn mk A c A' c' xs ys) : Md w G m S g K := ⟨stop, mn, mk, A, c, A', c', xs, ys, h⟩
theorem Md.keep {T : Nat → Prop} (h : Md w G m S g K) (k : Kept T w w') (hd : ∀ i, G i → ¬ T i) : Md w' G m S g K := by
  obtain ⟨stop, mn, mk, A, c, A', c', xs, ys, h⟩ := h
  exact (h.keep k hd).md
theorem Md.mono (h : Md w F m S g K) (hF : ∀ i, F i → G i) (hG : ∀ i, G i → i < w.heap.size) : Md w G m S g K := by
  obtain ⟨stop, mn, mk, A, c, A', c', xs, ys, h⟩ := h
  exact (h.mono hF hG).md
theorem Md.lt (h : Md w G m S g K) : ∀ i, G i → i < w.heap.size := by
  obtain ⟨stop, mn, mk, A, c, A', c', xs, ys, h⟩ := h
  exact h.lt
theorem Md.ok (h : Md w G m S g K) : Ok S := by
  obtain ⟨stop, mn, mk, A, c, A', c', xs, ys, h⟩ := h
  exact h.ok
/-- A row of cells whose block is one of cells of another type. -/
theorem row_ne {e : TypeId} {n cc : Nat} {a : Option Addr} {zs : List Value} {k : Nat} {cs : Array Value} {t : TypeId} {fr : Nat × Nat} (h : w.ownsRow 0 e 1 (.slice a n cc) n zs) (hk : w.heap[k]? = some (.cells cs t fr)) (ht : e ≠ t) : rowB (a, cc) ≠ some k := by
  have := own_ne h hk ht
  rw [own_rowB] at this
  exact this
end
end Go.Proofs.Ytdcccjkondjhbaa
