/-
  A disk of package files: what it is, in plain words ('St'), where it lies ('Dk'), and its small methods. No statement is proved here.
-/
import Derived.Test.YtdcccjkondjhbaaDir
import Derived.BigQuiet
import Derived.Deep.QuietTactic
import Derived.Deep.DeepCutAuto
namespace Go.Proofs.Ytdcccjkondjhbaa
open Go.RowKit Go.Maps

/-- A file: its bytes, and how many of them are safe. -/
structure Fl where
  data : List UInt8
  safe : Nat
/-- One change of the names. -/
structure Chg where
  frm : List UInt8
  to_ : List UInt8
  file : Option Nat
/-- A disk. A file is known by its block. 'vol': no file has more bytes. -/
structure St where
  room : Nat
  cur : Dir
  safe : Dir
  pend : List Chg
  calls : Nat
  armed : Bool
  left : Int
  down : Bool
  fl : Nat → Option Fl
  vol : Nat

def Dir.step (N : Dir) (c : Chg) : Dir :=
  match c.file with
  | none => Dir.del N c.frm
  | some f => Dir.put (Dir.del N c.frm) c.to_ f
def Dir.after (N : Dir) (cs : List Chg) : Dir := cs.foldl Dir.step N
theorem Dir.step_len (N : Dir) (c : Chg) : (Dir.step N c).length ≤ N.length + 1 := by
  unfold Dir.step
  have h1 := Dir.del_len N c.frm
  split
  · omega
  · have := Dir.put_len (Dir.del N c.frm) c.to_ (by assumption)
    omega
theorem Dir.after_len (cs : List Chg) : ∀ N : Dir, (Dir.after N cs).length ≤ N.length + cs.length := by
  unfold Dir.after
  induction cs with
  | nil => intro N; simp
  | cons c r ih =>
    intro N
    have := ih (Dir.step N c)
    have := Dir.step_len N c
    simp only [List.foldl_cons, List.length_cons]
    omega
theorem Dir.after_snoc (N : Dir) (cs : List Chg) (c : Chg) : Dir.after N (cs ++ [c]) = Dir.step (Dir.after N cs) c := by unfold Dir.after; simp
theorem Dir.step_fl {I : Nat → Prop} {N : Dir} {c : Chg} (hN : ∀ p ∈ N, I p.2) (hc : ∀ f, c.file = some f → I f) : ∀ p ∈ Dir.step N c, I p.2 := by
  intro p hp
  unfold Dir.step at hp
  split at hp
  · exact hN p ((Dir.mem_del N c.frm p).1 hp).1
  · rename_i f hf
    rcases (Dir.mem_put _ _ _ _).1 hp with h | h
    · rw [h]; exact hc f hf
    · exact hN p ((Dir.mem_del N c.frm p).1 h.1).1
theorem Dir.after_fl {I : Nat → Prop} (cs : List Chg) : ∀ {N : Dir}, (∀ p ∈ N, I p.2) → (∀ c ∈ cs, ∀ f, c.file = some f → I f) → ∀ p ∈ Dir.after N cs, I p.2 := by
  unfold Dir.after
  induction cs with
  | nil => intro N h _; exact h
  | cons c r ih =>
    intro N h hc
    exact ih (Dir.step_fl h (hc c (by simp))) (fun c' h' => hc c' (by simp [h']))

def Chg.cells (c : Chg) : List Value := [.string (str c.frm), .string (str c.to_), ptrOf c.file]
def Chg.val (c : Chg) : Value := .agg #[.string (str c.frm), .string (str c.to_), ptrOf c.file]
def chgCells (cs : List Chg) : List Value := cs.flatMap Chg.cells
theorem chgCells_len (cs : List Chg) : (chgCells cs).length = cs.length * 3 := by
  induction cs with
  | nil => rfl
  | cons c r ih =>
    unfold chgCells at *
    simp only [List.flatMap_cons, List.length_append, ih, List.length_cons]
    simp [Chg.cells]
    omega
theorem chgCells_append (a b : List Chg) : chgCells (a ++ b) = chgCells a ++ chgCells b := by unfold chgCells; simp
theorem chgCells_take (cs : List Chg) (n : Nat) : (chgCells cs).take (n * 3) = chgCells (cs.take n) := by
  induction cs generalizing n with
  | nil => simp [chgCells]
  | cons c r ih =>
    cases n with
    | zero => simp [chgCells]
    | succ n =>
      have h1 := ih n
      have e : (n + 1) * 3 = n * 3 + 3 := by omega
      unfold chgCells at *
      simp only [List.take_succ_cons, List.flatMap_cons, e]
      rw [← h1]
      simp [Chg.cells]
theorem chgCells_at (cs : List Chg) {k : Nat} {c : Chg} (h : cs[k]? = some c) (j : Nat) (hj : j < 3) : (chgCells cs)[3 * k + j]? = c.cells[j]? := by
  induction cs generalizing k with
  | nil => simp at h
  | cons x r ih =>
    cases k with
    | zero =>
      have : x = c := by simpa using h
      subst this
      unfold chgCells
      simp only [List.flatMap_cons]
      rw [List.getElem?_append_left (by simp [Chg.cells]; omega)]
      simp
    | succ k =>
      have h' : r[k]? = some c := by simpa using h
      have := ih h'
      unfold chgCells at *
      simp only [List.flatMap_cons]
      rw [List.getElem?_append_right (by simp [Chg.cells]; omega)]
      rw [← this]
      congr 1
      simp [Chg.cells]
      omega
theorem ptr_one (o : Option Nat) : (ptrOf o).oneCell' = true := rfl
theorem chg_one (cs : List Chg) : ∀ u ∈ chgCells cs, u.oneCell' = true := by
  intro u hu
  obtain ⟨c, _, h⟩ := List.mem_flatMap.1 hu
  simp [Chg.cells] at h
  rcases h with rfl | rfl | rfl <;> rfl

theorem Try.infoU8 : (Try.prog.info? 5).map (fun i => (i.zero, i.size, i.bytes)) = some (some (.int .u8 0), 1, 1) := by kernel_rfl
theorem Try.infoChange : (Try.prog.info? 80).map (fun i => (i.zero, i.size, i.bytes)) = some (some (.agg #[.string ⟨#[]⟩, .string ⟨#[]⟩, .pointer none]), 3, 40) := by kernel_rfl
theorem zeroFile (w : World) : (zeroValue 59).run Try.prog w = .ok (.pointer none) w := by kernel_rfl

/-- Where a file's row lies. -/
def rowB (r : Option Addr × Nat) : Option Nat := r.1.map (·.block)
theorem own_rowB (a : Option Addr) (n c : Nat) : (Value.slice a n c).ownBlock = rowB (a, c) := by cases a <;> rfl
/-- The file at block f. -/
structure Fil (w : World) (f : Nat) (r : Option Addr × Nat) (l : Fl) : Prop where
  blk : w.heap[f]? = some (.cells #[.slice r.1 l.data.length r.2, .int .i64 l.safe] 61 (0, 0))
  own : w.ownsRow 0 5 1 (.slice r.1 l.data.length r.2) l.data.length (l.data.map bv)
theorem Fil.keep {S : Nat → Prop} {w w' : World} {f : Nat} {r : Option Addr × Nat} {l : Fl} (h : Fil w f r l) (k : Kept S w w') (hf : ¬ S f) (hr : ∀ i, rowB r = some i → ¬ S i) : Fil w' f r l :=
  ⟨k.blk h.blk hf, own_keep h.own k fun i hi => hr i (by rw [own_rowB] at hi; exact hi)⟩
theorem Fil.rowNe {w : World} {f g : Nat} {r : Option Addr × Nat} {l : Fl} {cs : Array Value} {t : TypeId} {fr : Nat × Nat} (h : Fil w f r l) (hg : w.heap[g]? = some (.cells cs t fr)) (ht : 5 ≠ t) : rowB r ≠ some g := by
  have := own_ne h.own hg ht
  rw [own_rowB] at this
  exact this

/-- What holds of a disk that came of calls. -/
structure Ok (S : St) : Prop where
  cur_len : S.cur.length ≤ S.calls
  safe_len : S.safe.length + S.pend.length ≤ S.calls
  fl_len : ∀ f l, S.fl f = some l → l.data.length ≤ S.vol ∧ l.safe ≤ l.data.length
  cur_fl : ∀ p ∈ S.cur, (S.fl p.2).isSome = true
  safe_fl : ∀ p ∈ S.safe, (S.fl p.2).isSome = true
  pend_fl : ∀ c ∈ S.pend, ∀ f, c.file = some f → (S.fl f).isSome = true
  pend_name : ∀ c ∈ S.pend, c.frm.length ≤ maxLen ∧ c.to_.length ≤ maxLen
  room_le : S.room ≤ 4611686018427387904
  calls_le : S.calls ≤ 1000000
  vol_le : S.vol ≤ 1000000000
  left_lo : -9223372036854775808 ≤ S.left
  left_hi : S.left ≤ 9223372036854775807

def dcells (S : St) (mc ms : Option Nat) (A : Option Addr) (c : Nat) : Array Value :=
  #[.int .i64 S.room, .map mc, .map ms, .slice A S.pend.length c, .int .i64 S.calls, .bool S.armed, .int .i64 S.left, .bool S.down]

structure DkR (w : World) (F : Nat → Prop) (d : Nat) (S : St) (mc ms : Option Nat) (A : Option Addr) (c : Nat) (R : Nat → Option Addr × Nat) : Prop where
  blk : w.heap[d]? = some (.cells (dcells S mc ms A c) 57 (0, 0))
  cur : Nm w mc S.cur
  safe : Nm w ms S.safe
  pend : w.ownsRow 0 80 3 (.slice A S.pend.length c) S.pend.length (chgCells S.pend)
  fil : ∀ f l, S.fl f = some l → Fil w f (R f) l
  apart : ∀ f g l m, S.fl f = some l → S.fl g = some m → f ≠ g → ∀ k, rowB (R f) = some k → rowB (R g) ≠ some k
  fd : F d
  fcur : ∀ b, mc = some b → F b
  fsafe : ∀ b, ms = some b → F b
  fpend : ∀ k, rowB (A, c) = some k → F k
  ffil : ∀ f l, S.fl f = some l → F f ∧ ∀ k, rowB (R f) = some k → F k
  lt : ∀ k, F k → k < w.heap.size
  ok : Ok S

/-- A disk at block d: as S says; its blocks are of F. -/
def Dk (w : World) (F : Nat → Prop) (d : Nat) (S : St) : Prop := ∃ mc ms A c R, DkR w F d S mc ms A c R

section
variable {w w' : World} {F G : Nat → Prop} {d : Nat} {S : St} {mc ms : Option Nat} {A : Option Addr} {c : Nat} {R : Nat → Option Addr × Nat}

theorem DkR.keep {T : Nat → Prop} (h : DkR w F d S mc ms A c R) (k : Kept T w w') (hd : ∀ i, F i → ¬ T i) : DkR w' F d S mc ms A c R where
  blk := k.blk h.blk (hd d h.fd)
  cur := h.cur.keep k fun b hb => hd b (h.fcur b hb)
  safe := h.safe.keep k fun b hb => hd b (h.fsafe b hb)
  pend := own_keep h.pend k fun i hi => hd i (h.fpend i (by rw [own_rowB] at hi; exact hi))
  fil := fun f l hf => (h.fil f l hf).keep k (hd f (h.ffil f l hf).1) fun i hi => hd i ((h.ffil f l hf).2 i hi)
  apart := h.apart
  fd := h.fd
  fcur := h.fcur
  fsafe := h.fsafe
  fpend := h.fpend
  ffil := h.ffil
  lt := fun i hi => Nat.lt_of_lt_of_le (h.lt i hi) k.size
  ok := h.ok
theorem DkR.mono (h : DkR w F d S mc ms A c R) (hF : ∀ i, F i → G i) (hG : ∀ i, G i → i < w.heap.size) : DkR w G d S mc ms A c R where
  blk := h.blk
  cur := h.cur
  safe := h.safe
  pend := h.pend
  fil := h.fil
  apart := h.apart
  fd := hF _ h.fd
  fcur := fun b hb => hF _ (h.fcur b hb)
  fsafe := fun b hb => hF _ (h.fsafe b hb)
  fpend := fun b hb => hF _ (h.fpend b hb)
  ffil := fun f l hf => ⟨hF _ (h.ffil f l hf).1, fun k hk => hF _ ((h.ffil f l hf).2 k hk)⟩
  lt := hG
  ok := h.ok
theorem Dk.keep {T : Nat → Prop} (h : Dk w F d S) (k : Kept T w w') (hd : ∀ i, F i → ¬ T i) : Dk w' F d S := by
  obtain ⟨mc, ms, A, c, R, h⟩ := h
  exact ⟨mc, ms, A, c, R, h.keep k hd⟩
theorem Dk.mono (h : Dk w F d S) (hF : ∀ i, F i → G i) (hG : ∀ i, G i → i < w.heap.size) : Dk w G d S := by
  obtain ⟨mc, ms, A, c, R, h⟩ := h
  exact ⟨mc, ms, A, c, R, h.mono hF hG⟩
theorem Dk.lt (h : Dk w F d S) : ∀ i, F i → i < w.heap.size := by
  obtain ⟨mc, ms, A, c, R, h⟩ := h
  exact h.lt
theorem Dk.fd (h : Dk w F d S) : F d := by
  obtain ⟨mc, ms, A, c, R, h⟩ := h
  exact h.fd
theorem Dk.ok (h : Dk w F d S) : Ok S := by
  obtain ⟨mc, ms, A, c, R, h⟩ := h
  exact h.ok
theorem DkR.curNe (h : DkR w F d S mc ms A c R) : ∀ b, mc = some b → b ≠ d := fun b hb => by have := h.cur; rw [hb] at this; exact this.ne h.blk
theorem DkR.safeNe (h : DkR w F d S mc ms A c R) : ∀ b, ms = some b → b ≠ d := fun b hb => by have := h.safe; rw [hb] at this; exact this.ne h.blk
theorem DkR.pendNe (h : DkR w F d S mc ms A c R) : rowB (A, c) ≠ some d := by
  have := own_ne h.pend h.blk (by decide)
  rw [own_rowB] at this
  exact this
theorem blk_ne {f g : Nat} {cs cs' : Array Value} {t t' : TypeId} {fr fr' : Nat × Nat} (h : w.heap[f]? = some (.cells cs t fr)) (h' : w.heap[g]? = some (.cells cs' t' fr')) (ht : t ≠ t') : f ≠ g := by
  rintro rfl
  rw [h] at h'
  injection h' with h'
  injection h' with _ h'
  exact ht h'
theorem DkR.filNe (h : DkR w F d S mc ms A c R) {f : Nat} {l : Fl} (hf : S.fl f = some l) : f ≠ d ∧ rowB (R f) ≠ some d :=
  ⟨blk_ne (h.fil f l hf).blk h.blk (by decide), (h.fil f l hf).rowNe h.blk (by decide)⟩

/-- The disk's own cells turned, and nothing else. -/
theorem DkR.turn (h : DkR w F d S mc ms A c R) {S' : St} {mc' ms' : Option Nat} {A' : Option Addr} {c' : Nat} (k : Kept (fun i => i = d) w w') (hb : w'.heap[d]? = some (.cells (dcells S' mc' ms' A' c') 57 (0, 0)))
    (hfl : S'.fl = S.fl) (hcur : Nm w mc' S'.cur) (hsafe : Nm w ms' S'.safe) (hp : w.ownsRow 0 80 3 (.slice A' S'.pend.length c') S'.pend.length (chgCells S'.pend)) (hfc : ∀ b, mc' = some b → F b) (hfs : ∀ b, ms' = some b → F b)
    (hfp : ∀ k, rowB (A', c') = some k → F k) (ok : Ok S') : DkR w' F d S' mc' ms' A' c' R where
  blk := hb
  cur := hcur.keep k fun b hb' => by subst hb'; exact hcur.ne h.blk
  safe := hsafe.keep k fun b hb' => by subst hb'; exact hsafe.ne h.blk
  pend := own_keep hp k fun i hi => by rintro rfl; exact own_ne hp h.blk (by decide) hi
  fil := fun f l hf => by
    rw [hfl] at hf
    exact (h.fil f l hf).keep k (h.filNe hf).1 fun i hi => by rintro rfl; exact (h.filNe hf).2 hi
  apart := by rw [hfl]; exact h.apart
  fd := h.fd
  fcur := hfc
  fsafe := hfs
  fpend := hfp
  ffil := by rw [hfl]; exact h.ffil
  lt := fun i hi => Nat.lt_of_lt_of_le (h.lt i hi) k.size
  ok := ok

/-- A change of one file. -/
def St.setFl (S : St) (f : Nat) (l : Fl) : St := { S with fl := fun g => if g = f then some l else S.fl g }
theorem DkR.file (h : DkR w F d S mc ms A c R) {f : Nat} {l l' : Fl} (hf : S.fl f = some l) {r : Option Addr × Nat} (k : Kept (fun i => i = f ∨ rowB (R f) = some i) w w') (hn : Fil w' f r l') (hat : ∀ k, rowB r = some k → rowB (R f) = some k ∨ fresh w w' k)
    {v : Nat} (ok : Ok { S.setFl f l' with vol := v }) :
    DkR w' (fun k => F k ∨ fresh w w' k) d { S.setFl f l' with vol := v } mc ms A c (fun g => if g = f then r else R g) where
  blk := k.blk h.blk (by rintro (rfl | e); exact (h.filNe hf).1 rfl; exact (h.filNe hf).2 e)
  cur := h.cur.keep k fun b hb => by
    subst hb
    have hc := h.cur
    rintro (rfl | e)
    · exact hc.ne (h.fil b l hf).blk rfl
    · have ho := (h.fil f l hf).own
      rcases ho.2 with ⟨h1, _⟩ | ⟨g, cap, cu, h1, _, h2, _⟩
      · injection h1 with h1; rw [rowB, h1] at e; cases e
      · injection h1 with h1
        rw [rowB, h1] at e
        injection e with e
        exact hc.ne h2 e.symm
  safe := h.safe.keep k fun b hb => by
    subst hb
    have hc := h.safe
    rintro (rfl | e)
    · exact hc.ne (h.fil b l hf).blk rfl
    · have ho := (h.fil f l hf).own
      rcases ho.2 with ⟨h1, _⟩ | ⟨g, cap, cu, h1, _, h2, _⟩
      · injection h1 with h1; rw [rowB, h1] at e; cases e
      · injection h1 with h1
        rw [rowB, h1] at e
        injection e with e
        exact hc.ne h2 e.symm
  pend := own_keep h.pend k fun i hi => by
    rintro (rfl | e)
    · exact own_ne h.pend (h.fil i l hf).blk (by decide) hi
    · have ho := (h.fil f l hf).own
      rcases ho.2 with ⟨h1, _⟩ | ⟨g, cap, cu, h1, _, h2, _⟩
      · injection h1 with h1; rw [rowB, h1] at e; cases e
      · injection h1 with h1
        rw [rowB, h1] at e
        injection e with e
        simp only at e
        rw [e] at h2
        exact own_ne h.pend h2 (by decide) hi
  fil := fun g m hg => by
    show Fil w' g (if g = f then r else R g) m
    by_cases e : g = f
    · subst e
      simp [St.setFl] at hg
      subst hg
      simpa using hn
    · simp [St.setFl, e] at hg
      rw [if_neg e]
      refine (h.fil g m hg).keep k ?_ fun i hi => ?_
      · rintro (h1 | h1)
        · exact e h1
        · exact (h.fil f l hf).rowNe (h.fil g m hg).blk (by decide) h1
      · rintro (rfl | h1)
        · exact (h.fil g m hg).rowNe (h.fil i l hf).blk (by decide) hi
        · exact h.apart f g l m hf hg (fun e' => e e'.symm) i h1 hi
  apart := fun g g' m m' hg hg' hne k' hk' => by
    have key : ∀ g m, g ≠ f → S.fl g = some m → rowB r = some k' → rowB (R g) ≠ some k' := fun g m hgf hgm h1 h2 => by
      rcases hat k' h1 with h3 | h3
      · exact h.apart f g l m hf hgm (fun e => hgf e.symm) k' h3 h2
      · have := h.lt k' ((h.ffil g m hgm).2 k' h2)
        have := h3.1
        omega
    by_cases e : g = f
    · subst e
      rw [if_pos rfl] at hk'
      rw [if_neg (fun e => hne e.symm)]
      have hne2 : g' ≠ g := fun e => hne e.symm
      simp [St.setFl, hne2] at hg'
      exact key g' m' (fun e => hne e.symm) hg' hk'
    · rw [if_neg e] at hk'
      simp [St.setFl, e] at hg
      by_cases e' : g' = f
      · subst e'
        rw [if_pos rfl]
        exact fun h1 => key g m e hg h1 hk'
      · rw [if_neg e']
        simp [St.setFl, e'] at hg'
        exact h.apart g g' m m' hg hg' hne k' hk'
  fd := .inl h.fd
  fcur := fun b hb => .inl (h.fcur b hb)
  fsafe := fun b hb => .inl (h.fsafe b hb)
  fpend := fun b hb => .inl (h.fpend b hb)
  ffil := fun g m hg => by
    by_cases e : g = f
    · subst e
      refine ⟨.inl (h.ffil g l hf).1, fun k' hk' => ?_⟩
      rw [if_pos rfl] at hk'
      rcases hat k' hk' with h1 | h1
      · exact .inl ((h.ffil g l hf).2 k' h1)
      · exact .inr h1
    · simp [St.setFl, e] at hg
      refine ⟨.inl (h.ffil g m hg).1, fun k' hk' => ?_⟩
      rw [if_neg e] at hk'
      exact .inl ((h.ffil g m hg).2 k' hk')
  lt := fun i hi => hi.elim (fun h1 => Nat.lt_of_lt_of_le (h.lt i h1) k.size) (fun h1 => h1.2)
  ok := ok

/-- A new file, without bytes. -/
theorem DkR.newfile (h : DkR w F d S mc ms A c R) (k : Kept noBlock w w') {f : Nat} (hf : fresh w w' f) (hn : Fil w' f (none, 0) ⟨[], 0⟩) :
    DkR w' (fun k => F k ∨ fresh w w' k) d (S.setFl f ⟨[], 0⟩) mc ms A c (fun g => if g = f then (none, 0) else R g) := by
  have h1 := h.keep k (fun _ _ h => h)
  have hne : ∀ g m, S.fl g = some m → g ≠ f := fun g m hg e => by
    have := h.lt g (h.ffil g m hg).1
    have := hf.1
    omega
  exact {
    blk := h1.blk, cur := h1.cur, safe := h1.safe, pend := h1.pend
    fil := fun g m hg => by
      by_cases e : g = f
      · subst e
        simp [St.setFl] at hg
        subst hg
        rw [if_pos rfl]
        exact hn
      · simp [St.setFl, e] at hg
        rw [if_neg e]
        exact h1.fil g m hg
    apart := fun g g' m m' hg hg' hne' k' hk' => by
      by_cases e : g = f
      · rw [if_pos e] at hk'; cases hk'
      · by_cases e' : g' = f
        · rw [if_pos e']; exact fun h => by cases h
        · simp [St.setFl, e] at hg
          simp [St.setFl, e'] at hg'
          rw [if_neg e] at hk'
          rw [if_neg e']
          exact h.apart g g' m m' hg hg' hne' k' hk'
    fd := .inl h.fd, fcur := fun b hb => .inl (h.fcur b hb), fsafe := fun b hb => .inl (h.fsafe b hb), fpend := fun b hb => .inl (h.fpend b hb)
    ffil := fun g m hg => by
      by_cases e : g = f
      · subst e
        refine ⟨.inr hf, fun k' hk' => ?_⟩
        rw [if_pos rfl] at hk'; cases hk'
      · simp [St.setFl, e] at hg
        refine ⟨.inl (h.ffil g m hg).1, fun k' hk' => ?_⟩
        rw [if_neg e] at hk'
        exact .inl ((h.ffil g m hg).2 k' hk')
    lt := fun i hi => hi.elim (fun h1 => Nat.lt_of_lt_of_le (h.lt i h1) k.size) (fun h1 => h1.2)
    ok := by
      have o := h.ok
      have up : ∀ g, (S.fl g).isSome = true → ((S.setFl f ⟨[], 0⟩).fl g).isSome = true := fun g hg => by
        by_cases e : g = f
        · simp [St.setFl, e]
        · simpa [St.setFl, e] using hg
      refine ⟨o.cur_len, o.safe_len, fun g m hg => ?_, fun p hp => up _ (o.cur_fl p hp), fun p hp => up _ (o.safe_fl p hp), fun x hx g hg => up _ (o.pend_fl x hx g hg), o.pend_name, o.room_le, o.calls_le, o.vol_le, o.left_lo, o.left_hi⟩
      by_cases e : g = f
      · simp [St.setFl, e] at hg
        subst hg
        exact ⟨Nat.zero_le _, Nat.le_refl _⟩
      · simp [St.setFl, e] at hg
        exact o.fl_len g m hg }
end

/-- What a call did to a disk: nothing else turned. -/
structure Did (F : Nat → Prop) (w w' : World) (d : Nat) (S : St) : Prop where
  kept : Kept F w w'
  dk : Dk w' (fun k => F k ∨ fresh w w' k) d S
theorem Did.join {F : Nat → Prop} {w w1 w2 : World} {d : Nat} {S S' : St} (h1 : Did F w w1 d S) (h2 : Did (fun k => F k ∨ fresh w w1 k) w1 w2 d S') : Did F w w2 d S' := by
  refine ⟨h1.kept.trans h2.kept (fun i hi h => h.elim (fun h => h) (fun h => absurd h.1 (by omega))), h2.dk.mono (fun i hi => ?_) (fun i hi => ?_)⟩
  · rcases hi with (h | h) | h
    · exact .inl h
    · exact .inr ⟨h.1, Nat.lt_of_lt_of_le h.2 h2.kept.size⟩
    · exact .inr ⟨Nat.le_trans h1.kept.size h.1, h.2⟩
  · rcases hi with h | h
    · exact h2.dk.lt i (.inl (.inl h))
    · exact h.2
theorem Did.after {F : Nat → Prop} {w w0 w1 : World} {d : Nat} {S : St} (k0 : Kept noBlock w w0) (hlt : ∀ k, F k → k < w.heap.size) (r : Did F w0 w1 d S) : Did F w w1 d S := by
  have kk : Kept F w w1 := (k0.mono (fun _ _ h => h.elim)).step r.kept
  refine ⟨kk, r.dk.mono (fun i hi => ?_) (fun i hi => ?_)⟩
  · rcases hi with h | h
    · exact .inl h
    · exact .inr ⟨Nat.le_trans k0.size h.1, h.2⟩
  · rcases hi with h | h
    · exact Nat.lt_of_lt_of_le (hlt i h) kk.size
    · exact h.2
theorem Did.then_ {F : Nat → Prop} {w w0 w1 : World} {d : Nat} {S : St} (r : Did F w w0 d S) (k : Kept noBlock w0 w1) : Did F w w1 d S := by
  refine ⟨r.kept.trans k (fun _ _ h => h.elim), (r.dk.keep k (fun _ _ h => h)).mono (fun i hi => ?_) (fun i hi => ?_)⟩
  · exact hi.imp id fun h => ⟨h.1, Nat.lt_of_lt_of_le h.2 k.size⟩
  · rcases hi with h | h
    · exact Nat.lt_of_lt_of_le (r.dk.lt i (.inl h)) k.size
    · exact h.2
theorem Did.same {F : Nat → Prop} {w : World} {d : Nat} {S : St} (h : Dk w F d S) : Did F w w d S :=
  ⟨Kept.refl _ _, h.mono (fun _ h => .inl h) (fun i hi => hi.elim (h.lt i) (fun h => h.2))⟩
theorem Did.of {F : Nat → Prop} {w w' : World} {d : Nat} {S : St} {T : Nat → Prop} (k : Kept T w w') (hT : ∀ i, T i → F i) (h : Dk w' F d S) : Did F w w' d S :=
  ⟨k.mono (fun i _ h => hT i h), h.mono (fun _ h => .inl h) (fun i hi => hi.elim (h.lt i) (fun h => h.2))⟩

/-! ### counting -/
def St.count (S : St) : Nat × St :=
  if S.armed = false then (0, { S with calls := S.calls + 1 })
  else if 0 < S.left then (0, { S with calls := S.calls + 1, left := S.left - 1 })
  else (7, { S with calls := S.calls + 1, down := true })
theorem Ok.calls {S : St} (o : Ok S) (h : S.calls < 1000000) (b : Bool) (n : Int) (h1 : -9223372036854775808 ≤ n) (h2 : n ≤ 9223372036854775807) (a : Bool) : Ok { S with calls := S.calls + 1, left := n, down := b, armed := a } :=
  ⟨by have := o.cur_len; simp only; omega, by have := o.safe_len; simp only; omega, o.fl_len, o.cur_fl, o.safe_fl, o.pend_fl, o.pend_name, o.room_le, by simp only; omega, o.vol_le, h1, h2⟩
theorem St.count_ok {S : St} (o : Ok S) (h : S.calls < 1000000) : Ok S.count.2 := by
  unfold St.count
  split
  · exact o.calls h _ _ o.left_lo o.left_hi _
  · split
    · have := o.left_hi; exact o.calls h _ _ (by omega) (by omega) _
    · exact o.calls h _ _ o.left_lo o.left_hi _

set_option maxRecDepth 100000 in
set_option maxHeartbeats 1000000 in
theorem count_any (F : Nat → Prop) (d : Nat) (S : St) (mc ms : Option Nat) (A : Option Addr) (c : Nat) (R : Nat → Option Addr × Nat) (w : World) (h : DkR w F d S mc ms A c R) (hc : S.calls < 1000000) :
    Calls Try.prog 36 #[.pointer (some ⟨d, 0, none⟩)] w fun e w' => e = .returned (.int .i64 (S.count.1 : Int)) ∧ DkR w' F d S.count.2 mc ms A c R ∧ Kept (fun i => i = d) w w' := by
  have o := h.ok
  have hl1 := o.left_lo
  have hl2 := o.left_hi
  have H := Lib.hid h
  have hb := h.blk
  unfold dcells at hb
  clear h o
  obtain ⟨room, cur, safe, pend, calls, armed, left, down, fl, vol⟩ := S
  simp only at hb hc hl1 hl2
  have c4 : w.cell? ⟨d, 4, none⟩ = some (.int .i64 (calls : Int)) := cell_of_row _ _ _ _ _ _ hb
  have c5 : w.cell? ⟨d, 5, none⟩ = some (.bool armed) := cell_of_row _ _ _ _ _ _ hb
  have c6 : w.cell? ⟨d, 6, none⟩ = some (.int .i64 left) := cell_of_row _ _ _ _ _ _ hb
  have c7 : w.cell? ⟨d, 7, none⟩ = some (.bool down) := cell_of_row _ _ _ _ _ _ hb
  have f4 : w.frozen? ⟨d, 4, none⟩ = false := frozen_of_row _ _ _ _ _ hb
  have f6 : w.frozen? ⟨d, 6, none⟩ = false := frozen_of_row _ _ _ _ _ hb
  have f7 : w.frozen? ⟨d, 7, none⟩ = false := frozen_of_row _ _ _ _ _ hb
  have HB := Lib.hid hb
  clear hb
  unfold St.count
  simp only
  cases armed with
  | false =>
    go_enter Try.func36, Try.ntmps36
    go_wp2
    go_ret
    have k1 : Kept (fun i => i = d) w (w.setCell ⟨d, 4, none⟩ (.int .i64 ((calls : Int) + 1))) := Kept.setCell w (by rfl) _
    have b1 := heap_setCell_same w d 4 _ 57 (.int .i64 ((calls : Int) + 1)) HB.out
    refine ⟨rfl, H.out.turn k1 ?_ rfl H.out.cur H.out.safe H.out.pend H.out.fcur H.out.fsafe H.out.fpend ?_, k1⟩
    · rw [b1]; rfl
    · exact H.out.ok.calls hc _ _ hl1 hl2 _
  | true =>
    by_cases hp : 0 < left
    · go_enter Try.func36, Try.ntmps36
      go_wp2
      go_ret
      have k1 : Kept (fun i => i = d) w (w.setCell ⟨d, 4, none⟩ (.int .i64 ((calls : Int) + 1))) := Kept.setCell w (by rfl) _
      have b1 := heap_setCell_same w d 4 _ 57 (.int .i64 ((calls : Int) + 1)) HB.out
      have k2 : Kept (fun i => i = d) w ((w.setCell ⟨d, 4, none⟩ (.int .i64 ((calls : Int) + 1))).setCell ⟨d, 6, none⟩ (.int .i64 (left - 1))) := k1.step (Kept.setCell _ (by rfl) _)
      have b2 := heap_setCell_same _ d 6 _ 57 (.int .i64 (left - 1)) b1
      refine ⟨by simp, ?_, k2⟩
      refine H.out.turn k2 ?_ rfl H.out.cur H.out.safe H.out.pend H.out.fcur H.out.fsafe H.out.fpend ?_
      · rw [b2]; rfl
      · exact H.out.ok.calls hc _ _ (by omega) (by omega) _
    · go_enter Try.func36, Try.ntmps36
      go_wp2
      go_ret
      have k1 : Kept (fun i => i = d) w (w.setCell ⟨d, 4, none⟩ (.int .i64 ((calls : Int) + 1))) := Kept.setCell w (by rfl) _
      have b1 := heap_setCell_same w d 4 _ 57 (.int .i64 ((calls : Int) + 1)) HB.out
      have k2 : Kept (fun i => i = d) w ((w.setCell ⟨d, 4, none⟩ (.int .i64 ((calls : Int) + 1))).setCell ⟨d, 7, none⟩ (.bool true)) := k1.step (Kept.setCell _ (by rfl) _)
      have b2 := heap_setCell_same _ d 7 _ 57 (.bool true) b1
      refine ⟨by simp, ?_, k2⟩
      refine H.out.turn k2 ?_ rfl H.out.cur H.out.safe H.out.pend H.out.fcur H.out.fsafe H.out.fpend ?_
      · rw [b2]; rfl
      · exact H.out.ok.calls hc _ _ hl1 hl2 _

/-! ### the small methods -/
def St.of (room : Int) : St := { room := room.toNat, cur := [], safe := [], pend := [], calls := 0, armed := false, left := 0, down := false, fl := fun _ => none, vol := 0 }
def St.arm (S : St) (n : Int) : St := { S with armed := decide (0 ≤ n), left := n }
def St.find (S : St) (s : List UInt8) : Option Nat × Nat :=
  if S.down = true then (none, 7) else match Dir.look S.cur s with | none => (none, 6) | some f => (some f, 0)

set_option maxRecDepth 100000 in
set_option maxHeartbeats 1000000 in
theorem of_any (room : Int) (w : World) (hr : room ≤ 4611686018427387904) :
    Calls Try.prog 5 #[.int .i64 room] w fun e w' => ∃ d, e = .returned (.pointer (some ⟨d, 0, none⟩)) ∧ Dk w' (fresh w w') d (St.of room) ∧ Kept noBlock w w' := by
  have fin : ∀ r : Nat, r = room.toNat → Dk (w.alloc (.cells #[.int .i64 (r : Int), .map none, .map none, .slice none 0 0, .int .i64 0, .bool false, .int .i64 0, .bool false] 57))
      (fresh w (w.alloc (.cells #[.int .i64 (r : Int), .map none, .map none, .slice none 0 0, .int .i64 0, .bool false, .int .i64 0, .bool false] 57))) w.heap.size (St.of room) := by
    rintro r rfl
    refine ⟨none, none, none, 0, fun _ => (none, 0), ?_⟩
    exact {
      blk := heap_alloc_new w _, cur := rfl, safe := rfl, pend := World.ownsRow_nil _ _ _ _
      fil := fun f l h => (by cases h)
      apart := fun f g l m h => (by cases h)
      fd := ⟨Nat.le_refl _, (by simp)⟩
      fcur := fun b h => (by cases h)
      fsafe := fun b h => (by cases h)
      fpend := fun b h => (by cases h)
      ffil := fun f l h => (by cases h)
      lt := fun k h => h.2
      ok := ⟨Nat.le_refl _, Nat.le_refl _, fun f l h => (by cases h), fun p h => (by cases h), fun p h => (by cases h), fun p h => (by cases h), fun p h => (by cases h), (by simp only [St.of]; omega), Nat.zero_le _, Nat.zero_le _, (by simp [St.of]), (by simp [St.of])⟩ }
  by_cases hn : room < 0
  · have FN := Lib.hid (fin 0 (by omega))
    clear fin
    go_enter Try.func5, Try.ntmps5
    go_wp2
    go_ret
    exact ⟨w.heap.size, rfl, FN.out, Kept.alloc _ _ _⟩
  · obtain ⟨r, rfl⟩ : ∃ r : Nat, room = (r : Int) := ⟨room.toNat, by omega⟩
    have FN := Lib.hid (fin r (by omega))
    clear fin
    go_enter Try.func5, Try.ntmps5
    go_wp2
    go_ret
    exact ⟨w.heap.size, rfl, FN.out, Kept.alloc _ _ _⟩

set_option maxRecDepth 100000 in
set_option maxHeartbeats 1000000 in
theorem arm_any (F : Nat → Prop) (d : Nat) (S : St) (n : Int) (mc ms : Option Nat) (A : Option Addr) (c : Nat) (R : Nat → Option Addr × Nat) (w : World) (h : DkR w F d S mc ms A c R) (h1 : -9223372036854775808 ≤ n) (h2 : n ≤ 9223372036854775807) :
    Calls Try.prog 6 #[.pointer (some ⟨d, 0, none⟩), .int .i64 n] w fun e w' => e = .returned (.tuple #[]) ∧ DkR w' F d (S.arm n) mc ms A c R ∧ Kept (fun i => i = d) w w' := by
  have H := Lib.hid h
  have hb := h.blk
  unfold dcells at hb
  have f5 : w.frozen? ⟨d, 5, none⟩ = false := frozen_of_row _ _ _ _ _ hb
  have f6 : w.frozen? ⟨d, 6, none⟩ = false := frozen_of_row _ _ _ _ _ hb
  have c5 : w.cell? ⟨d, 5, none⟩ = some (.bool S.armed) := cell_of_row _ _ _ _ _ _ hb
  have c6 : w.cell? ⟨d, 6, none⟩ = some (.int .i64 S.left) := cell_of_row _ _ _ _ _ _ hb
  have HB := Lib.hid hb
  clear hb h
  go_enter Try.func6, Try.ntmps6
  go_wp2
  go_end0
  have k1 : Kept (fun i => i = d) w (w.setCell ⟨d, 5, none⟩ (.bool (decide (0 ≤ n)))) := Kept.setCell w (by rfl) _
  have b1 := heap_setCell_same w d 5 _ 57 (.bool (decide (0 ≤ n))) HB.out
  have k2 : Kept (fun i => i = d) w ((w.setCell ⟨d, 5, none⟩ (.bool (decide (0 ≤ n)))).setCell ⟨d, 6, none⟩ (.int .i64 n)) := k1.step (Kept.setCell _ (by rfl) _)
  have b2 := heap_setCell_same _ d 6 _ 57 (.int .i64 n) b1
  refine ⟨rfl, H.out.turn k2 ?_ rfl H.out.cur H.out.safe H.out.pend H.out.fcur H.out.fsafe H.out.fpend ?_, k2⟩
  · rw [b2]; rfl
  · have o := H.out.ok
    exact ⟨o.cur_len, o.safe_len, o.fl_len, o.cur_fl, o.safe_fl, o.pend_fl, o.pend_name, o.room_le, o.calls_le, o.vol_le, h1, h2⟩

set_option maxRecDepth 100000 in
set_option maxHeartbeats 1000000 in
theorem find_any (F : Nat → Prop) (d : Nat) (S : St) (s : List UInt8) (mc ms : Option Nat) (A : Option Addr) (c : Nat) (R : Nat → Option Addr × Nat) (w : World) (h : DkR w F d S mc ms A c R) (hs : s.length ≤ maxLen) :
    Calls Try.prog 33 #[.pointer (some ⟨d, 0, none⟩), .string (str s)] w fun e w' => e = .returned (.tuple #[ptrOf (S.find s).1, .int .i64 ((S.find s).2 : Int)]) ∧ w = w' := by
  have hb := h.blk
  unfold dcells at hb
  have c7 : w.cell? ⟨d, 7, none⟩ = some (.bool S.down) := cell_of_row _ _ _ _ _ _ hb
  have c1 : w.cell? ⟨d, 1, none⟩ = some (.map mc) := cell_of_row _ _ _ _ _ _ hb
  have HN := Lib.hid h.cur
  clear hb h
  unfold St.find
  cases hd : S.down with
  | true =>
    rw [hd] at c7
    rw [if_pos rfl]
    clear hd
    go_enter Try.func33, Try.ntmps33
    go_wp2
    go_ret2
    exact ⟨rfl, rfl⟩
  | false =>
    rw [hd] at c7
    rw [if_neg (by simp)]
    clear hd
    cases hl : Dir.look S.cur s with
    | none =>
      have HL := Lib.hid hl; clear hl
      go_enter Try.func33, Try.ntmps33
      go_wp2_with (at_lookup; refine wpList_look_none rfl _ _ 54 59 rfl Try.underlying54 zeroFile mc S.cur rfl HN.out s rfl hs HL.out ?_)
      go_ret2
      exact ⟨rfl, rfl⟩
    | some f =>
      have HL := Lib.hid hl; clear hl
      go_enter Try.func33, Try.ntmps33
      go_wp2_with (at_lookup; refine wpList_look_some rfl _ _ 54 59 rfl Try.underlying54 zeroFile mc S.cur rfl HN.out s rfl hs f HL.out ?_)
      go_ret2
      exact ⟨rfl, rfl⟩

set_option maxRecDepth 100000 in
set_option maxHeartbeats 1000000 in
theorem down_any (F : Nat → Prop) (d : Nat) (S : St) (w : World) (h : Dk w F d S) :
    Calls Try.prog 11 #[.pointer (some ⟨d, 0, none⟩)] w fun e w' => e = .returned (.bool S.down) ∧ w = w' := by
  obtain ⟨mc, ms, A, c, R, h⟩ := h
  have hb := h.blk
  unfold dcells at hb
  have c7 : w.cell? ⟨d, 7, none⟩ = some (.bool S.down) := cell_of_row _ _ _ _ _ _ hb
  clear hb h
  go_enter Try.func11, Try.ntmps11
  go_wp2
  go_ret
  exact ⟨rfl, rfl⟩
set_option maxRecDepth 100000 in
set_option maxHeartbeats 1000000 in
theorem calls_any (F : Nat → Prop) (d : Nat) (S : St) (w : World) (h : Dk w F d S) :
    Calls Try.prog 12 #[.pointer (some ⟨d, 0, none⟩)] w fun e w' => e = .returned (.int .i64 (S.calls : Int)) ∧ w = w' := by
  obtain ⟨mc, ms, A, c, R, h⟩ := h
  have hb := h.blk
  unfold dcells at hb
  have c7 : w.cell? ⟨d, 4, none⟩ = some (.int .i64 (S.calls : Int)) := cell_of_row _ _ _ _ _ _ hb
  clear hb h
  go_enter Try.func12, Try.ntmps12
  go_wp2
  go_ret
  exact ⟨rfl, rfl⟩

/-! ### a file's own method -/
def Fl.keep (l : Fl) (n : Nat) : Fl := ⟨l.data.take n, min l.safe n⟩
theorem own_cut {w : World} {e : TypeId} {a : Option Addr} {n c m : Nat} {xs : List Value} (h : w.ownsRow 0 e 1 (.slice a n c) n xs) (hm : m ≤ n) : w.ownsRow 0 e 1 (.slice a m c) m (xs.take m) := by
  have hl := h.1
  refine ⟨by rw [List.length_take]; omega, ?_⟩
  rcases h.2 with ⟨h1, h2⟩ | ⟨g, cap, cur, h1, h2, h3, h4, h5, h6, h7⟩
  · injection h1 with h1 h1' h1''
    subst h1 h1''
    left
    have : m = 0 := by omega
    subst this
    exact ⟨rfl, rfl⟩
  · injection h1 with h1 _ h1''
    subst h1 h1''
    refine .inr ⟨g, c, cur, rfl, h2, h3, by omega, h5, h6, ?_⟩
    rw [← h7, List.take_take]
    congr 1
    omega

set_option maxRecDepth 100000 in
set_option maxHeartbeats 1000000 in
theorem fkeep_any (f : Nat) (r : Option Addr × Nat) (l : Fl) (n : Nat) (w : World) (h : Fil w f r l) (hn : n ≤ l.data.length) (hs : l.safe ≤ l.data.length) :
    Calls Try.prog 21 #[.pointer (some ⟨f, 0, none⟩), .int .i64 (n : Int)] w fun e w' => e = .returned (.tuple #[]) ∧ Fil w' f r (l.keep n) ∧ Kept (fun i => i = f) w w' ∧ w'.heap.size = w.heap.size := by
  obtain ⟨A, c⟩ := r
  obtain ⟨data, safe⟩ := l
  have hb := h.blk
  have ho := h.own
  simp only at hb ho hn hs
  have hcap : data.length ≤ c := by obtain ⟨_, _, e, hle⟩ := own_form ho; injection e with _ _ e; omega
  have c0 : w.cell? ⟨f, 0, none⟩ = some (.slice A data.length c) := cell_of_row _ _ _ _ _ _ hb
  have c1 : w.cell? ⟨f, 1, none⟩ = some (.int .i64 (safe : Int)) := cell_of_row _ _ _ _ _ _ hb
  have f0 : w.frozen? ⟨f, 0, none⟩ = false := frozen_of_row _ _ _ _ _ hb
  have f1 : w.frozen? ⟨f, 1, none⟩ = false := frozen_of_row _ _ _ _ _ hb
  have HB := Lib.hid hb
  have HO := Lib.hid ho
  clear hb ho h
  obtain ⟨len, hlen⟩ : ∃ len, len = data.length := ⟨_, rfl⟩
  rw [← hlen] at c0 hcap hn hs
  have HLn := Lib.hid hlen; clear hlen
  have hnc : n ≤ c := by omega
  have fin : ∀ m : Nat, m = min safe n → Fil ((w.setCell ⟨f, 0, none⟩ (.slice A n c)).setCell ⟨f, 1, none⟩ (.int .i64 (m : Int))) f (A, c) (Fl.keep ⟨data, safe⟩ n) ∧
      Kept (fun i => i = f) w ((w.setCell ⟨f, 0, none⟩ (.slice A n c)).setCell ⟨f, 1, none⟩ (.int .i64 (m : Int))) ∧ ((w.setCell ⟨f, 0, none⟩ (.slice A n c)).setCell ⟨f, 1, none⟩ (.int .i64 (m : Int))).heap.size = w.heap.size := by
    intro m hm
    have k1 : Kept (fun i => i = f) w (w.setCell ⟨f, 0, none⟩ (.slice A n c)) := Kept.setCell w (by rfl) _
    have b1 := heap_setCell_same w f 0 _ 61 (.slice A n c) HB.out
    have k2 : Kept (fun i => i = f) w ((w.setCell ⟨f, 0, none⟩ (.slice A n c)).setCell ⟨f, 1, none⟩ (.int .i64 (m : Int))) := k1.step (Kept.setCell _ (by rfl) _)
    have b2 := heap_setCell_same _ f 1 _ 61 (.int .i64 (m : Int)) b1
    have hlk : (data.take n).length = n := by rw [List.length_take, ← HLn.out]; omega
    refine ⟨⟨?_, ?_⟩, k2, by simp [World.setCell]⟩
    · rw [b2]
      simp only [Fl.keep, hlk, hm]
      rfl
    · simp only [Fl.keep, hlk]
      have ho := own_cut HO.out (m := n) (by rw [← HLn.out]; exact hn)
      rw [← List.map_take] at ho
      refine own_keep ho k2 fun i hi e => ?_
      subst e
      refine own_ne HO.out HB.out (by decide) ?_
      rw [own_rowB] at hi ⊢
      exact hi
  by_cases hns : n < safe
  · have FN := Lib.hid (fin n (by omega)); clear fin
    go_enter Try.func21, Try.ntmps21
    go_wp2
    go_end0
    exact ⟨rfl, FN.out⟩
  · have FN := Lib.hid (fin safe (by omega)); clear fin
    go_enter Try.func21, Try.ntmps21
    go_wp2
    go_end0
    exact ⟨rfl, FN.out⟩
end Go.Proofs.Ytdcccjkondjhbaa
