/-
  The model's methods, third part: change. No statement is proved here.
-/
import Derived.Test.YtdcccjkondjhbaaMdl3
import Derived.Great.BuildSlice
namespace Go.Proofs.Ytdcccjkondjhbaa
open Go.RowKit Go.Maps

theorem Try.infoStrs : (Try.prog.info? 42).map (fun i => (i.zero, i.size, i.bytes)) = some (some (.slice none 0 0), 1, 24) := by kernel_rfl
theorem Try.infoMfiles : (Try.prog.info? 63).map (fun i => (i.zero, i.size, i.bytes)) = some (some (.slice none 0 0), 1, 24) := by kernel_rfl

/-- A row of one cell that is written out, at a step of a region that draws its order. -/
theorem step_build_one {P : Program} {w : World} {ops : Array Oper} {o : Oper} {a : Act} {K : Act → World → Prop} {Q : Exit → Act → World → Prop} {E : Prop} (hgd : o.guard = Option.none) (t e : TypeId) (x : Operand) (ho : o.op = .buildSlice t 1 #[(0, x)])
    (z : Value) (b : Nat) (ht : P.underlying t = some (.slice e)) (hinfo : (P.info? e).map (fun i => (i.zero, i.size, i.bytes)) = some (some z, 1, b)) (u : Value) (hx : a.eval x = u) (hu : u.cells = #[u])
    (hK : ∀ B w', w'.heap[B]? = some (.cells #[u] e (0, 0)) → fresh w w' B → Kept noBlock w w' → K (a.put o.dst (.slice (some ⟨B, 0, Option.none⟩) 1 1)) w') :
    if Region.wanted o (yielded ops a.tmps) = true then Oper.wp P o a w K Q else E := by
  have hw : Region.wanted o (yielded ops a.tmps) = true := by simp [Region.wanted, hgd]
  rw [if_pos hw]
  obtain ⟨i, hi, hz, h1, h2⟩ := info_parts hinfo
  refine wp_buildSlice t e 1 #[(0, x)] ho #[u] i z ht hi hz (by rw [h1]; decide) (by rw [h1]; decide) ?_ ?_
  · rw [h1]
    have := Great.fill_flat [u] ((Array.range (1 * 1)).map (z.cells[· % z.cells.size]!)) (by intro v hv; simp at hv; subst hv; exact hu) (by simp)
    simpa [hx] using this
  · exact hK _ _ (heap_alloc_new w _) ⟨Nat.le_refl _, by simp⟩ (Kept.alloc _ _ _)

/-- Two rows that grow. -/
structure Gr (w0 w : World) (r1 r2 : Option Nat) (A1 : Option Addr) (n1 c1 : Nat) (xs1 : List Value) (A2 : Option Addr) (n2 c2 : Nat) (xs2 : List Value) : Prop where
  own1 : w.ownsRow 0 42 1 (.slice A1 n1 c1) n1 xs1
  own2 : w.ownsRow 0 63 1 (.slice A2 n2 c2) n2 xs2
  kept : Kept (fun k => r1 = some k ∨ r2 = some k) w0 w
  at1 : ∀ k, rowB (A1, c1) = some k → r1 = some k ∨ fresh w0 w k
  at2 : ∀ k, rowB (A2, c2) = some k → r2 = some k ∨ fresh w0 w k
theorem own_blk {w : World} {e : TypeId} {n c : Nat} {a : Option Addr} {xs : List Value} (h : w.ownsRow 0 e 1 (.slice a n c) n xs) {k : Nat} (hk : rowB (a, c) = some k) : ∃ cs fr, w.heap[k]? = some (.cells cs e fr) := by
  rcases h.2 with ⟨e1, _⟩ | ⟨b, cap, cu, e1, _, e2, _⟩
  · injection e1 with e1; rw [rowB, e1] at hk; cases hk
  · injection e1 with e1
    rw [rowB, e1] at hk
    injection hk with hk
    simp only at hk
    subst hk
    exact ⟨_, _, e2⟩
theorem rows_ne {w : World} {e e' : TypeId} {n c n' c' : Nat} {a a' : Option Addr} {xs xs' : List Value} (h : w.ownsRow 0 e 1 (.slice a n c) n xs) (h' : w.ownsRow 0 e' 1 (.slice a' n' c') n' xs') (hne : e ≠ e') {k : Nat} (hk : rowB (a, c) = some k) : rowB (a', c') ≠ some k := by
  obtain ⟨cs, fr, hb⟩ := own_blk h hk
  exact row_ne h' hb (fun e => hne e.symm)
theorem row_map_ne {w : World} {e : TypeId} {n c : Nat} {a : Option Addr} {xs : List Value} (h : w.ownsRow 0 e 1 (.slice a n c) n xs) {b : Nat} {N : Dir} (hN : Nm w (some b) N) : rowB (a, c) ≠ some b := fun hk => by
  obtain ⟨cs, fr, hb⟩ := own_blk h hk
  exact hN.ne hb rfl
section
variable {w0 w w' : World} {r1 r2 : Option Nat} {A1 A2 A : Option Addr} {n1 c1 n2 c2 n c : Nat} {xs1 xs2 xs : List Value}
theorem Gr.step (h : Gr w0 w r1 r2 A1 n1 c1 xs1 A2 n2 c2 xs2) (k : Kept noBlock w w') : Gr w0 w' r1 r2 A1 n1 c1 xs1 A2 n2 c2 xs2 :=
  ⟨own_keep h.own1 k (fun _ _ h => h), own_keep h.own2 k (fun _ _ h => h), h.kept.trans k (fun _ _ h => h.elim), fun i hi => (h.at1 i hi).imp id fun h => ⟨h.1, Nat.lt_of_lt_of_le h.2 k.size⟩, fun i hi => (h.at2 i hi).imp id fun h => ⟨h.1, Nat.lt_of_lt_of_le h.2 k.size⟩⟩
theorem Gr.app1 (h : Gr w0 w r1 r2 A1 n1 c1 xs1 A2 n2 c2 xs2) (ho : w'.ownsRow 0 42 1 (.slice A n c) n xs) (k : Kept (fun k => (Value.slice A1 n1 c1).ownBlock = some k) w w')
    (hat : ∀ k, (Value.slice A n c).ownBlock = some k → (Value.slice A1 n1 c1).ownBlock = some k ∨ fresh w w' k) : Gr w0 w' r1 r2 A n c xs A2 n2 c2 xs2 := by
  simp only [own_rowB] at k hat
  refine ⟨ho, own_keep h.own2 k (fun i hi h9 => ?_), h.kept.trans k (fun i hi h9 => ?_), fun i hi => ?_, fun i hi => ?_⟩
  · rw [own_rowB] at hi
    exact rows_ne h.own1 h.own2 (by decide) h9 hi
  · rcases h.at1 i h9 with h8 | h8
    · exact .inl h8
    · exact absurd h8.1 (by omega)
  · rcases hat i hi with h9 | h9
    · exact (h.at1 i h9).imp id fun h => ⟨h.1, Nat.lt_of_lt_of_le h.2 k.size⟩
    · exact .inr ⟨Nat.le_trans h.kept.size h9.1, h9.2⟩
  · exact (h.at2 i hi).imp id fun h => ⟨h.1, Nat.lt_of_lt_of_le h.2 k.size⟩
theorem Gr.app2 (h : Gr w0 w r1 r2 A1 n1 c1 xs1 A2 n2 c2 xs2) (ho : w'.ownsRow 0 63 1 (.slice A n c) n xs) (k : Kept (fun k => (Value.slice A2 n2 c2).ownBlock = some k) w w')
    (hat : ∀ k, (Value.slice A n c).ownBlock = some k → (Value.slice A2 n2 c2).ownBlock = some k ∨ fresh w w' k) : Gr w0 w' r1 r2 A1 n1 c1 xs1 A n c xs := by
  simp only [own_rowB] at k hat
  refine ⟨own_keep h.own1 k (fun i hi h9 => ?_), ho, h.kept.trans k (fun i hi h9 => ?_), fun i hi => ?_, fun i hi => ?_⟩
  · rw [own_rowB] at hi
    exact rows_ne h.own1 h.own2 (by decide) hi h9
  · rcases h.at2 i h9 with h8 | h8
    · exact .inr h8
    · exact absurd h8.1 (by omega)
  · exact (h.at1 i hi).imp id fun h => ⟨h.1, Nat.lt_of_lt_of_le h.2 k.size⟩
  · rcases hat i hi with h9 | h9
    · exact (h.at2 i h9).imp id fun h => ⟨h.1, Nat.lt_of_lt_of_le h.2 k.size⟩
    · exact .inr ⟨Nat.le_trans h.kept.size h9.1, h9.2⟩
end

section
variable {w w' : World} {G K : Nat → Prop} {m : Nat} {S : St} {g : Nat → Nat} {stop : Int} {mn mk : Nat} {A A' : Option Addr} {c c' : Nat} {xs ys : List Value}
/-- The names turned, in their map. -/
theorem MdR.names (h : MdR w G m S g K stop mn mk A c A' c' xs ys) (k : Kept (fun i => i = mn) w w') {N : Dir} (hN : Nm w' (some mn) (N.re g)) (hK : ∀ p ∈ N, K p.2) (ok : Ok { S with cur := N }) : MdR w' G m { S with cur := N } g K stop mn mk A c A' c' xs ys where
  blk := k.blk h.blk (fun e => h.now.ne h.blk e.symm)
  now := hN
  kept := h.kept.keep k fun b hb e => by injection hb with hb; exact h.ne (by rw [hb, e])
  ne := h.ne
  wait := own_keep h.wait k fun i hi e => by subst e; rw [own_rowB] at hi; exact row_map_ne h.wait h.now hi
  files := own_keep h.files k fun i hi e => by subst e; rw [own_rowB] at hi; exact row_map_ne h.files h.now hi
  rows := fun i x hx => by
    obtain ⟨v, u, h1, h2, h3⟩ := h.rows i x hx
    exact ⟨v, u, h1, h2, h3.keepN k (fun i hi => by subst hi; exact h.now.not_cells)⟩
  fil := fun f l hK hf => k.blk (h.fil f l hK hf) (fun e => h.now.ne (h.fil f l hK hf) e.symm)
  inj := h.inj
  kfl := h.kfl
  kcur := hK
  ksafe := h.ksafe
  kpend := h.kpend
  gm := h.gm
  gn := h.gn
  gk := h.gk
  gA := h.gA
  gA' := h.gA'
  gfil := h.gfil
  lt := fun i hi => Nat.lt_of_lt_of_le (h.lt i hi) k.size
  stp := h.stp
  lo := h.lo
  hi := h.hi
  arm := h.arm
  ok := ok
/-- One change more is pending. -/
theorem MdR.more {wz : World} {n : Nat} {A1 A2 : Option Addr} {c1 c2 : Nat} {x : Chg} {v u : Value} (h : MdR w G m S g K stop mn mk A c A' c' xs ys) (hg : Gr w wz (rowB (A, c)) (rowB (A', c')) A1 (n + 1) c1 (xs ++ [v]) A2 (n + 1) c2 (ys ++ [u]))
    (hn : n = S.pend.length) (ht : Two w G g x v u) (hK : ∀ f, x.file = some f → K f) (ok : Ok { S with pend := S.pend ++ [x] }) :
    Md ((wz.setCell ⟨m, 2, none⟩ (.slice A1 (n + 1) c1)).setCell ⟨m, 3, none⟩ (.slice A2 (n + 1) c2)) (fun i => G i ∨ fresh w ((wz.setCell ⟨m, 2, none⟩ (.slice A1 (n + 1) c1)).setCell ⟨m, 3, none⟩ (.slice A2 (n + 1) c2)) i) m { S with pend := S.pend ++ [x] } g K ∧
      Kept G w ((wz.setCell ⟨m, 2, none⟩ (.slice A1 (n + 1) c1)).setCell ⟨m, 3, none⟩ (.slice A2 (n + 1) c2)) := by
  subst hn
  have hblk := h.blk
  have mz : ∀ k, (rowB (A, c) = some k ∨ rowB (A', c') = some k) → ∀ {cs t fr}, w.heap[k]? = some (.cells cs t fr) → t = 42 ∨ t = 63 := by
    rintro k (hk | hk) cs t fr hb
    · by_cases e : 42 = t
      · exact .inl e.symm
      · exact absurd hk (row_ne h.wait hb e)
    · by_cases e : 63 = t
      · exact .inr e.symm
      · exact absurd hk (row_ne h.files hb e)
  have hG : ∀ k, (rowB (A, c) = some k ∨ rowB (A', c') = some k) → G k := fun k hk => hk.elim (h.gA k) (h.gA' k)
  have bz := hg.kept.blk hblk (fun hk => by rcases mz m hk hblk with e | e <;> exact absurd e (by decide))
  have b4 := heap_setCell_same _ m 3 _ 31 (.slice A2 (S.pend.length + 1) c2) (heap_setCell_same wz m 2 _ 31 (.slice A1 (S.pend.length + 1) c1) bz)
  have k4 : Kept (fun i => i = m) wz ((wz.setCell ⟨m, 2, none⟩ (.slice A1 (S.pend.length + 1) c1)).setCell ⟨m, 3, none⟩ (.slice A2 (S.pend.length + 1) c2)) :=
    (Kept.setCell (S := fun i => i = m) wz (by rfl) _).step (Kept.setCell _ (by rfl) _)
  have hsz : ((wz.setCell ⟨m, 2, none⟩ (.slice A1 (S.pend.length + 1) c1)).setCell ⟨m, 3, none⟩ (.slice A2 (S.pend.length + 1) c2)).heap.size = wz.heap.size := by simp [World.setCell]
  generalize (wz.setCell ⟨m, 2, none⟩ (.slice A1 (S.pend.length + 1) c1)).setCell ⟨m, 3, none⟩ (.slice A2 (S.pend.length + 1) c2) = W at b4 k4 hsz ⊢
  have kW : Kept (fun i => i = m ∨ rowB (A, c) = some i ∨ rowB (A', c') = some i) w W := (hg.kept.mono (fun _ _ h => .inr h)).trans k4 (fun _ _ h => .inl h)
  have hfr : ∀ k, fresh w wz k → fresh w W k := fun k h => ⟨h.1, by rw [hsz]; exact h.2⟩
  have mapN : ∀ {b : Nat} {N : Dir}, Nm w (some b) N → Nm W (some b) N := fun {b N} hN => hN.keep kW fun b' hb => by
    injection hb with hb
    subst hb
    rintro (e | e | e)
    · exact hN.ne hblk e
    · exact row_map_ne h.wait hN e
    · exact row_map_ne h.files hN e
  have twoK : ∀ {x : Chg} {v u : Value}, Two w G g x v u → Two W (fun i => G i ∨ fresh w W i) g x v u := fun ht => (ht.keepN kW (fun i hi cs fr => by
    constructor
    · intro hb
      rcases hi with rfl | hi
      · rw [hblk] at hb; injection hb with hb; injection hb with _ hb; exact absurd hb (by decide)
      · rcases mz i hi hb with e | e <;> exact absurd e (by decide)
    · intro hb
      rcases hi with rfl | hi
      · rw [hblk] at hb; injection hb with hb; injection hb with _ hb; exact absurd hb (by decide)
      · rcases mz i hi hb with e | e <;> exact absurd e (by decide))).mono (fun _ h => .inl h)
  have hlen : (S.pend ++ [x]).length = S.pend.length + 1 := by simp
  have hxl : xs.length = S.pend.length := by have := h.wait.1; omega
  have hyl : ys.length = S.pend.length := by have := h.files.1; omega
  refine ⟨⟨stop, mn, mk, A1, c1, A2, c2, xs ++ [v], ys ++ [u], ?_⟩, kW.mono (fun i _ hi => ?_)⟩
  · exact {
      blk := by rw [b4]; simp only [mcells, hlen]; rfl
      now := mapN h.now
      kept := mapN h.kept
      ne := h.ne
      wait := by simp only [hlen]; exact own_keep hg.own1 k4 fun i hi e => by subst e; exact own_ne hg.own1 bz (by decide) hi
      files := by simp only [hlen]; exact own_keep hg.own2 k4 fun i hi e => by subst e; exact own_ne hg.own2 bz (by decide) hi
      rows := fun i y hy => by
        rcases Nat.lt_or_ge i S.pend.length with hi | hi
        · rw [List.getElem?_append_left hi] at hy
          obtain ⟨v', u', h1, h2, h3⟩ := h.rows i y hy
          exact ⟨v', u', by rw [List.getElem?_append_left (by omega)]; exact h1, by rw [List.getElem?_append_left (by omega)]; exact h2, twoK h3⟩
        · rw [List.getElem?_append_right hi] at hy
          have hi0 : i - S.pend.length = 0 := by
            rcases Nat.eq_zero_or_pos (i - S.pend.length) with h0 | h0
            · exact h0
            · rw [List.getElem?_eq_none (by simp; omega)] at hy; cases hy
          rw [hi0] at hy
          have : x = y := by simpa using hy
          subst this
          exact ⟨v, u, by rw [List.getElem?_append_right (by omega), hxl, hi0]; rfl, by rw [List.getElem?_append_right (by omega), hyl, hi0]; rfl, twoK ht⟩
      fil := fun f l hK hf => kW.blk (h.fil f l hK hf) (by
        rintro (e | e)
        · exact blk_ne (h.fil f l hK hf) hblk (by decide) e
        · rcases mz _ e (h.fil f l hK hf) with e | e <;> exact absurd e (by decide))
      inj := h.inj
      kfl := h.kfl
      kcur := h.kcur
      ksafe := h.ksafe
      kpend := fun y hy f hf => by
        rcases List.mem_append.1 hy with h9 | h9
        · exact h.kpend y h9 f hf
        · rw [List.mem_singleton.1 h9] at hf
          exact hK f hf
      gm := .inl h.gm
      gn := .inl h.gn
      gk := .inl h.gk
      gA := fun k hk => (hg.at1 k hk).elim (fun h9 => .inl (h.gA k h9)) (fun h9 => .inr (hfr k h9))
      gA' := fun k hk => (hg.at2 k hk).elim (fun h9 => .inl (h.gA' k h9)) (fun h9 => .inr (hfr k h9))
      gfil := fun f hK => .inl (h.gfil f hK)
      lt := fun i hi => hi.elim (fun h9 => Nat.lt_of_lt_of_le (h.lt i h9) kW.size) (fun h9 => h9.2)
      stp := h.stp
      lo := h.lo
      hi := h.hi
      arm := h.arm
      ok := ok }
  · rcases hi with rfl | hi
    · exact h.gm
    · exact hG i hi
end
end Go.Proofs.Ytdcccjkondjhbaa
