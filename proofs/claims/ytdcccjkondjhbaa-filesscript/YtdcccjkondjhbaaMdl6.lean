/-
  The model's methods, fifth part: what a deed leaves. No statement is proved here.
-/
import Derived.Test.YtdcccjkondjhbaaMdl5
namespace Go.Proofs.Ytdcccjkondjhbaa
open Go.RowKit Go.Maps

theorem str_extract (l : List UInt8) (k : Nat) : (str l).extract 0 k = str (l.take k) := by
  unfold str
  apply ByteArray.ext
  rw [ByteArray.data_extract]
  simp
theorem count_setFl (S : St) (f : Nat) (l : Fl) : (S.setFl f l).count = (S.count.1, S.count.2.setFl f l) := by
  unfold St.count St.setFl
  simp only
  split
  · rfl
  · split <;> rfl
theorem count_app (S : St) (f : Nat) (b : List UInt8) : (S.app f b).count = (S.count.1, S.count.2.app f b) := by
  have e : S.count.2.file f = S.file f := by unfold St.file; rw [S.count_fl]
  unfold St.app
  rw [e, S.count_vol]
  unfold St.count St.setFl
  simp only
  split
  · rfl
  · split <;> rfl

/-- A deed by its kind. -/
def St.byOp (S : St) (r : Nat) (na to_ : UInt8) (num : Int) (f : Nat) (b : List UInt8) : Nat × St :=
  match r with
  | 0 => S.create (nm na) f
  | 1 => S.create (nm na) f
  | 3 => S.cut (nm na) num
  | 4 => S.sync (nm na)
  | 5 => S.syncDir
  | 6 => S.rename (nm na) (nm to_)
  | 9 => S.sync (nm na)
  | 10 => S.remove (nm na)
  | 11 => S.remove (nm na)
  | _ => S.append (nm na) b
theorem do_byOp (S : St) (x : ActV) (f : Nat) (b : List UInt8) : S.do_ x f b = S.byOp (x.op.toNat % 12) x.name x.to_ x.num f b := rfl

theorem on_none {S : St} {s : List UInt8} (hd : S.down = false) (hl : Dir.look S.cur s = none) (k : Nat → Nat × St) : S.on s k = (6, S) := by
  unfold St.on
  rw [if_neg (by rw [hd]; simp), hl]
theorem on_some {S : St} {s : List UInt8} {f : Nat} (hd : S.down = false) (hl : Dir.look S.cur s = some f) (k : Nat → Nat × St) : S.on s k = k f := by
  unfold St.on
  rw [if_neg (by rw [hd]; simp), hl]
theorem byOp_none {S : St} {r : Nat} {na to_ : UInt8} {num : Int} {f : Nat} {b : List UInt8} (hd : S.down = false) (hl : Dir.look S.cur (nm na) = none) (h0 : r ≠ 0) (h1 : r ≠ 1) (h5 : r ≠ 5) : S.byOp r na to_ num f b = (6, S) := by
  unfold St.byOp
  split
  · exact absurd rfl h0
  · exact absurd rfl h1
  · exact on_none hd hl _
  · exact on_none hd hl _
  · exact absurd rfl h5
  · exact on_none hd hl _
  · exact on_none hd hl _
  · exact on_none hd hl _
  · exact on_none hd hl _
  · exact on_none hd hl _
/-- A step of the names that was counted. -/
def St.chg (S : St) (x : Chg) : St := { S with cur := Dir.step S.cur x, pend := S.pend ++ [x] }
theorem step_on (S : St) (x : Chg) (he : S.count.1 = 0) : S.step x = (0, S.count.2.chg x) := by
  unfold St.step St.chg
  rw [if_pos he]
  simp only [S.count_cur, S.count_pend]
theorem step_off (S : St) (x : Chg) (he : S.count.1 = 7) : S.step x = (7, S.count.2) := by
  unfold St.step
  rw [if_neg (by rw [he]; simp), ← he]
theorem create_some {S : St} {s : List UInt8} {f f0 : Nat} (hd : S.down = false) (hl : Dir.look S.cur s = some f0) : S.create s f = (5, S) := by
  unfold St.create
  rw [if_neg (by rw [hd]; simp), if_pos (by rw [hl]; rfl)]
theorem create_none {S : St} {s : List UInt8} {f : Nat} (hd : S.down = false) (hl : Dir.look S.cur s = none) (h64 : S.cur.length < 64) : S.create s f = (S.setFl f ⟨[], 0⟩).step ⟨s, s, some f⟩ := by
  unfold St.create
  rw [if_neg (by rw [hd]; simp), if_neg (by rw [hl]; simp), if_neg (by omega)]
theorem create_on {S : St} {s : List UInt8} {f : Nat} (hd : S.down = false) (hl : Dir.look S.cur s = none) (h64 : S.cur.length < 64) (he : S.count.1 = 0) : S.create s f = (0, (S.count.2.setFl f ⟨[], 0⟩).chg ⟨s, s, some f⟩) := by
  rw [create_none hd hl h64, step_on _ _ (by rw [count_setFl]; exact he), count_setFl]
theorem create_off {S : St} {s : List UInt8} {f : Nat} (hd : S.down = false) (hl : Dir.look S.cur s = none) (h64 : S.cur.length < 64) (he : S.count.1 = 7) : S.create s f = (7, S.count.2.setFl f ⟨[], 0⟩) := by
  rw [create_none hd hl h64, step_off _ _ (by rw [count_setFl]; exact he), count_setFl]
theorem Ok.newfl {S : St} (o : Ok S) (f : Nat) : Ok (S.setFl f ⟨[], 0⟩) := by
  have := o.setFl (f := f) (l := ⟨[], 0⟩) (v := S.vol) (Nat.le_refl _) o.vol_le (Nat.zero_le _) (Nat.le_refl _)
  exact this
/-- A change more, where calls leave room for it. -/
theorem Ok.chg {S : St} (o : Ok S) (x : Chg) (h1 : S.cur.length + 1 ≤ S.calls) (h2 : S.safe.length + S.pend.length + 1 ≤ S.calls) (hn1 : x.frm.length ≤ maxLen) (hn2 : x.to_.length ≤ maxLen) (hfl : ∀ f, x.file = some f → (S.fl f).isSome = true) :
    Ok { S with cur := Dir.step S.cur x } ∧ Ok (S.chg x) := by
  have hl := Dir.step_len S.cur x
  have hs := Dir.step_fl (I := fun f => (S.fl f).isSome = true) o.cur_fl hfl
  refine ⟨⟨by simp only; omega, o.safe_len, o.fl_len, hs, o.safe_fl, o.pend_fl, o.pend_name, o.room_le, o.calls_le, o.vol_le, o.left_lo, o.left_hi⟩, ⟨by simp only [St.chg]; omega, by simp only [St.chg, List.length_append, List.length_singleton]; omega, o.fl_len, hs, o.safe_fl, fun y hy f hf => ?_, fun y hy => ?_, o.room_le, o.calls_le, o.vol_le, o.left_lo, o.left_hi⟩⟩
  · rcases List.mem_append.1 hy with h | h
    · exact o.pend_fl y h f hf
    · rw [List.mem_singleton.1 h] at hf
      exact hfl f hf
  · rcases List.mem_append.1 hy with h | h
    · exact o.pend_name y h
    · rw [List.mem_singleton.1 h]
      exact ⟨hn1, hn2⟩
/-- .. behind a call that was counted. -/
theorem Ok.chgCount {S : St} (o : Ok S) (hc : S.calls < 1000000) (x : Chg) (hn1 : x.frm.length ≤ maxLen) (hn2 : x.to_.length ≤ maxLen) (hfl : ∀ f, x.file = some f → (S.fl f).isSome = true) :
    Ok { S.count.2 with cur := Dir.step S.count.2.cur x } ∧ Ok (S.count.2.chg x) :=
  (St.count_ok o hc).chg x (by rw [S.count_cur, S.count_calls]; have := o.cur_len; omega) (by rw [S.count_safe, S.count_pend, S.count_calls]; have := o.safe_len; omega) hn1 hn2 (by rw [S.count_fl]; exact hfl)

section
variable {w w' : World} {G K : Nat → Prop} {m : Nat} {S : St} {g : Nat → Nat} {stop : Int} {mn mk : Nat} {A A' : Option Addr} {c c' : Nat} {xs ys : List Value}
theorem MdR.notK (h : MdR w G m S g K stop mn mk A c A' c' xs ys) {f : Nat} (hf : S.fl f = none) : ¬ K f := fun hK => by have := h.kfl f hK; rw [hf] at this; cases this
/-- A file that the model does not know. -/
theorem MdR.newfl (h : MdR w G m S g K stop mn mk A c A' c' xs ys) {f : Nat} (hf : S.fl f = none) {l : Fl} (ok : Ok (S.setFl f l)) : MdR w G m (S.setFl f l) g K stop mn mk A c A' c' xs ys where
  blk := h.blk
  now := h.now
  kept := h.kept
  ne := h.ne
  wait := h.wait
  files := h.files
  rows := h.rows
  fil := fun i l' hK hl => by
    have hne : i ≠ f := fun e => h.notK hf (e ▸ hK)
    simp [St.setFl, hne] at hl
    exact h.fil i l' hK hl
  inj := h.inj
  kfl := fun i hK => by
    have hne : i ≠ f := fun e => h.notK hf (e ▸ hK)
    simpa [St.setFl, hne] using h.kfl i hK
  kcur := h.kcur
  ksafe := h.ksafe
  kpend := h.kpend
  gm := h.gm
  gn := h.gn
  gk := h.gk
  gA := h.gA
  gA' := h.gA'
  gfil := h.gfil
  lt := h.lt
  stp := h.stp
  lo := h.lo
  hi := h.hi
  arm := h.arm
  ok := ok
/-- A new file. -/
theorem MdR.newfile (h : MdR w G m S g K stop mn mk A c A' c' xs ys) {f B : Nat} (hf : S.fl f = none) (hfB : w'.heap[B]? = some (.cells #[.string (str []), .int .i64 0] 48 (0, 0))) (hB : G B) (hold : ∀ i, K i → g i ≠ B) (k : Kept noBlock w w') (ok : Ok (S.setFl f ⟨[], 0⟩)) :
    MdR w' G m (S.setFl f ⟨[], 0⟩) (fun i => if i = f then B else g i) (fun i => i = f ∨ K i) stop mn mk A c A' c' xs ys := by
  have hno := h.notK hf
  have eg : ∀ i, K i → (if i = f then B else g i) = g i := fun i hi => if_neg (fun e : i = f => hno (e ▸ hi))
  have h' := h.keep k (fun _ _ h => h)
  exact {
    blk := h'.blk
    now := by have := h'.now; rw [Dir.re_congr (g' := fun i => if i = f then B else g i) (fun p hp => (eg _ (h.kcur p hp)).symm)] at this; exact this
    kept := by have := h'.kept; rw [Dir.re_congr (g' := fun i => if i = f then B else g i) (fun p hp => (eg _ (h.ksafe p hp)).symm)] at this; exact this
    ne := h.ne
    wait := h'.wait
    files := h'.files
    rows := fun i x hx => by
      obtain ⟨v, u, h1, h2, b1, b2, e1, q1, l1, e2, q2, l2⟩ := h'.rows i x hx
      refine ⟨v, u, h1, h2, b1, b2, e1, q1, l1, e2, ?_, l2⟩
      rw [q2]
      congr 3
      refine List.map_congr_left fun o ho => ?_
      cases o with
      | none => rfl
      | some j =>
        have hj : x.file = some j := by
          unfold Chg.fs at ho
          cases hx9 : x.file with
          | none => rw [hx9] at ho; simp at ho
          | some q =>
            rw [hx9] at ho
            simp only at ho
            split at ho
            · simp at ho; rw [ho]
            · simp at ho; rw [ho]
        have := eg j (h.kpend x (List.mem_of_getElem? hx) j hj)
        simp only [Option.map_some, this]
    fil := fun i l hK hl => by
      by_cases e : i = f
      · subst e
        simp [St.setFl] at hl
        subst hl
        simpa using hfB
      · simp [St.setFl, e] at hl
        rw [if_neg e]
        exact h'.fil i l (hK.resolve_left e) hl
    inj := fun i j hi hj e => by
      by_cases ei : i = f
      · by_cases ej : j = f
        · rw [ei, ej]
        · simp only [ei, if_true, if_neg ej] at e
          exact absurd e.symm (hold j (hj.resolve_left ej))
      · by_cases ej : j = f
        · simp only [ej, if_true, if_neg ei] at e
          exact absurd e (hold i (hi.resolve_left ei))
        · simp only [if_neg ei, if_neg ej] at e
          exact h.inj i j (hi.resolve_left ei) (hj.resolve_left ej) e
    kfl := fun i hi => by
      by_cases e : i = f
      · simp [St.setFl, e]
      · simpa [St.setFl, e] using h.kfl i (hi.resolve_left e)
    kcur := fun p hp => .inr (h.kcur p hp)
    ksafe := fun p hp => .inr (h.ksafe p hp)
    kpend := fun x hx j hj => .inr (h.kpend x hx j hj)
    gm := h.gm
    gn := h.gn
    gk := h.gk
    gA := h.gA
    gA' := h.gA'
    gfil := fun i hi => by
      by_cases e : i = f
      · simp only [e, if_true]; exact hB
      · simp only [if_neg e]; exact h.gfil i (hi.resolve_left e)
    lt := h'.lt
    stp := h.stp
    lo := h.lo
    hi := h.hi
    arm := h.arm
    ok := ok }
/-- A file's cells turned. -/
theorem MdR.file (h : MdR w G m S g K stop mn mk A c A' c' xs ys) {f : Nat} (hK : K f) {l l' : Fl} (hl : S.fl f = some l) (k : Kept (fun i => i = g f) w w') (hb : w'.heap[g f]? = some (.cells #[.string (str l'.data), .int .i64 l'.safe] 48 (0, 0))) {v : Nat} (ok : Ok { S.setFl f l' with vol := v }) :
    MdR w' G m { S.setFl f l' with vol := v } g K stop mn mk A c A' c' xs ys where
  blk := k.blk h.blk (fun e => blk_ne h.blk (h.fil f l hK hl) (by decide) e)
  now := h.now.keep k fun b hb e => by injection hb with hb; subst hb; exact h.now.ne (h.fil f l hK hl) e
  kept := h.kept.keep k fun b hb e => by injection hb with hb; subst hb; exact h.kept.ne (h.fil f l hK hl) e
  ne := h.ne
  wait := own_keep h.wait k fun i hi e => by subst e; exact own_ne h.wait (h.fil f l hK hl) (by decide) hi
  files := own_keep h.files k fun i hi e => by subst e; exact own_ne h.files (h.fil f l hK hl) (by decide) hi
  rows := fun i x hx => by
    obtain ⟨v, u, h1, h2, h3⟩ := h.rows i x hx
    exact ⟨v, u, h1, h2, h3.keepN k (fun i hi => by subst hi; exact not_cells (h.fil f l hK hl) (by decide) (by decide))⟩
  fil := fun i l2 hi hl2 => by
    by_cases e : i = f
    · subst e
      simp [St.setFl] at hl2
      subst hl2
      exact hb
    · simp [St.setFl, e] at hl2
      exact k.blk (h.fil i l2 hi hl2) (fun e2 => e (h.inj i f hi hK e2))
  inj := h.inj
  kfl := fun i hi => by
    by_cases e : i = f
    · simp [St.setFl, e]
    · simpa [St.setFl, e] using h.kfl i hi
  kcur := h.kcur
  ksafe := h.ksafe
  kpend := h.kpend
  gm := h.gm
  gn := h.gn
  gk := h.gk
  gA := h.gA
  gA' := h.gA'
  gfil := h.gfil
  lt := fun i hi => Nat.lt_of_lt_of_le (h.lt i hi) k.size
  stp := h.stp
  lo := h.lo
  hi := h.hi
  arm := h.arm
  ok := ok
/-- All names are safe: a new map; nothing is pending. -/
theorem MdR.synced {w1 : World} {b : Nat} (h : MdR w G m S g K stop mn mk A c A' c' xs ys) (k : Kept noBlock w w1) (hN : Nm w1 (some b) (S.cur.re g)) (hb : w.heap.size ≤ b) (ok : Ok { S with safe := S.cur, pend := [] }) :
    Md (((w1.setCell ⟨m, 1, none⟩ (.map (some b))).setCell ⟨m, 2, none⟩ (.slice none 0 0)).setCell ⟨m, 3, none⟩ (.slice none 0 0)) (fun i => G i ∨ fresh w (((w1.setCell ⟨m, 1, none⟩ (.map (some b))).setCell ⟨m, 2, none⟩ (.slice none 0 0)).setCell ⟨m, 3, none⟩ (.slice none 0 0)) i) m { S with safe := S.cur, pend := [] } g K ∧
    Kept G w (((w1.setCell ⟨m, 1, none⟩ (.map (some b))).setCell ⟨m, 2, none⟩ (.slice none 0 0)).setCell ⟨m, 3, none⟩ (.slice none 0 0)) := by
  have h1 := h.keep k (fun _ _ h => h)
  have b4 := heap_setCell_same _ m 3 _ 31 (.slice none 0 0) (heap_setCell_same _ m 2 _ 31 (.slice none 0 0) (heap_setCell_same w1 m 1 _ 31 (.map (some b)) h1.blk))
  have k4 : Kept (fun i => i = m) w1 (((w1.setCell ⟨m, 1, none⟩ (.map (some b))).setCell ⟨m, 2, none⟩ (.slice none 0 0)).setCell ⟨m, 3, none⟩ (.slice none 0 0)) :=
    ((Kept.setCell (S := fun i => i = m) w1 (by rfl) _).step (Kept.setCell _ (by rfl) _)).step (Kept.setCell _ (by rfl) _)
  have hsz : (((w1.setCell ⟨m, 1, none⟩ (.map (some b))).setCell ⟨m, 2, none⟩ (.slice none 0 0)).setCell ⟨m, 3, none⟩ (.slice none 0 0)).heap.size = w1.heap.size := by simp [World.setCell]
  generalize ((w1.setCell ⟨m, 1, none⟩ (.map (some b))).setCell ⟨m, 2, none⟩ (.slice none 0 0)).setCell ⟨m, 3, none⟩ (.slice none 0 0) = W at b4 k4 hsz ⊢
  have hnl := hN.lt
  refine ⟨⟨stop, mn, b, none, 0, none, 0, [], [], ?_⟩, (k.mono (fun _ _ h => h.elim)).trans k4 (fun i _ e => e ▸ h.gm)⟩
  exact {
    blk := by rw [b4]; rfl
    now := h1.now.keep k4 fun x hx e => by injection hx with hx; subst hx; exact h1.now.ne h1.blk e
    kept := hN.keep k4 fun x hx e => by injection hx with hx; subst hx; exact hN.ne h1.blk e
    ne := fun e => by have := h.now.lt; omega
    wait := World.ownsRow_nil _ _ _ _
    files := World.ownsRow_nil _ _ _ _
    rows := fun i x hx => by simp at hx
    fil := fun f l hK hl => k4.blk (h1.fil f l hK hl) (blk_ne (h1.fil f l hK hl) h1.blk (by decide))
    inj := h.inj
    kfl := h.kfl
    kcur := h.kcur
    ksafe := h.kcur
    kpend := fun x hx => by simp at hx
    gm := .inl h.gm
    gn := .inl h.gn
    gk := .inr ⟨hb, by rw [hsz]; exact hnl⟩
    gA := fun i hi => by cases hi
    gA' := fun i hi => by cases hi
    gfil := fun f hK => .inl (h.gfil f hK)
    lt := fun i hi => by
      rw [hsz]
      rcases hi with h9 | h9
      · exact h1.lt i h9
      · have := h9.2; rw [hsz] at this; exact this
    stp := h.stp
    lo := h.lo
    hi := h.hi
    arm := h.arm
    ok := ok }
end
end Go.Proofs.Ytdcccjkondjhbaa
