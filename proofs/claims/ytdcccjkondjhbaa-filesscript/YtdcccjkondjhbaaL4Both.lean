/-
  A disk and its model, side by side. No statement is proved here.
-/
import Derived.Test.YtdcccjkondjhbaaMdl7
import Derived.Test.YtdcccjkondjhbaaMdl8
import Derived.Sort.Walk0
namespace Go.Proofs.Ytdcccjkondjhbaa
open Go.RowKit Go.Maps

/-! ### six names -/
def six : List (List UInt8) := [[102, 97], [102, 98], [102, 99], [102, 100], [102, 101], [102, 102]]
theorem nm_six (n : UInt8) : nm n ∈ six := by
  have h6 : n.toNat % 6 = 0 ∨ n.toNat % 6 = 1 ∨ n.toNat % 6 = 2 ∨ n.toNat % 6 = 3 ∨ n.toNat % 6 = 4 ∨ n.toNat % 6 = 5 := by omega
  unfold nm six
  rcases h6 with h6 | h6 | h6 | h6 | h6 | h6 <;> rw [h6] <;> decide
theorem six_ne {s : List UInt8} (h : s ∈ six) : s ≠ [] := by
  rintro rfl
  revert h
  decide
structure Six (S : St) : Prop where
  cur : ∀ p ∈ S.cur, p.1 ∈ six
  safe : ∀ p ∈ S.safe, p.1 ∈ six
  pend : ∀ x ∈ S.pend, ∀ f, x.file = some f → x.to_ ∈ six
theorem len_le : ∀ (L : Dir) (l : List (List UInt8)), L.Pairwise (fun p q => p.1 ≠ q.1) → (∀ p ∈ L, p.1 ∈ l) → L.length ≤ l.length
  | [], _, _, _ => Nat.zero_le _
  | p :: r, l, h, hm => by
    obtain ⟨h1, h2⟩ := List.pairwise_cons.1 h
    have hp := hm p (by simp)
    have := len_le r (l.erase p.1) h2 (fun q hq => (List.mem_erase_of_ne (fun e => h1 q hq e.symm)).2 (hm q (by simp [hq])))
    rw [List.length_erase_of_mem hp] at this
    have h0 : 0 < l.length := List.length_pos_of_mem hp
    simp only [List.length_cons]
    omega
theorem six_step {N : Dir} {x : Chg} (hN : ∀ p ∈ N, p.1 ∈ six) (hx : ∀ f, x.file = some f → x.to_ ∈ six) : ∀ p ∈ Dir.step N x, p.1 ∈ six := by
  intro p hp
  unfold Dir.step at hp
  split at hp
  · exact hN p ((Dir.mem_del N x.frm p).1 hp).1
  · rename_i f hf
    rcases (Dir.mem_put _ _ _ _).1 hp with h | h
    · rw [h]; exact hx f hf
    · exact hN p ((Dir.mem_del N x.frm p).1 h.1).1
theorem six_after : ∀ (cs : List Chg) {N : Dir}, (∀ p ∈ N, p.1 ∈ six) → (∀ c ∈ cs, ∀ f, c.file = some f → c.to_ ∈ six) → ∀ p ∈ Dir.after N cs, p.1 ∈ six := by
  intro cs
  unfold Dir.after
  induction cs with
  | nil => intro N h _; exact h
  | cons c r ih =>
    intro N h hc
    exact ih (six_step h (hc c (by simp))) (fun c' h' => hc c' (by simp [h']))
section
variable {S : St}
theorem Six.count (h : Six S) : Six S.count.2 := ⟨by rw [S.count_cur]; exact h.cur, by rw [S.count_safe]; exact h.safe, by rw [S.count_pend]; exact h.pend⟩
theorem Six.setFl (h : Six S) (f : Nat) (l : Fl) : Six (S.setFl f l) := ⟨h.cur, h.safe, h.pend⟩
theorem Six.step (h : Six S) (x : Chg) (hx : ∀ f, x.file = some f → x.to_ ∈ six) : Six (S.step x).2 := by
  rcases S.count_err with he | he
  · rw [step_on S x he]
    have hc := h.count
    refine ⟨six_step hc.cur hx, hc.safe, fun y hy f hf => ?_⟩
    rcases List.mem_append.1 hy with h9 | h9
    · exact hc.pend y h9 f hf
    · rw [List.mem_singleton.1 h9] at hf ⊢
      exact hx f hf
  · rw [step_off S x he]
    exact h.count
theorem Six.on (h : Six S) (s : List UInt8) (k : Nat → Nat × St) (hk : ∀ f, Six (k f).2) : Six (S.on s k).2 := by
  unfold St.on
  split
  · exact h
  · split
    · exact h
    · exact hk _
theorem Six.do_ (h : Six S) (x : ActV) (f : Nat) (b : List UInt8) : Six (S.do_ x f b).2 := by
  have hcr : Six (S.create (nm x.name) f).2 := by
    unfold St.create
    split
    · exact h
    · split
      · exact h
      · split
        · exact h
        · exact (h.setFl f _).step _ (fun _ _ => nm_six x.name)
  have hap : Six (S.append (nm x.name) b).2 := h.on _ _ fun g => by
    unfold St.appendAt
    split
    · exact h
    · exact Six.count (S := S.app g b) ⟨h.cur, h.safe, h.pend⟩
  have hsy : Six (S.sync (nm x.name)).2 := h.on _ _ fun g => by
    unfold St.syncAt
    split
    · exact h.count.setFl _ _
    · exact h.count
  have hrm : Six (S.remove (nm x.name)).2 := h.on _ _ fun g => h.step _ (fun _ hf => by cases hf)
  unfold St.do_
  split
  · exact hcr
  · exact hcr
  · exact h.on _ _ fun g => by
      unfold St.cutAt
      split
      · exact h
      · split
        · exact h.count.setFl _ _
        · exact h.count
  · exact hsy
  · unfold St.syncDir
    split
    · exact h
    · split
      · exact ⟨h.count.cur, h.cur, fun y hy => by simp at hy⟩
      · exact h.count
  · exact h.on _ _ fun g => by
      split
      · exact h
      · exact h.step _ (fun _ _ => nm_six x.to_)
  · exact hsy
  · exact hrm
  · exact hrm
  · exact hap
theorem Six.restart (h : Six S) (n b : Int) : Six (S.restart n b) := by
  have hN : ∀ p ∈ S.names n.toNat, p.1 ∈ six := six_after _ h.safe (fun c hc f hf => h.pend c (List.mem_of_mem_take hc) f hf)
  exact ⟨hN, hN, fun y hy => by simp [St.restart] at hy⟩
theorem Six.arm (h : Six S) (n : Int) : Six (S.arm n) := ⟨h.cur, h.safe, h.pend⟩
end

/-! ### both -/
/-- Since w0 a disk came, at block d, and a model, at block m: both as S says; what there was at w0 is as it was. -/
def Both (w0 w : World) (d m : Nat) (S : St) : Prop :=
  ∃ F G g K, Dk w F d S ∧ Md w G m S g K ∧ (∀ i, F i → ¬ G i) ∧ (∀ i, F i → w0.heap.size ≤ i) ∧ (∀ i, G i → w0.heap.size ≤ i) ∧ Kept noBlock w0 w
section
variable {w0 w w' : World} {d m : Nat} {S S' : St}
theorem Both.kept (h : Both w0 w d m S) : Kept noBlock w0 w := by
  obtain ⟨F, G, g, K, hd, hm, hFG, hF, hG, k⟩ := h
  exact k
theorem Both.ok (h : Both w0 w d m S) : Ok S := by
  obtain ⟨F, G, g, K, hd, hm, hFG, hF, hG, k⟩ := h
  exact hd.ok
theorem Both.then_ (h : Both w0 w d m S) (k' : Kept noBlock w w') : Both w0 w' d m S := by
  obtain ⟨F, G, g, K, hd, hm, hFG, hF, hG, k⟩ := h
  exact ⟨F, G, g, K, hd.keep k' (fun _ _ h => h), hm.keep k' (fun _ _ h => h), hFG, hF, hG, k.step k'⟩
theorem Both.next {w1 w2 : World} {F G : Nat → Prop} {g' : Nat → Nat} {K' : Nat → Prop} (hlG : ∀ i, G i → i < w.heap.size) (hFG : ∀ i, F i → ¬ G i) (hF : ∀ i, F i → w0.heap.size ≤ i) (hG : ∀ i, G i → w0.heap.size ≤ i) (k : Kept noBlock w0 w)
    (D : Did F w w1 d S') (hM : Md w2 (fun i => G i ∨ fresh w1 w2 i) m S' g' K') (k2 : Kept G w1 w2) : Both w0 w2 d m S' := by
  have hsz := k.size
  have hs1 := D.kept.size
  refine ⟨fun i => F i ∨ fresh w w1 i, fun i => G i ∨ fresh w1 w2 i, g', K', D.dk.keep k2 (fun i hi hg => ?_), hM, fun i hi hg => ?_, fun i hi => ?_, fun i hi => ?_, ?_⟩
  · rcases hi with hi | hi
    · exact hFG i hi hg
    · have := hlG i hg; have := hi.1; omega
  · rcases hi with hi | hi
    · rcases hg with hg | hg
      · exact hFG i hi hg
      · have := D.dk.lt i (.inl hi); have := hg.1; omega
    · rcases hg with hg | hg
      · have := hlG i hg; have := hi.1; omega
      · have := hi.2; have := hg.1; omega
  · rcases hi with hi | hi
    · exact hF i hi
    · exact Nat.le_trans hsz hi.1
  · rcases hi with hi | hi
    · exact hG i hi
    · exact Nat.le_trans (Nat.le_trans hsz hs1) hi.1
  · refine (k.trans D.kept (fun i hi h9 => ?_)).trans k2 (fun i hi h9 => ?_)
    · have := hF i h9; omega
    · have := hG i h9; omega
theorem Both.down (h : Both w0 w d m S) : Calls Try.prog 11 #[.pointer (some ⟨d, 0, none⟩)] w fun e w' => e = .returned (.bool S.down) ∧ w = w' := by
  obtain ⟨F, G, g, K, hd, hm, hFG, hF, hG, k⟩ := h
  exact down_any F d S w hd
theorem Both.calls (h : Both w0 w d m S) : Calls Try.prog 12 #[.pointer (some ⟨d, 0, none⟩)] w fun e w' => e = .returned (.int .i64 (S.calls : Int)) ∧ w = w' := by
  obtain ⟨F, G, g, K, hd, hm, hFG, hF, hG, k⟩ := h
  exact calls_any F d S w hd
theorem Both.used (h : Both w0 w d m S) : Calls Try.prog 13 #[.pointer (some ⟨d, 0, none⟩)] w fun e w' => e = .returned (.int .i64 (S.used : Int)) ∧ Kept noBlock w w' := by
  obtain ⟨F, G, g, K, ⟨mc, ms, A, c, R, hd⟩, hm, hFG, hF, hG, k⟩ := h
  exact used_any F d S mc ms A c R w hd
theorem Both.mused (h : Both w0 w d m S) : Calls Try.prog 14 #[.pointer (some ⟨m, 0, none⟩)] w fun e w' => e = .returned (.int .i64 (S.used : Int)) ∧ Kept noBlock w w' := by
  obtain ⟨F, G, g, K, hd, hm, hFG, hF, hG, k⟩ := h
  exact mused_any G K m S g w hm
theorem Both.nodup (h : Both w0 w d m S) : S.cur.Pairwise fun p q => p.1 ≠ q.1 := by
  obtain ⟨F, G, g, K, hd, ⟨stop, mn, mk, A, c, A', c', xs, ys, hm⟩, hFG, hF, hG, k⟩ := h
  have h9 := hm.now.nodup
  unfold Dir.re at h9
  rw [List.pairwise_map] at h9
  exact h9
/-- The names that a disk tells: those that are, one behind the other. -/
structure Told (S : St) (ns : List (List UInt8)) : Prop where
  len : ns.length = S.cur.length
  mem : ∀ s ∈ ns, ∃ f, Dir.look S.cur s = some f
  up : ∀ (i : Nat) (s t : List UInt8), ns[i]? = some s → ns[i + 1]? = some t → ¬ t < s ∧ t ≠ s
theorem Both.names (h : Both w0 w d m S) : Calls Try.prog 15 #[.pointer (some ⟨d, 0, none⟩)] w fun e w' => ∃ (A : Option Addr) (c : Nat) (ns : List (List UInt8)), e = .returned (.slice A ns.length c) ∧ Told S ns ∧ ns.length ≤ c ∧
    Lies w' (fun i => w.heap.size ≤ i) A (ns.map sv) ∧ Kept noBlock w w' := by
  have hnd := h.nodup
  obtain ⟨F, G, g, K, hd, hm, hFG, hF, hG, k⟩ := h
  refine (names_any F d S w hd).mono ?_
  rintro e w' ⟨A, c, ns, rfl, hp, hle, hown, k'⟩
  refine ⟨A, c, ns, rfl, ⟨by rw [hp.length_eq, List.length_map], fun s hs => ?_, fun i s t hs ht => ?_⟩, ?_, Lies.of_own hown (fun k hk => (hown.lt k hk).1), k'⟩
  · obtain ⟨p, hp1, rfl⟩ := List.mem_map.1 (hp.mem_iff.1 hs)
    exact Option.isSome_iff_exists.1 (Dir.look_some_of_mem hp1)
  · obtain ⟨hi, e1⟩ := List.getElem?_eq_some_iff.1 hs
    obtain ⟨hj, e2⟩ := List.getElem?_eq_some_iff.1 ht
    have h1 := List.pairwise_iff_getElem.1 hle i (i + 1) hi hj (by omega)
    have hn : ns.Pairwise fun x y => x ≠ y := (hp.pairwise_iff (fun {a b} (h : a ≠ b) => h.symm)).2 (List.pairwise_map.2 hnd)
    have h2 := List.pairwise_iff_getElem.1 hn i (i + 1) hi hj (by omega)
    rw [e1, e2] at h1 h2
    exact ⟨h1, h2.symm⟩
  · obtain ⟨_, _, e9, hle⟩ := own_form hown
    injection e9 with _ _ e9
    omega
theorem Both.read (h : Both w0 w d m S) (s : List UInt8) (hs : s.length ≤ maxLen) :
    Calls Try.prog 16 #[.pointer (some ⟨d, 0, none⟩), .string (str s)] w fun e w' => ∃ A' c', e = .returned (.tuple #[.slice A' (S.read s).length c', .int .i64 ((S.find s).2 : Int)]) ∧
      Lies w' (fun i => w.heap.size ≤ i) A' ((S.read s).map bv) ∧ Kept noBlock w w' := by
  obtain ⟨F, G, g, K, hd, hm, hFG, hF, hG, k⟩ := h
  exact (read_any F d S s w hd hs).mono fun e w' ⟨A', c', he, ho, k'⟩ => ⟨A', c', he, Lies.of_own ho (fun k hk => (ho.lt k hk).1), k'⟩
/-- The model's cells. -/
theorem Both.model (h : Both w0 w d m S) : ∃ mn g, w.cell? ⟨m, 0, none⟩ = some (.map (some mn)) ∧ w.cell? ⟨m, 6, none⟩ = some (.bool S.down) ∧ w.cell? ⟨m, 7, none⟩ = some (.int .i64 (S.calls : Int)) ∧ Nm w (some mn) (S.cur.re g) ∧
    (∀ s f l, Dir.look S.cur s = some f → S.fl f = some l → w.cell? ⟨g f, 0, none⟩ = some (.string (str l.data))) := by
  obtain ⟨F, G, g, K, hd, ⟨stop, mn, mk, A, c, A', c', xs, ys, hm⟩, hFG, hF, hG, k⟩ := h
  have hb := hm.blk
  unfold mcells at hb
  exact ⟨mn, g, cell_of_row _ _ _ _ _ _ hb, cell_of_row _ _ _ _ _ _ hb, cell_of_row _ _ _ _ _ _ hb, hm.now, fun s f l hl hfl => cell_of_row _ _ _ _ _ _ (hm.fil f l (hm.kcur _ (Dir.mem_of_look hl)) hfl)⟩
end
/-- The model at its beginning. -/
theorem begin_md (w : World) (room : Nat) (hr : room ≤ 4611686018427387904) :
    Md (((w.alloc (.map #[] 0)).alloc (.map #[] 0)).alloc (.cells #[.map (some w.heap.size), .map (some (w.heap.size + 1)), .slice none 0 0, .slice none 0 0, .int .i64 (room : Int), .int .i64 (-1), .bool false, .int .i64 0] 31))
      (fresh w (((w.alloc (.map #[] 0)).alloc (.map #[] 0)).alloc (.cells #[.map (some w.heap.size), .map (some (w.heap.size + 1)), .slice none 0 0, .slice none 0 0, .int .i64 (room : Int), .int .i64 (-1), .bool false, .int .i64 0] 31)))
      (w.heap.size + 1 + 1) (St.of (room : Int)) (fun i => i) (fun _ => False) ∧
    Kept noBlock w (((w.alloc (.map #[] 0)).alloc (.map #[] 0)).alloc (.cells #[.map (some w.heap.size), .map (some (w.heap.size + 1)), .slice none 0 0, .slice none 0 0, .int .i64 (room : Int), .int .i64 (-1), .bool false, .int .i64 0] 31)) := by
  obtain ⟨h1, h2, h3, k, sz⟩ := alloc3 w (.map #[] 0) (.map #[] 0) (.cells #[.map (some w.heap.size), .map (some (w.heap.size + 1)), .slice none 0 0, .slice none 0 0, .int .i64 (room : Int), .int .i64 (-1), .bool false, .int .i64 0] 31)
  have n1 := Nm.made w
  have n2 := Nm.made (w.alloc (.map #[] 0))
  have s1 : (w.alloc (.map #[] 0)).heap.size = w.heap.size + 1 := by simp
  rw [s1] at n2
  have k2 := Kept.alloc noBlock (w.alloc (.map #[] 0)) (.map #[] 0)
  have k3 := Kept.alloc noBlock ((w.alloc (.map #[] 0)).alloc (.map #[] 0)) (.cells #[.map (some w.heap.size), .map (some (w.heap.size + 1)), .slice none 0 0, .slice none 0 0, .int .i64 (room : Int), .int .i64 (-1), .bool false, .int .i64 0] 31)
  have m1 := n1.keep (k2.step k3) (fun _ _ h => h)
  have m2 := n2.keep k3 (fun _ _ h => h)
  clear n1 n2 k2 k3 s1
  generalize ((w.alloc (.map #[] 0)).alloc (.map #[] 0)).alloc (.cells #[.map (some w.heap.size), .map (some (w.heap.size + 1)), .slice none 0 0, .slice none 0 0, .int .i64 (room : Int), .int .i64 (-1), .bool false, .int .i64 0] 31) = W at h1 h2 h3 k sz m1 m2 ⊢
  refine ⟨⟨-1, w.heap.size, w.heap.size + 1, none, 0, none, 0, [], [], ?_⟩, k⟩
  exact {
    blk := by rw [h3]; simp [mcells, St.of]
    now := m1
    kept := m2
    ne := by omega
    wait := World.ownsRow_nil _ _ _ _
    files := World.ownsRow_nil _ _ _ _
    rows := fun i x hx => by simp [St.of] at hx
    fil := fun f l hK => hK.elim
    inj := fun f f' hK => hK.elim
    kfl := fun f hK => hK.elim
    kcur := fun p hp => by cases hp
    ksafe := fun p hp => by cases hp
    kpend := fun x hx => by cases hx
    gm := ⟨by omega, by omega⟩
    gn := ⟨by omega, by omega⟩
    gk := ⟨by omega, by omega⟩
    gA := fun i hi => by cases hi
    gA' := fun i hi => by cases hi
    gfil := fun f hK => hK.elim
    lt := fun i hi => hi.2
    stp := fun _ => rfl
    lo := by omega
    hi := by omega
    arm := fun h9 => by cases h9
    ok := ⟨Nat.le_refl _, Nat.le_refl _, fun f l h => (by cases h), fun p h => (by cases h), fun p h => (by cases h), fun p h => (by cases h), fun p h => (by cases h), (by simp only [St.of]; omega), Nat.zero_le _, Nat.zero_le _, (by simp [St.of]), (by simp [St.of])⟩ }
end Go.Proofs.Ytdcccjkondjhbaa
