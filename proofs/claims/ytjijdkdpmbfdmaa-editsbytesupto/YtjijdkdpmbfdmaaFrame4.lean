/-
  The contracts of package frame, fourth part: Rows. No statement is proved here.
-/
import Derived.Test.YtjijdkdpmbfdmaaFrmK
import Derived.Test.YtjijdkdpmbfdmaaRunK
import Derived.Shelf.Abstract
namespace Go.Proofs.Ytjijdkdpmbfdmaa
open Go.RowKit Go.Shelf
attribute [local go_sem] Oper.semAt_some

theorem Try.infoBytes : (Try.prog.info? 28).map (fun i => (i.zero, i.size, i.bytes)) = some (some (.slice none 0 0), 1, 24) := by kernel_rfl

/-- A row as a value. -/
def Item.val (x : Item) : Value := .slice x.A x.row.length x.c
theorem val_one (xs : List Item) : ∀ u ∈ xs.map Item.val, u.oneCell' = true := by
  intro u hu
  obtain ⟨x, _, rfl⟩ := List.mem_map.1 hu
  rfl

theorem keepsFrom_of {S : Nat → Prop} {m : Nat} {W W' : World} (h : Kept S W W') (hS : ∀ k, S k → ∃ cs t fr, W.heap[k]? = some (.cells cs t fr)) : KeepsFrom m W W' := by
  refine ⟨h.size, fun k o _ hk ho => h.blk hk (fun hs => ?_)⟩
  obtain ⟨cs, t, fr, hc⟩ := hS k hs
  rw [hc] at hk
  injection hk with hk
  subst hk
  cases ho
theorem held_of {S : Nat → Prop} {Bb : Nat} {W W' : World} (h : Kept S W W') (hS : ∀ k, S k → k ≠ Bb ∧ ∃ cs t fr, W.heap[k]? = some (.cells cs t fr) ∧ t ≠ 5 ∧ t ≠ 104) : Held Bb W W' := by
  refine ⟨h.size, fun k cs t fr hk hor => h.blk hk (fun hs => ?_)⟩
  obtain ⟨hb, cs', t', fr', hc, h1, h2⟩ := hS k hs
  rw [hc] at hk
  injection hk with hk
  injection hk with _ ht
  subst ht
  rcases hor with e | e | e
  · exact hb e
  · exact h1 e
  · exact h2 e
theorem own_cells {w : World} {base : Nat} {e : TypeId} {size n : Nat} {v : Value} {xs : List Value} (h : w.ownsRow base e size v n xs) : ∀ k, v.ownBlock = some k → ∃ cs fr, w.heap[k]? = some (.cells cs e fr) := by
  rcases h.2 with ⟨rfl, _⟩ | ⟨g', cap, cur, rfl, _, hh, _⟩
  · intro k hk; simp [Value.ownBlock] at hk
  · intro k hk
    simp [Value.ownBlock] at hk
    subst hk
    exact ⟨_, _, hh⟩

/-- What Rows has gathered: its row in blocks from m on. -/
structure Gathered (w : World) (m B5 B6 : Nat) (pre : List Item) (W : World) : Prop where
  row : ∃ R rc, W.heap[B5]? = some (.cells #[.slice R pre.length rc] 61 (0, 0)) ∧ W.ownsRow m 28 1 (.slice R pre.length rc) pre.length (pre.map Item.val)
  end_ : W.heap[B6]? = some (.cells #[.int .i64 ((joined (rowsOf pre)).length : Nat)] 3 (0, 0))
  there : ∀ x ∈ pre, x.there W
  kept : Kept noBlock w W
  size : m ≤ W.heap.size
theorem Gathered.steady {w : World} {B5 B6 m : Nat} {pre : List Item} {A B : World} (hm : w.heap.size ≤ m) (h : Gathered w m B5 B6 pre A) (s : Steady m A B) : Gathered w m B5 B6 pre B := by
  obtain ⟨⟨R, rc, h1, h2⟩, h3, h4, h5, h6⟩ := h
  exact ⟨⟨R, rc, blk_steady h1 s, own_steady h2 s⟩, blk_steady h3 s, fun x hx => own_steady (h4 x hx) s, h5.trans s (fun i hi h => absurd h.1 (by omega)), Nat.le_trans h6 s.size⟩

/-- One row more. -/
theorem Gathered.next {w : World} {m B5 B6 Bb : Nat} {pre : List Item} {x : Item} {W W0 w1 : World} {R A' : Option Addr} {rc c' : Nat} (hw : w.heap.size ≤ m) (hB5 : w.heap.size ≤ B5) (hB6 : w.heap.size ≤ B6) (h56 : B5 ≠ B6) (hb5 : Bb ≠ B5) (hb6 : Bb ≠ B6) (hbm : Bb < m)
    (h : Gathered w m B5 B6 pre W) (h5 : W.heap[B5]? = some (.cells #[.slice R pre.length rc] 61 (0, 0))) (hown : W.ownsRow m 28 1 (.slice R pre.length rc) pre.length (pre.map Item.val)) (hx : x.there W) (hat : x.at_ = (joined (rowsOf (pre ++ [x]))).length)
    (k0 : Kept noBlock W W0) (o1 : w1.ownsRow 0 28 1 (.slice A' (pre.length + 1) c') (pre.length + 1) ((pre ++ [x]).map Item.val)) (g1 : Grew W0 w1 (.slice R pre.length rc) (.slice A' (pre.length + 1) c')) :
    let W' := (w1.setCell ⟨B5, 0, none⟩ (.slice A' (pre.length + 1) c')).setCell ⟨B6, 0, none⟩ (.int .i64 (x.at_ : Int))
    KeepsFrom m W W' ∧ Held Bb W W' ∧ Gathered w m B5 B6 (pre ++ [x]) W' := by
  intro W'
  have g2 := Grew.after k0 g1
  have n5 : (Value.slice R pre.length rc).ownBlock ≠ some B5 := own_ne hown h5 (by decide)
  have n6 : (Value.slice R pre.length rc).ownBlock ≠ some B6 := own_ne hown h.end_ (by decide)
  have b5 := g2.kept.blk h5 n5
  have b6 := g2.kept.blk h.end_ n6
  have kk : Kept (fun k => (Value.slice R pre.length rc).ownBlock = some k ∨ k = B5 ∨ k = B6) W W' :=
    ((g2.kept.mono (fun _ _ h => .inl h)).step (Kept.setCell w1 (.inr (.inl rfl)) _)).step (Kept.setCell _ (.inr (.inr rfl)) _)
  have hS : ∀ k, ((Value.slice R pre.length rc).ownBlock = some k ∨ k = B5 ∨ k = B6) → w.heap.size ≤ k ∧ k ≠ Bb ∧ ∃ cs t fr, W.heap[k]? = some (.cells cs t fr) ∧ t ≠ 5 ∧ t ≠ 104 := by
    rintro k (hk | rfl | rfl)
    · obtain ⟨cs, fr, hc⟩ := own_cells hown k hk
      have := (hown.lt k hk).1
      exact ⟨by omega, by omega, cs, _, fr, hc, by decide, by decide⟩
    · exact ⟨hB5, Ne.symm hb5, _, _, _, h5, by decide, by decide⟩
    · exact ⟨hB6, Ne.symm hb6, _, _, _, h.end_, by decide, by decide⟩
  have keep : ∀ y : Item, y.there W → y.there W' := fun y hy => own_keep hy kk (fun i hi hs => by
    obtain ⟨_, _, cs, t, fr, hc, h1, _⟩ := hS i hs
    exact own_ne hy hc (Ne.symm h1) hi)
  have hb1 : ∀ i, (Value.slice A' (pre.length + 1) c').ownBlock = some i → m ≤ i := fun i hi => by
    rcases g2.at_ i hi with h1 | h1
    · exact (hown.lt i h1).1
    · exact Nat.le_trans h.size h1.1
  have o5 : (Value.slice A' (pre.length + 1) c').ownBlock ≠ some B5 := own_ne o1 b5 (by decide)
  have o6 : (Value.slice A' (pre.length + 1) c').ownBlock ≠ some B6 := own_ne o1 b6 (by decide)
  refine ⟨keepsFrom_of kk (fun k hk => ?_), held_of kk (fun k hk => ?_), ⟨⟨A', c', ?_, ?_⟩, ?_, ?_, ?_, ?_⟩⟩
  · obtain ⟨_, _, cs, t, fr, hc, _⟩ := hS k hk
    exact ⟨cs, t, fr, hc⟩
  · obtain ⟨_, h2, h3⟩ := hS k hk
    exact ⟨h2, h3⟩
  · rw [List.length_append, List.length_singleton]
    show ((w1.setCell ⟨B5, 0, none⟩ _).setCell ⟨B6, 0, none⟩ _).heap[B5]? = _
    rw [heap_setCell_other _ _ _ _ (by simpa using h56)]
    have := heap_setCell_same w1 B5 0 _ 61 (.slice A' (pre.length + 1) c') b5
    simpa using this
  · rw [List.length_append, List.length_singleton]
    refine own_base (own_keep (own_keep o1 (Kept.setCell (S := fun i => i = B5) w1 (by rfl) _) (fun i hi e => o5 (e ▸ hi))) (Kept.setCell (S := fun i => i = B6) _ (by rfl) _) (fun i hi e => o6 (e ▸ hi))) hb1
  · have b6' : (w1.setCell ⟨B5, 0, none⟩ (.slice A' (pre.length + 1) c')).heap[B6]? = some (.cells #[.int .i64 ((joined (rowsOf pre)).length : Nat)] 3 (0, 0)) := by
      rw [heap_setCell_other _ _ _ _ (by simpa using Ne.symm h56)]
      exact b6
    have := heap_setCell_same _ B6 0 _ 3 (.int .i64 (x.at_ : Int)) b6'
    rw [← hat]
    simpa using this
  · intro y hy
    rcases List.mem_append.1 hy with hy | hy
    · exact keep y (h.there y hy)
    · simp at hy
      subst hy
      exact keep _ hx
  · exact h.kept.trans kk (fun i hi hs => absurd (hS i hs).1 (by omega))
  · exact Nat.le_trans h.size kk.size

set_option maxRecDepth 100000 in
set_option maxHeartbeats 1000000 in
theorem rows_any (F : Nat → Prop) (a : Option Addr) (n c : Nat) (b : List UInt8) (w : World) (h : Lies w F a (b.map bv)) (hl : b.length = n) (hn : n ≤ 4000000) (hc : n ≤ c) :
    Calls Try.prog 25 #[.slice a n c] w fun e w' => ∃ (xs : List Item) (t : List UInt8) (R : Option Addr) (rc : Nat), Parted b (rowsOf xs) t ∧ (rd t).2.2 ≠ 0 ∧
      e = .returned (.tuple #[.slice R xs.length rc, .int .i64 ((joined (rowsOf xs)).length : Nat), .int .i64 ((if t = [] then 0 else (rd t).2.2 : Nat) : Int)]) ∧
      w'.ownsRow w.heap.size 28 1 (.slice R xs.length rc) xs.length (xs.map Item.val) ∧ (∀ x ∈ xs, x.there w') ∧ Kept noBlock w w' := by
  refine (callsIn_wide (n := 3)).1 ?_
  refine callsIn_of_wp_marks Try.func25 rfl trivial ?_ rfl
  simp only [Try.ntmps25, List.size_toArray, List.length_cons, List.length_nil, Nat.reduceAdd, Nat.reduceSub, Array.replicate_succ, Array.replicate_zero, List.push_toArray, List.append_toArray, List.nil_append, List.cons_append]
  refine wpIn_wide.2 ?_
  have HL := Lib.hid hl; clear hl
  go_wp2_with fail
  have k2 : Kept noBlock w ((w.alloc (.cells #[.slice none 0 0] 61)).alloc (.cells #[.int .i64 0] 3)) := (Kept.alloc _ _ _).step (Kept.alloc _ _ _)
  have h5 : ((w.alloc (.cells #[.slice none 0 0] 61)).alloc (.cells #[.int .i64 0] 3)).heap[w.heap.size]? = some (.cells #[.slice none 0 0] 61 (0, 0)) := heap_alloc2_old _ _ _
  have h6 : ((w.alloc (.cells #[.slice none 0 0] 61)).alloc (.cells #[.int .i64 0] 3)).heap[w.heap.size + 1]? = some (.cells #[.int .i64 0] 3 (0, 0)) := heap_alloc2_new _ _ _
  have hsz : ((w.alloc (.cells #[.slice none 0 0] 61)).alloc (.cells #[.int .i64 0] 3)).heap.size = w.heap.size + 2 := by simp
  generalize ((w.alloc (.cells #[.slice none 0 0] 61)).alloc (.cells #[.int .i64 0] 3)) = w2 at k2 h5 h6 hsz ⊢
  obtain ⟨B5, hB5⟩ : ∃ B5, B5 = w.heap.size := ⟨_, rfl⟩
  obtain ⟨B6, hB6⟩ : ∃ B6, B6 = w.heap.size + 1 := ⟨_, rfl⟩
  rw [← hB6] at h6 ⊢
  rw [← hB5] at h5 ⊢
  refine (all_any F a n c b w2 (h.keep k2 (fun _ _ h => h)) HL.out (by omega)).mono ?_
  rintro e w3 ⟨Bb, Ab, cb, rfl, hBb, hbox, hown, k3⟩
  have h53 := k3.blk h5 (fun h => h)
  have h63 := k3.blk h6 (fun h => h)
  have hlt3 : w.heap.size + 2 ≤ w3.heap.size := by have := k3.size; omega
  have H5 := Lib.hid h53
  have H6 := Lib.hid h63
  have HBX := Lib.hid hbox
  have HOB := Lib.hid (own_base (base' := 0) hown (fun _ _ => Nat.zero_le _))
  have K3 := Lib.hid (k2.step k3)
  have HB5 := Lib.hid hB5
  have HB6 := Lib.hid hB6
  have HBB := Lib.hid hBb
  have hb5 : B5 < w3.heap.size := by omega
  have hb6 : B6 < w3.heap.size := by omega
  have hne1 : Bb ≠ B5 := by omega
  have hne2 : Bb ≠ B6 := by omega
  have hne3 : B5 ≠ B6 := by omega
  have HSZ := Lib.hid hlt3
  have H := Lib.hid h
  clear h5 h6 h53 h63 hbox hown k2 k3 hsz hlt3 hB5 hB6 hBb h
  go_wp2_with fail
  refine (wpIn_wide (n := 3)).1 ?_
  refine wpIn_goes rfl (by omega) (gf := 54) (lb := #[.pointer (some ⟨Bb, 0, none⟩)]) rfl trivial (enters_of Try.func54 (by kernel_rfl) rfl) (all1_goes Bb Ab n cb b w3 HBX.out HOB.out HL.out (by omega) 2) (Kept.refl _ _) (fun _ => rfl)
    Held.trans Held.putObj Handed.steady (fun pre W => Hid (Gathered w w3.heap.size B5 B6 pre W)) (fun _ _ _ => False) (fun s A B h k => Lib.hid (h.out.steady (by have := HSZ.out; omega) k)) (fun _ _ _ _ h _ => h) (Lib.hid ?start)
    (fun x => { tmps := #[Value.slice a n c, undef, Value.slice none 0 0, Value.int IntKind.i64 0, Value.int IntKind.i64 0, Value.pointer (some ⟨B5, 0, none⟩), Value.pointer (some ⟨B6, 0, none⟩), .int .i64 (x.at_ : Int), Value.slice x.A x.row.length x.c, undef, undef, undef, Value.slice a n c,
      .func (.func 54) #[] #[.pointer (some ⟨Bb, 0, none⟩)], .int .i64 (x.at_ : Int), Value.slice x.A x.row.length x.c, undef, undef, undef, undef, undef, undef, undef, undef, undef, undef, undef, undef, undef, undef, undef, undef, undef, undef, undef, undef, undef, undef], defers := [] }) ?assign ?body ?done ?stop
  case start => exact ⟨⟨none, 0, H5.out, World.ownsRow_nil _ _ _ _⟩, H6.out, fun x hx => (by cases hx), K3.out, Nat.le_refl _⟩
  case assign =>
    intro l x W K hK
    dsimp only [Item.enc]
    gi_wp2
    exact hK
  case body =>
    intro l pre x W hG0 hpx
    have hG := hG0.out
    clear hG0
    dsimp only
    obtain ⟨R, rc, g5, gown⟩ := hG.row
    have hc5 : W.cell? ⟨B5, 0, none⟩ = some (.slice R pre.length rc) := cell_of_row _ _ _ _ _ _ g5
    have hk : 9 * (pre.length + 1) ≤ n := by
      obtain ⟨t, ht⟩ := hpx.is
      have h1 := ht.le
      have h2 := joined_ge (rowsOf (pre ++ [x]))
      rw [rowsOf_length, List.length_append, List.length_singleton] at h2
      rw [HL.out] at h1
      omega
    have HG := Lib.hid hG; clear hG
    have HP := Lib.hid hpx; clear hpx
    have G5 := Lib.hid g5; clear g5
    have GO := Lib.hid gown; clear gown
    obtain ⟨k, hke⟩ : ∃ k, k = pre.length := ⟨_, rfl⟩
    rw [← hke] at hc5 hk G5 GO
    have HKE := Lib.hid hke; clear hke
    gi_wp2_with (gi_at_builtin; refine wpListIn_append_src rfl _ _ 61 61 rfl 28 (.slice none 0 0) 1 24 Try.underlying61 Try.infoBytes rfl (.slice R k rc) k (pre.map Item.val) rfl (own_base (base' := 0) (GO.out.alloc _) (fun _ _ => Nat.zero_le _)) _ 1 [x.val] rfl (src_new Try.underlying61 _ rfl (heap_alloc_new _ _)) ?c3 ?c4 ?_)
    case c3 => unfold maxLen; omega
    case c4 => omega
    intro A' c' w1 o1 g1
    have n5 : (Value.slice R k rc).ownBlock ≠ some B5 := own_ne GO.out G5.out (by decide)
    have n6 : (Value.slice R k rc).ownBlock ≠ some B6 := own_ne GO.out HG.out.end_ (by decide)
    have b5 := (Grew.after (Kept.alloc noBlock W _) g1).kept.blk G5.out n5
    have b6 := (Grew.after (Kept.alloc noBlock W _) g1).kept.blk HG.out.end_ n6
    have hc5' : w1.cell? ⟨B5, 0, none⟩ = some (.slice R k rc) := cell_of_row _ _ _ _ _ _ b5
    have hf5' : w1.frozen? ⟨B5, 0, none⟩ = false := frozen_of_row _ _ _ _ _ b5
    have b6' : (w1.setCell ⟨B5, 0, none⟩ (.slice A' (k + 1) c')).heap[B6]? = some (.cells #[.int .i64 ((joined (rowsOf pre)).length : Nat)] 3 (0, 0)) := by
      rw [heap_setCell_other _ _ _ _ (by simpa using Ne.symm hne3)]
      exact b6
    have hc6' : (w1.setCell ⟨B5, 0, none⟩ (.slice A' (k + 1) c')).cell? ⟨B6, 0, none⟩ = some (.int .i64 ((joined (rowsOf pre)).length : Nat)) := cell_of_row _ _ _ _ _ _ b6'
    have hf6' : (w1.setCell ⟨B5, 0, none⟩ (.slice A' (k + 1) c')).frozen? ⟨B6, 0, none⟩ = false := frozen_of_row _ _ _ _ _ b6'
    have R1 : Hid (KeepsFrom w3.heap.size W ((w1.setCell ⟨B5, 0, none⟩ (.slice A' (k + 1) c')).setCell ⟨B6, 0, none⟩ (.int .i64 (x.at_ : Int))) ∧ Held Bb W ((w1.setCell ⟨B5, 0, none⟩ (.slice A' (k + 1) c')).setCell ⟨B6, 0, none⟩ (.int .i64 (x.at_ : Int))) ∧
        Gathered w w3.heap.size B5 B6 (pre ++ [x]) ((w1.setCell ⟨B5, 0, none⟩ (.slice A' (k + 1) c')).setCell ⟨B6, 0, none⟩ (.int .i64 (x.at_ : Int)))) := by
      have hb := (Array.getElem?_eq_some_iff.1 HBX.out).1
      have e1 := HB5.out
      have e2 := HB6.out
      have e3 := HSZ.out
      have e4 := HKE.out
      subst e4
      exact Lib.hid (Gathered.next (by omega) (by omega) (by omega) hne3 hne1 hne2 hb HG.out G5.out GO.out HP.out.there HP.out.end_ (Kept.alloc noBlock W _) (by rw [List.map_append]; exact o1) g1)
    clear b5 b6 b6' n5 n6 o1 g1 hc5
    gi_wp2
    exact ⟨R1.out.1, R1.out.2.1, Lib.hid R1.out.2.2⟩
  case done =>
    intro D xs W hD hF hG0 hK
    have hG := hG0.out
    clear hG0
    obtain ⟨t, ht, hbad⟩ := hF
    obtain ⟨R, rc, g5, gown⟩ := hG.row
    have hc5 : W.cell? ⟨B5, 0, none⟩ = some (.slice R xs.length rc) := cell_of_row _ _ _ _ _ _ g5
    obtain ⟨p, hp⟩ : ∃ p, p = (joined (rowsOf xs)).length := ⟨_, rfl⟩
    have hc6 : W.cell? ⟨B6, 0, none⟩ = some (.int .i64 (p : Int)) := by rw [hp]; exact cell_of_row _ _ _ _ _ _ hG.end_
    have hpn : p ≤ n := by rw [hp, ← HL.out]; exact ht.le
    have htr : t = b.drop p := by rw [hp]; exact ht.rest
    have HG := Lib.hid hG; clear hG
    have GO := Lib.hid gown; clear gown
    have HT := Lib.hid ht; clear ht
    have HTR := Lib.hid htr; clear htr
    have HPE := Lib.hid hp; clear hp
    have HK := Lib.hid hK; clear hK
    have HBAD := Lib.hid hbad; clear hbad g5
    have htl : t.length = n - p := by rw [HTR.out, List.length_drop, HL.out]
    by_cases hpe : p = n
    · have ht0 : t = [] := List.eq_nil_of_length_eq_zero (by omega)
      subst hpe
      have hc5d : W.drew.cell? ⟨B5, 0, none⟩ = some (.slice R xs.length rc) := hc5
      have hc6d : W.drew.cell? ⟨B6, 0, none⟩ = some (.int .i64 (p : Int)) := hc6
      go_wp2
      refine wp_region_noPanic ?_
      refine wp_region_held_drew (S := fun w' => w'.cell? ⟨B5, 0, none⟩ = some (.slice R xs.length rc) ∧ w'.cell? ⟨B6, 0, none⟩ = some (.int .i64 (p : Int))) (by kernel_rfl) ⟨hc5d, hc6d⟩ (fun hHeld => ?_)
      refine wpAnyH_take (i := 0) (oi := ⟨some 25, Op.load 61 (Operand.tmp 5), 61, _, _, none⟩) (v := ?v0n2k1) rfl (by kernel_rfl) (by kernel_rfl) (by kernel_rfl) (fun _ _ _ h => h) (Or.inl ⟨by rfl, ?y0n2k1⟩) hHeld ?z0n2k1
      case y0n2k1 => intro w hSw; (try dsimp only at hSw); go_simp <;> rfl
      try simp only [Act.put, List.setIfInBounds_toArray, List.set_cons_zero, List.set_cons_succ]
      refine wpAnyH_take (i := 1) (oi := ⟨some 26, Op.load 3 (Operand.tmp 6), 3, _, _, none⟩) (v := ?v1n2k2) rfl (by kernel_rfl) (by kernel_rfl) (by kernel_rfl) (fun _ _ _ h => h) (Or.inl ⟨by rfl, ?y1n2k2⟩) hHeld ?z1n2k2
      case y1n2k2 => intro w hSw; (try dsimp only at hSw); go_simp <;> rfl
      try simp only [Act.put, List.setIfInBounds_toArray, List.set_cons_zero, List.set_cons_succ]
      refine wpAnyH_take (i := 2) (oi := ⟨some 2, Op.assign (Operand.tmp 25), 61, _, _, none⟩) (v := ?v2n2k3) rfl (by kernel_rfl) (by kernel_rfl) (by kernel_rfl) (fun _ _ _ h => h) (Or.inl ⟨by rfl, ?y2n2k3⟩) hHeld ?z2n2k3
      case y2n2k3 => intro w hSw; (try dsimp only at hSw); go_simp <;> rfl
      try simp only [Act.put, List.setIfInBounds_toArray, List.set_cons_zero, List.set_cons_succ]
      refine wpAnyH_take (i := 3) (oi := ⟨some 3, Op.assign (Operand.tmp 26), 3, _, _, none⟩) (v := ?v3n2k4) rfl (by kernel_rfl) (by kernel_rfl) (by kernel_rfl) (fun _ _ _ h => h) (Or.inl ⟨by rfl, ?y3n2k4⟩) hHeld ?z3n2k4
      case y3n2k4 => intro w hSw; (try dsimp only at hSw); go_simp <;> rfl
      try simp only [Act.put, List.setIfInBounds_toArray, List.set_cons_zero, List.set_cons_succ]
      refine wpAnyH_take (i := 4) (oi := ⟨some 4, Op.assign (Operand.const (Value.int IntKind.i64 0)), 38, _, _, none⟩) (v := ?v4n2k5) rfl (by kernel_rfl) (by kernel_rfl) (by kernel_rfl) (fun _ _ _ h => h) (Or.inl ⟨by rfl, ?y4n2k5⟩) hHeld ?z4n2k5
      case y4n2k5 => intro w hSw; (try dsimp only at hSw); go_simp <;> rfl
      try simp only [Act.put, List.setIfInBounds_toArray, List.set_cons_zero, List.set_cons_succ]
      refine wpAnyH_done (by kernel_rfl) ?_ _
      refine NoPanic.normal ?_
      go_wp2
      refine ⟨by simp, .inl ⟨_, _, rfl, run_takeDeferred (w := W.drew) HK.out, ?_⟩⟩
      refine ⟨_, results_tmp3 rfl _ _ _, ?_⟩
      have kd := Kept.drew noBlock W
      have st : Steady w3.heap.size W.drew (W.drew.putObj D (.deferred none)) := Steady.putObj _ hD HK.out rfl
      have e3 := HSZ.out
      refine ⟨xs, t, R, rc, HT.out, HBAD.out, ?_, own_base (own_steady (own_keep GO.out kd (fun _ _ h => h)) st) (fun i hi => Nat.le_trans (by omega) (GO.out.lt i hi).1), fun x hx => own_steady (own_keep (HG.out.there x hx) kd (fun _ _ h => h)) st, (HG.out.kept.step kd).trans st (fun i hi h => absurd h.1 (by omega))⟩
      rw [if_pos ht0, ← HPE.out]
      rfl
    · have ht0 : ¬ t = [] := fun h => by rw [h] at htl; simp at htl; omega
      have hpe2 : ((p : Int) == (n : Int)) = false := beq_false_of_ne (fun h => hpe (by omega))
      have hpi : (p : Int) ≤ n := by omega
      have hdr : Lies W F (if c = p then a else a.map (·.add p)) (t.map bv) := by
        rw [HTR.out, List.map_drop]
        exact (H.out.keep HG.out.kept (fun _ _ h => h)).drop p (by rw [List.length_map, HL.out]; exact hc)
      rw [if_neg (by omega)] at hdr
      go_wp2_with fail
      refine (fone_any F _ (n - p) (c - p) t W hdr htl (by omega) (by omega)).mono ?_
      rintro e w5 ⟨A5, c5, rfl, _, k5⟩
      have hc5d : w5.drew.cell? ⟨B5, 0, none⟩ = some (.slice R xs.length rc) := k5.cell hc5 (fun h => h)
      have hc6d : w5.drew.cell? ⟨B6, 0, none⟩ = some (.int .i64 (p : Int)) := k5.cell hc6 (fun h => h)
      have HK5 := Lib.hid (k5.blk HK.out (fun h => h))
      obtain ⟨u, hu⟩ : ∃ u, u = rd t := ⟨_, rfl⟩
      rw [← hu]
      have HU := Lib.hid hu; clear hu hdr hc5 hc6
      obtain ⟨er, her⟩ : ∃ er, er = u.2.2 := ⟨_, rfl⟩
      rw [← her]
      have HE := Lib.hid her; clear her
      go_upto_region 11 with (fail)
      refine wp_region_noPanic ?_
      refine wp_region_held_drew (S := fun w' => w'.cell? ⟨B5, 0, none⟩ = some (.slice R xs.length rc) ∧ w'.cell? ⟨B6, 0, none⟩ = some (.int .i64 (p : Int))) (by kernel_rfl) ⟨hc5d, hc6d⟩ (fun hHeld => ?_)
      refine wpAnyH_take (i := 0) (oi := ⟨some 35, Op.load 61 (Operand.tmp 5), 61, _, _, none⟩) (v := ?v0n3k1) rfl (by kernel_rfl) (by kernel_rfl) (by kernel_rfl) (fun _ _ _ h => h) (Or.inl ⟨by rfl, ?y0n3k1⟩) hHeld ?z0n3k1
      case y0n3k1 => intro w hSw; (try dsimp only at hSw); go_simp <;> rfl
      try simp only [Act.put, List.setIfInBounds_toArray, List.set_cons_zero, List.set_cons_succ]
      refine wpAnyH_take (i := 1) (oi := ⟨some 36, Op.load 3 (Operand.tmp 6), 3, _, _, none⟩) (v := ?v1n3k2) rfl (by kernel_rfl) (by kernel_rfl) (by kernel_rfl) (fun _ _ _ h => h) (Or.inl ⟨by rfl, ?y1n3k2⟩) hHeld ?z1n3k2
      case y1n3k2 => intro w hSw; (try dsimp only at hSw); go_simp <;> rfl
      try simp only [Act.put, List.setIfInBounds_toArray, List.set_cons_zero, List.set_cons_succ]
      refine wpAnyH_take (i := 2) (oi := ⟨some 37, Op.move (Operand.tmp 11), 38, _, _, none⟩) (v := ?v2n3k3) rfl (by kernel_rfl) (by kernel_rfl) (by kernel_rfl) (fun _ _ _ h => h) (Or.inl ⟨by rfl, ?y2n3k3⟩) hHeld ?z2n3k3
      case y2n3k3 => intro w hSw; (try dsimp only at hSw); go_simp <;> rfl
      try simp only [Act.put, List.setIfInBounds_toArray, List.set_cons_zero, List.set_cons_succ]
      refine wpAnyH_take (i := 3) (oi := ⟨some 2, Op.assign (Operand.tmp 35), 61, _, _, none⟩) (v := ?v3n3k4) rfl (by kernel_rfl) (by kernel_rfl) (by kernel_rfl) (fun _ _ _ h => h) (Or.inl ⟨by rfl, ?y3n3k4⟩) hHeld ?z3n3k4
      case y3n3k4 => intro w hSw; (try dsimp only at hSw); go_simp <;> rfl
      try simp only [Act.put, List.setIfInBounds_toArray, List.set_cons_zero, List.set_cons_succ]
      refine wpAnyH_take (i := 4) (oi := ⟨some 3, Op.assign (Operand.tmp 36), 3, _, _, none⟩) (v := ?v4n3k5) rfl (by kernel_rfl) (by kernel_rfl) (by kernel_rfl) (fun _ _ _ h => h) (Or.inl ⟨by rfl, ?y4n3k5⟩) hHeld ?z4n3k5
      case y4n3k5 => intro w hSw; (try dsimp only at hSw); go_simp <;> rfl
      try simp only [Act.put, List.setIfInBounds_toArray, List.set_cons_zero, List.set_cons_succ]
      refine wpAnyH_take (i := 5) (oi := ⟨some 4, Op.assign (Operand.tmp 37), 38, _, _, none⟩) (v := ?v5n3k6) rfl (by kernel_rfl) (by kernel_rfl) (by kernel_rfl) (fun _ _ _ h => h) (Or.inl ⟨by rfl, ?y5n3k6⟩) hHeld ?z5n3k6
      case y5n3k6 => intro w hSw; (try dsimp only at hSw); go_simp <;> rfl
      try simp only [Act.put, List.setIfInBounds_toArray, List.set_cons_zero, List.set_cons_succ]
      refine wpAnyH_done (by kernel_rfl) ?_ _
      refine NoPanic.normal ?_
      go_wp2
      refine ⟨by simp, .inl ⟨_, _, rfl, run_takeDeferred (w := w5.drew) HK5.out, ?_⟩⟩
      refine ⟨_, results_tmp3 rfl _ _ _, ?_⟩
      have kd := k5.step (Kept.drew noBlock w5)
      have st : Steady w3.heap.size w5.drew (w5.drew.putObj D (.deferred none)) := Steady.putObj _ hD HK5.out rfl
      have e3 := HSZ.out
      refine ⟨xs, t, R, rc, HT.out, HBAD.out, ?_, own_base (own_steady (own_keep GO.out kd (fun _ _ h => h)) st) (fun i hi => Nat.le_trans (by omega) (GO.out.lt i hi).1), fun x hx => own_steady (own_keep (HG.out.there x hx) kd (fun _ _ h => h)) st, (HG.out.kept.step kd).trans st (fun i hi h => absurd h.1 (by omega))⟩
      rw [if_neg ht0, ← HPE.out, ← HU.out, ← HE.out]
      rfl
  case stop =>
    rintro D c pre W _ _ h _
    exact h.elim

end Go.Proofs.Ytjijdkdpmbfdmaa
