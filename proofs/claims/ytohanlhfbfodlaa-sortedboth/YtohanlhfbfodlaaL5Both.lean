/-
  SortedBoth: what it does with whatever deeds. No statement is proved here.
-/
import Derived.Test.YtohanlhfbfodlaaL5Self
import Derived.Test.YtohanlhfbfodlaaL5Grow
import Derived.IntWalk
namespace Go.Proofs.Ytohanlhfbfodlaa
open Go.RowKit Go.Shelf
attribute [local go_sem] Oper.semAt_some

/-- Both rows, whole. -/
structure BothE (w : World) (B7 B8 D1 D2 kn : Nat) (A7 : Option Addr) (c7 : Nat) (A8 : Option Addr) (c8 : Nat) (KS : List Int) (W : World) : Prop where
  g7 : W.heap[B7]? = some (.cells #[.slice A7 kn c7] 48 (0, 0))
  g8 : W.heap[B8]? = some (.cells #[.slice A8 kn c8] 48 (0, 0))
  o7 : W.ownsRow 0 3 1 (.slice A7 kn c7) kn (ints KS)
  o8 : W.ownsRow 0 3 1 (.slice A8 kn c8) kn (ints KS)
  d1 : W.heap[D1]? = some (.deferred (some []))
  d2 : W.heap[D2]? = some (.deferred (some []))
  world : Kept noBlock w W
theorem BothE.drew {w W : World} {B7 B8 D1 D2 kn c7 c8 : Nat} {A7 A8 : Option Addr} {KS : List Int} (h : BothE w B7 B8 D1 D2 kn A7 c7 A8 c8 KS W) : BothE w B7 B8 D1 D2 kn A7 c7 A8 c8 KS W.drew :=
  ⟨h.g7, h.g8, h.o7, h.o8, h.d1, h.d2, h.world.step (Kept.drew _ _)⟩

set_option maxRecDepth 100000 in
set_option maxHeartbeats 4000000 in
theorem both_walk (F F2 : Nat → Prop) (a : Option Addr) (n c : Nat) (xs : List ActV) (b : Option Addr) (n2 c2 : Nat) (ys : List ActV) (w : World) (h : Lies w F a (actCells xs)) (hx : ∀ x ∈ xs, x.fit) (hl : xs.length = n) (hc : n ≤ c)
    (h2 : Lies w F2 b (actCells ys)) (hy : ∀ x ∈ ys, x.fit) (hl2 : ys.length = n2) (hc2 : n2 ≤ c2) :
    Calls Try.prog 9 #[.slice a n c, .slice b n2 c2] w fun e w' => e = .returned (.bool true) ∧ Kept noBlock w w' := by
  have OFX := Lib.hid (fun W (kW : Kept noBlock w W) => of_any F a n c xs W (h.keep kW (fun _ _ h => h)) hx hl hc)
  have OFY := Lib.hid (fun W (kW : Kept noBlock w W) => of_any F2 b n2 c2 ys W (h2.keep kW (fun _ _ h => h)) hy hl2 hc2)
  have hsx : (ofL (xs.take 60)).length ≤ 60 := by have := ofL_len (xs.take 60); have := List.length_take_le 60 xs; omega
  have hsy : (ofL (ys.take 60)).length ≤ 60 := by have := ofL_len (ys.take 60); have := List.length_take_le 60 ys; omega
  obtain ⟨Lx, hLx⟩ : ∃ Lx, Lx = ofL (xs.take 60) := ⟨_, rfl⟩
  obtain ⟨Ly, hLy⟩ : ∃ Ly, Ly = ofL (ys.take 60) := ⟨_, rfl⟩
  have hux : Srt.Up Lx := by rw [hLx]; exact ofL_up _
  have huy : Srt.Up Ly := by rw [hLy]; exact ofL_up _
  rw [← hLx] at OFX hsx
  rw [← hLy] at OFY hsy
  have HKE := Lib.hid (mrg_keys hux huy)
  have HLN := Lib.hid (Srt.mrg_len Lx Ly)
  have HLL := Lib.hid (mrg_len_left Lx Ly)
  have HLR := Lib.hid (mrg_len_right Lx Ly)
  have HLN2 := Lib.hid (Srt.mrg_len Ly Lx)
  clear h hx hl hLx hux hc h2 hy hl2 hLy huy hc2
  refine (callsIn_wide (n := 3)).1 ?_
  refine callsIn_of_wp_marks Try.func9 rfl trivial ?_ rfl
  simp only [Try.ntmps9, List.size_toArray, List.length_cons, List.length_nil, Nat.reduceAdd, Nat.reduceSub, Array.replicate_succ, Array.replicate_zero, List.push_toArray, List.append_toArray, List.nil_append, List.cons_append]
  refine wpIn_wide.2 ?_
  go_wp2_with fail
  refine (awake_any w).mono ?_
  rintro e w1 ⟨rfl, k1⟩
  have K1 := Lib.hid k1; clear k1
  go_wp2_with fail
  refine (OFX.out w1 K1.out).mono ?_
  rintro e w2 ⟨x, rfl, o2, k2⟩
  have O2 := Lib.hid o2; clear o2
  have K2 := Lib.hid k2; clear k2
  go_wp2_with fail
  refine (OFY.out w2 (K1.out.step K2.out)).mono ?_
  rintro e w3 ⟨y, rfl, o3, k3⟩
  have t3 : Two w w3 x y Lx Ly [] := Two.of K1.out O2.out K2.out o3 k3 (by intro e he; cases he)
  have hws : w.heap.size ≤ w3.heap.size := t3.world.size
  have t4 := t3.more (Kept.alloc noBlock w3 (.cells #[.slice none 0 0] 48)) w3.heap.size (Nat.le_refl _) (by simp)
  have t5 := t4.more (Kept.alloc noBlock _ (.cells #[.slice none 0 0] 48)) (w3.heap.size + 1) (by simp) (by simp)
  have r7 : ((w3.alloc (.cells #[.slice none 0 0] 48)).alloc (.cells #[.slice none 0 0] 48)).heap[w3.heap.size]? = some (.cells #[.slice none 0 0] 48 (0, 0)) := heap_alloc2_old _ _ _
  have r8 : ((w3.alloc (.cells #[.slice none 0 0] 48)).alloc (.cells #[.slice none 0 0] 48)).heap[w3.heap.size + 1]? = some (.cells #[.slice none 0 0] 48 (0, 0)) := heap_alloc2_new _ _ _
  obtain ⟨FF, GG, t6⟩ := t5
  have T6 := Lib.hid t6
  have R7 := Lib.hid r7
  have R8 := Lib.hid r8
  clear t3 t4 t6 r7 r8 O2 K2 K1 o3 k3 OFX OFY
  go_wp2_with fail
  obtain ⟨B8, hB8⟩ : ∃ B8, B8 = w3.heap.size + 1 := ⟨_, rfl⟩
  obtain ⟨B7, hB7⟩ : ∃ B7, B7 = w3.heap.size := ⟨_, rfl⟩
  have d78 : B8 ≠ B7 := by omega
  have hw7 : w.heap.size ≤ B7 := by omega
  have hw8 : w.heap.size ≤ B8 := by omega
  rw [← hB8, ← hB7] at T6
  rw [← hB7] at R7
  rw [← hB8] at R8
  rw [← hB8, ← hB7]
  generalize ((w3.alloc (.cells #[.slice none 0 0] 48)).alloc (.cells #[.slice none 0 0] 48)) = w4 at T6 R7 R8 ⊢
  clear hB8 hB7 hws
  refine (II.all_any x _).mono ?_
  rintro e wa ⟨rfl, ba, ka⟩
  have BA := Lib.hid ba
  have KA := Lib.hid ka
  clear ba ka
  generalize w4.heap.size = b1 at BA ⊢
  go_wp2_with fail
  refine (II.all_any y _).mono ?_
  rintro e wb ⟨rfl, bb, kb⟩
  have BB := Lib.hid bb
  have BA2 := Lib.hid (kb.blk BA.out (fun h => h))
  have KB := Lib.hid (KA.out.step kb)
  clear BA bb kb KA
  generalize wa.heap.size = b2 at BB ⊢
  go_wp2_with fail
  refine (II.merge_any _ _ _ _ _).mono ?_
  rintro e wc ⟨rfl, h1, h2, kc⟩
  have TC := Lib.hid (T6.out.kept (KB.out.step kc))
  have C7 := Lib.hid ((KB.out.step kc).blk R7.out (fun h => h))
  have C8 := Lib.hid ((KB.out.step kc).blk R8.out (fun h => h))
  have HR := Lib.hid (merge_of TC.out.1 TC.out.2.1 (kc.blk BA2.out (fun h => h)) (kc.blk BB.out (fun h => h)) h1 h2 (by omega))
  obtain ⟨M, hM⟩ : ∃ M, M = Srt.mrg Lx Ly := ⟨_, rfl⟩
  rw [← hM] at HR HKE HLN HLL HLR
  have I0 : Hid (GrowI wc B7 (([] : List (Int × Int)).map Prod.fst) wc) := Lib.hid ⟨⟨none, 0, C7.out, World.ownsRow_nil _ _ _ _⟩, Kept.refl _ _⟩
  clear KB BA2 BB h1 h2 kc T6 R7 R8 hM C7
  generalize wb.heap.size = b3 at HR ⊢
  go_wp2_with fail
  refine (wpIn_wide (n := 3)).1 ?_
  refine wpIn_runs_to rfl (enters_of Try.func39 (by kernel_rfl) rfl) HR.out (Kept.refl _ _) (fun _ => rfl) (fun p => [(9, II.ek p.1)]) (fun pre W => Hid (GrowI wc B7 (pre.map Prod.fst) W)) (fun _ _ _ => False)
    (fun s A B h k => Lib.hid (h.out.abide k)) (fun _ _ _ _ h _ => h) I0 ?assign ?body ?done ?stop
  case assign =>
    intro l p W K hK
    dsimp only [II.enc]
    simp only [landed, List.foldl_cons, List.foldl_nil, List.zip_toArray, List.zip_cons_cons, List.zip_nil_right, II.enc, List.foldl_toArray, List.setIfInBounds_toArray, List.set_cons_zero, List.set_cons_succ] at hK
    gi_wp2
    exact hK
  case body =>
    rintro l pre p rest V hL hI
    simp only [landed, List.foldl_cons, List.foldl_nil, List.zip_toArray, List.zip_cons_cons, List.zip_nil_right, II.enc, List.foldl_toArray, List.setIfInBounds_toArray, List.set_cons_zero, List.set_cons_succ]
    have hpl : pre.length + 1 ≤ 120 := by have := HLN.out; rw [hL] at this; simp at this; omega
    obtain ⟨x1, x2⟩ := p
    obtain ⟨P, hP⟩ : ∃ P, P = pre.map Prod.fst := ⟨_, rfl⟩
    have HP1 : Hid ((pre ++ [(x1, x2)]).map Prod.fst = P ++ [x1]) := Lib.hid (by simp [hP])
    have hpl2 : P.length + 1 ≤ 120 := by rw [hP, List.length_map]; exact hpl
    have HI : Hid (GrowI wc B7 P V) := by rw [hP]; exact hI
    obtain ⟨R, rc, g3, gown⟩ := HI.out.row
    have c3 : V.cell? ⟨B7, 0, none⟩ = some (.slice R P.length rc) := cell_of_row _ _ _ _ _ _ g3
    have G3 := Lib.hid g3; clear g3
    have GO := Lib.hid gown; clear gown
    have NX : Hid (∀ A' c' wz, wz.ownsRow 0 3 1 (.slice A' (P.length + 1) c') (P.length + 1) (ints P ++ [.int .i64 x1]) → Grew (V.alloc (.cells #[.int .i64 x1] 3)) wz (.slice R P.length rc) (.slice A' (P.length + 1) c') → _) := Lib.hid (fun A' c' wz o1 g1 =>
      GrowI.next (m0 := wc.heap.size) (x := x1) HI.out G3.out GO.out (Kept.alloc noBlock V _) (by rw [ints_snoc]; exact o1) g1)
    obtain ⟨k, hke⟩ : ∃ k, k = P.length := ⟨_, rfl⟩
    rw [← hke] at c3 hpl2 G3 GO NX
    clear hke hL hI hP hpl
    unfold II.ek II.ev
    dsimp only
    gi_wp2_with (gi_at_builtin; refine wpListIn_append_src rfl _ _ 48 48 rfl 3 (.int .i64 0) 1 8 Try.underlying48 infoInt rfl (.slice R k rc) k (ints P) rfl (own_base (base' := 0) (GO.out.alloc _) (fun _ _ => Nat.zero_le _)) _ 1 [.int .i64 x1] rfl (Src.ofSlice _ Try.underlying48 _ _ _ _ rfl (World.news_of_block (heap_alloc_new _ _)) (by intro u hu; simp at hu; subst hu; rfl)) ?c3 ?c4 ?_)
    case c3 => unfold maxLen; omega
    case c4 => left; omega
    intro A' c' w2 o2 g2
    obtain ⟨b3, n2⟩ := NX.out A' c' w2 o2 g2
    have c3' : w2.cell? ⟨B7, 0, none⟩ = some (.slice R k rc) := cell_of_row _ _ _ _ _ _ b3
    have f3' : w2.frozen? ⟨B7, 0, none⟩ = false := frozen_of_row _ _ _ _ _ b3
    have N2 := Lib.hid n2
    clear b3 n2 NX o2 g2 HI GO G3 c3
    gi_wp2
    exact ⟨N2.out.1, N2.out.2.1, Lib.hid (by rw [HP1.out]; exact N2.out.2.2)⟩
  case done =>
    intro D1 W1 hD1 hI hK
    have T1 := Lib.hid (TC.out.keep hI.out.kept (fun i e => by subst e; exact ⟨by simp, hw7⟩))
    have X8 := Lib.hid (hI.out.kept.blk C8.out d78)
    have hDw : w.heap.size ≤ D1 := Nat.le_trans TC.out.two.world.size hD1
    have DK := Lib.hid hK
    obtain ⟨A7, c7, g7, o7⟩ := hI.out.row
    have X7 := Lib.hid g7
    have O7 := Lib.hid (own_base (base' := 0) o7 (fun _ _ => Nat.zero_le _))
    clear hI hK g7 o7 TC C8 I0 HR hD1
    go_wp2_with fail
    refine (II.all_any y _).mono ?_
    rintro e wa2 ⟨rfl, ba, ka⟩
    have BA := Lib.hid ba
    have KA := Lib.hid ka
    clear ba ka
    generalize W1.heap.size = b4 at BA ⊢
    go_wp2_with fail
    refine (II.all_any x _).mono ?_
    rintro e wb2 ⟨rfl, bb, kb⟩
    have BB := Lib.hid bb
    have BA2 := Lib.hid (kb.blk BA.out (fun h => h))
    have KB := Lib.hid (KA.out.step kb)
    clear BA bb kb KA
    generalize wa2.heap.size = b5 at BB ⊢
    go_wp2_with fail
    refine (II.merge_any _ _ _ _ _).mono ?_
    rintro e wd ⟨rfl, h1, h2, kc⟩
    have TC := Lib.hid (T1.out.kept (KB.out.step kc))
    have C7 := Lib.hid ((KB.out.step kc).blk X7.out (fun h => h))
    have C8 := Lib.hid ((KB.out.step kc).blk X8.out (fun h => h))
    have CO := Lib.hid (own_keep O7.out (KB.out.step kc) (fun _ _ h => h))
    have CD := Lib.hid ((KB.out.step kc).blk DK.out (fun h => h))
    have HR := Lib.hid (merge_of TC.out.2.1 TC.out.1 (kc.blk BA2.out (fun h => h)) (kc.blk BB.out (fun h => h)) h1 h2 (by omega))
    obtain ⟨N, hN⟩ : ∃ N, N = Srt.mrg Ly Lx := ⟨_, rfl⟩
    rw [← hN] at HR HKE HLN2
    have I0 : Hid (GrowI wd B8 (([] : List (Int × Int)).map Prod.fst) wd) := Lib.hid ⟨⟨none, 0, C8.out, World.ownsRow_nil _ _ _ _⟩, Kept.refl _ _⟩
    clear KB BA2 BB h1 h2 kc T1 X7 X8 O7 DK hN
    generalize wb2.heap.size = b6 at HR ⊢
    go_wp2_with fail
    refine (wpIn_wide (n := 3)).1 ?_
    refine wpIn_runs_to rfl (enters_of Try.func39 (by kernel_rfl) rfl) HR.out (Kept.refl _ _) (fun _ => rfl) (fun p => [(10, II.ek p.1)]) (fun pre W => Hid (GrowI wd B8 (pre.map Prod.fst) W)) (fun _ _ _ => False)
      (fun s A B h k => Lib.hid (h.out.abide k)) (fun _ _ _ _ h _ => h) I0 ?assign2 ?body2 ?done2 ?stop2
    case assign2 =>
      intro l p W K hK
      dsimp only [II.enc]
      simp only [landed, List.foldl_cons, List.foldl_nil, List.zip_toArray, List.zip_cons_cons, List.zip_nil_right, II.enc, List.foldl_toArray, List.setIfInBounds_toArray, List.set_cons_zero, List.set_cons_succ] at hK
      gi_wp2
      exact hK
    case body2 =>
      rintro l pre p rest V hL hI
      simp only [landed, List.foldl_cons, List.foldl_nil, List.zip_toArray, List.zip_cons_cons, List.zip_nil_right, II.enc, List.foldl_toArray, List.setIfInBounds_toArray, List.set_cons_zero, List.set_cons_succ]
      have hpl : pre.length + 1 ≤ 120 := by have := HLN2.out; rw [hL] at this; simp at this; omega
      obtain ⟨x1, x2⟩ := p
      obtain ⟨P, hP⟩ : ∃ P, P = pre.map Prod.fst := ⟨_, rfl⟩
      have HP1 : Hid ((pre ++ [(x1, x2)]).map Prod.fst = P ++ [x1]) := Lib.hid (by simp [hP])
      have hpl2 : P.length + 1 ≤ 120 := by rw [hP, List.length_map]; exact hpl
      have HI : Hid (GrowI wd B8 P V) := by rw [hP]; exact hI
      obtain ⟨R, rc, g3, gown⟩ := HI.out.row
      have c3 : V.cell? ⟨B8, 0, none⟩ = some (.slice R P.length rc) := cell_of_row _ _ _ _ _ _ g3
      have G3 := Lib.hid g3; clear g3
      have GO := Lib.hid gown; clear gown
      have NX : Hid (∀ A' c' wz, wz.ownsRow 0 3 1 (.slice A' (P.length + 1) c') (P.length + 1) (ints P ++ [.int .i64 x1]) → Grew (V.alloc (.cells #[.int .i64 x1] 3)) wz (.slice R P.length rc) (.slice A' (P.length + 1) c') → _) := Lib.hid (fun A' c' wz o1 g1 =>
        GrowI.next (m0 := wd.heap.size) (x := x1) HI.out G3.out GO.out (Kept.alloc noBlock V _) (by rw [ints_snoc]; exact o1) g1)
      obtain ⟨k, hke⟩ : ∃ k, k = P.length := ⟨_, rfl⟩
      rw [← hke] at c3 hpl2 G3 GO NX
      clear hke hL hI hP hpl
      unfold II.ek II.ev
      dsimp only
      gi_wp2_with (gi_at_builtin; refine wpListIn_append_src rfl _ _ 48 48 rfl 3 (.int .i64 0) 1 8 Try.underlying48 infoInt rfl (.slice R k rc) k (ints P) rfl (own_base (base' := 0) (GO.out.alloc _) (fun _ _ => Nat.zero_le _)) _ 1 [.int .i64 x1] rfl (Src.ofSlice _ Try.underlying48 _ _ _ _ rfl (World.news_of_block (heap_alloc_new _ _)) (by intro u hu; simp at hu; subst hu; rfl)) ?c5 ?c6 ?_)
      case c5 => unfold maxLen; omega
      case c6 => left; omega
      intro A' c' w2 o2 g2
      obtain ⟨b3, n2⟩ := NX.out A' c' w2 o2 g2
      have c3' : w2.cell? ⟨B8, 0, none⟩ = some (.slice R k rc) := cell_of_row _ _ _ _ _ _ b3
      have f3' : w2.frozen? ⟨B8, 0, none⟩ = false := frozen_of_row _ _ _ _ _ b3
      have N2 := Lib.hid n2
      clear b3 n2 NX o2 g2 HI GO G3 c3
      gi_wp2
      exact ⟨N2.out.1, N2.out.2.1, Lib.hid (by rw [HP1.out]; exact N2.out.2.2)⟩
    case done2 =>
      intro D2 W2 hD2 hI hK
      obtain ⟨KS, hKS⟩ : ∃ KS, KS = M.map Prod.fst := ⟨_, rfl⟩
      have hlks : KS.length = M.length := by rw [hKS, List.length_map]
      have hgi : GrowI wd B8 KS W2 := by rw [hKS, HKE.out]; exact hI.out
      rw [← hKS] at C7 CO
      have T2 := TC.out.keep hgi.kept (fun i e => by subst e; exact ⟨by simp, hw8⟩)
      have hDw2 : w.heap.size ≤ D2 := Nat.le_trans TC.out.two.world.size hD2
      have hDD : D1 < D2 := Nat.lt_of_lt_of_le (lt_of_blk CD.out) hD2
      obtain ⟨A8, c8, g8, o8⟩ := hgi.row
      have g7 := hgi.kept.blk C7.out (Ne.symm d78)
      have o7 := own_keep CO.out hgi.kept (fun i hi e => own_ne CO.out C8.out (by decide) (e ▸ hi))
      have hd1 := hgi.kept.blk CD.out (fun e => by have h1 := CD.out; rw [e, C8.out] at h1; cases h1)
      obtain ⟨kn, hkn⟩ : ∃ kn, kn = KS.length := ⟨_, rfl⟩
      rw [← hkn] at g8 g7 o7 o8 hlks
      have HE : Hid (BothE w B7 B8 D1 D2 kn A7 c7 A8 c8 KS W2) := Lib.hid ⟨g7, g8, o7, own_base (base' := 0) o8 (fun _ _ => Nat.zero_le _), hd1, hK, T2.two.world⟩
      have hc7 : kn ≤ c7 := by obtain ⟨_, _, e, hle⟩ := own_form o7; injection e with _ _ e; omega
      have hc8 : kn ≤ c8 := by obtain ⟨_, _, e, hle⟩ := own_form o8; injection e with _ _ e; omega
      obtain ⟨lx, hlx⟩ : ∃ lx, lx = Lx.length := ⟨_, rfl⟩
      obtain ⟨ly, hly⟩ : ∃ ly, ly = Ly.length := ⟨_, rfl⟩
      have QX := Lib.hid (T2.kept (Kept.drew noBlock W2)).two.size
      have QY := Lib.hid (T2.kept (Kept.drew noBlock W2)).two.swap.size
      have h1 := HLN.out
      have h2 := HLL.out
      have h3 := HLR.out
      rw [← hlx] at QX hsx h1 h2
      rw [← hly] at QY hsy h1 h3
      rw [← hlks] at h1 h2 h3
      have HKN := Lib.hid hkn
      clear hI hgi TC C7 CO CD I0 HR hD2 C8 hd1 g7 g8 o7 o8 T2 hKS hkn hlks HLN HLL HLR HLN2 HKE hlx hly hK
      have cc7 : W2.drew.cell? ⟨B7, 0, none⟩ = some (.slice A7 kn c7) := cell_of_row _ _ _ _ _ _ HE.out.g7
      have cc8 : W2.drew.cell? ⟨B8, 0, none⟩ = some (.slice A8 kn c8) := cell_of_row _ _ _ _ _ _ HE.out.g8
      have hwr : IntKind.i64.wrap ((lx : Int) + (ly : Int)) = (lx : Int) + (ly : Int) := by rw [IntKind.wrap_i64]; omega
      have i0 : (kn : Int) ≤ (lx : Int) + (ly : Int) := by omega
      have i1 : ¬ ((lx : Int) + (ly : Int) < (kn : Int)) := by omega
      obtain ⟨mx, hmx⟩ : ∃ mx, mx = max lx ly := ⟨_, rfl⟩
      have qm : (if lx < ly then (ly : Int) else (lx : Int)) = (mx : Int) := by split <;> omega
      have qm2 : (if (lx : Int) < (ly : Int) then (ly : Int) else (lx : Int)) = (mx : Int) := by split <;> omega
      have i2 : (mx : Int) ≤ kn := by omega
      have i3 : ¬ ((kn : Int) < (mx : Int)) := by omega
      clear hmx
      go_upto_region 11 with (fail)
      refine wp_region_noPanic ?_
      refine wp_region_held_drew (S := fun w' => w'.cell? ⟨B7, 0, none⟩ = some (.slice A7 kn c7) ∧ w'.cell? ⟨B8, 0, none⟩ = some (.slice A8 kn c8)) (by kernel_rfl) ⟨cc7, cc8⟩ (fun hHeld => ?_)
      refine wpAnyH_take (i := 0) (oi := ⟨some 40, Op.load 48 (Operand.tmp 7), 48, _, _, none⟩) (v := ?v0n1k1) rfl (by kernel_rfl) (by kernel_rfl) (by kernel_rfl) (fun _ _ _ h => h) (Or.inl ⟨by rfl, ?y0n1k1⟩) hHeld ?z0n1k1
      case y0n1k1 => intro w hSw; (try dsimp only at hSw); go_simp <;> rfl
      try simp only [Act.put, List.setIfInBounds_toArray, List.set_cons_zero, List.set_cons_succ]
      refine wpAnyH_take (i := 1) (oi := ⟨some 41, Op.call { callee := Callee.builtin Builtin.len, args := #[Operand.tmp 40], argTypes := #[48] }, 3, _, _, none⟩) (v := ?v1n1k2) rfl (by kernel_rfl) (by kernel_rfl) (by kernel_rfl) (fun _ _ _ h => h) (Or.inl ⟨by rfl, ?y1n1k2⟩) hHeld ?z1n1k2
      case y1n1k2 => intro w hSw; (try dsimp only at hSw); go_simp <;> rfl
      try simp only [Act.put, List.setIfInBounds_toArray, List.set_cons_zero, List.set_cons_succ]
      refine wpAnyH_take (i := 2) (oi := ⟨some 42, Op.load 48 (Operand.tmp 8), 48, _, _, none⟩) (v := ?v2n1k3) rfl (by kernel_rfl) (by kernel_rfl) (by kernel_rfl) (fun _ _ _ h => h) (Or.inl ⟨by rfl, ?y2n1k3⟩) hHeld ?z2n1k3
      case y2n1k3 => intro w hSw; (try dsimp only at hSw); go_simp <;> rfl
      try simp only [Act.put, List.setIfInBounds_toArray, List.set_cons_zero, List.set_cons_succ]
      refine wpAnyH_take (i := 3) (oi := ⟨some 43, Op.call { callee := Callee.builtin Builtin.len, args := #[Operand.tmp 42], argTypes := #[48] }, 3, _, _, none⟩) (v := ?v3n1k4) rfl (by kernel_rfl) (by kernel_rfl) (by kernel_rfl) (fun _ _ _ h => h) (Or.inl ⟨by rfl, ?y3n1k4⟩) hHeld ?z3n1k4
      case y3n1k4 => intro w hSw; (try dsimp only at hSw); go_simp <;> rfl
      try simp only [Act.put, List.setIfInBounds_toArray, List.set_cons_zero, List.set_cons_succ]
      refine wpAnyH_take (i := 4) (oi := ⟨some 44, Op.binOp BinOp.neq 3 (Operand.tmp 41) (Operand.tmp 43) 3, 4, _, _, none⟩) (v := ?v4n1k5) rfl (by kernel_rfl) (by kernel_rfl) (by kernel_rfl) (fun _ _ _ h => h) (Or.inl ⟨by rfl, ?y4n1k5⟩) hHeld ?z4n1k5
      case y4n1k5 => intro w hSw; (try dsimp only at hSw); go_simp <;> rfl
      try simp only [Act.put, List.setIfInBounds_toArray, List.set_cons_zero, List.set_cons_succ]
      refine wpAnyH_take (i := 5) (oi := ⟨some 45, Op.move (Operand.tmp 44), 4, _, _, none⟩) (v := ?v5n1k6) rfl (by kernel_rfl) (by kernel_rfl) (by kernel_rfl) (fun _ _ _ h => h) (Or.inl ⟨by rfl, ?y5n1k6⟩) hHeld ?z5n1k6
      case y5n1k6 => intro w hSw; (try dsimp only at hSw); go_simp <;> rfl
      try simp only [Act.put, List.setIfInBounds_toArray, List.set_cons_zero, List.set_cons_succ]
      refine wpAnyH_take (i := 6) (oi := ⟨some 46, Op.load 48 (Operand.tmp 7), 48, _, _, some (5, false)⟩) (v := ?v6n1k7) rfl (by kernel_rfl) (by kernel_rfl) (by kernel_rfl) (fun _ _ _ h => h) (Or.inl ⟨by rfl, ?y6n1k7⟩) hHeld ?z6n1k7
      case y6n1k7 => intro w hSw; (try dsimp only at hSw); go_simp <;> rfl
      try simp only [Act.put, List.setIfInBounds_toArray, List.set_cons_zero, List.set_cons_succ]
      refine wpAnyH_take (i := 7) (oi := ⟨some 47, Op.call { callee := Callee.builtin Builtin.len, args := #[Operand.tmp 46], argTypes := #[48] }, 3, _, _, some (5, false)⟩) (v := ?v7n1k8) rfl (by kernel_rfl) (by kernel_rfl) (by kernel_rfl) (fun _ _ _ h => h) (Or.inl ⟨by rfl, ?y7n1k8⟩) hHeld ?z7n1k8
      case y7n1k8 => intro w hSw; (try dsimp only at hSw); go_simp <;> rfl
      try simp only [Act.put, List.setIfInBounds_toArray, List.set_cons_zero, List.set_cons_succ]
      refine wpAnyH_take (i := 8) (oi := ⟨some 48, Op.move (Operand.tmp 5), 24, _, _, some (5, false)⟩) (v := ?v8n1k9) rfl (by kernel_rfl) (by kernel_rfl) (by kernel_rfl) (fun _ _ _ h => h) (Or.inl ⟨by rfl, ?y8n1k9⟩) hHeld ?z8n1k9
      case y8n1k9 => intro w hSw; (try dsimp only at hSw); go_simp <;> rfl
      try simp only [Act.put, List.setIfInBounds_toArray, List.set_cons_zero, List.set_cons_succ]
      refine wpAnyH_take (i := 10) (oi := ⟨some 50, Op.move (Operand.tmp 6), 24, _, _, some (5, false)⟩) (v := ?v10n1k10) rfl (by kernel_rfl) (by kernel_rfl) (by kernel_rfl) (fun _ _ _ h => h) (Or.inl ⟨by rfl, ?y10n1k10⟩) hHeld ?z10n1k10
      case y10n1k10 => intro w hSw; (try dsimp only at hSw); go_simp <;> rfl
      try simp only [Act.put, List.setIfInBounds_toArray, List.set_cons_zero, List.set_cons_succ]
      refine wpAnyH_ready (rs := [9]) (by kernel_rfl) (by simp) ?_
      refine AllReadyH.cons (o := ⟨some 49, Op.call { callee := Callee.value (Operand.func 17), args := #[Operand.tmp 48], argTypes := #[24] }, 3, _, _, some (5, false)⟩) rfl (fun K hK => ?_) AllReadyH.nil
      go_simp
      refine QX.out.mono ?_
      rintro e w8 ⟨rfl, rfl⟩
      dsimp only
      refine hK.out _ _ ⟨cc7, cc8⟩ (fun hHeld => ?_)
      clear hK K
      try simp only [Act.put, List.setIfInBounds_toArray, List.set_cons_zero, List.set_cons_succ]
      refine wpAnyH_ready (rs := [11]) (by kernel_rfl) (by simp) ?_
      refine AllReadyH.cons (o := ⟨some 51, Op.call { callee := Callee.value (Operand.func 17), args := #[Operand.tmp 50], argTypes := #[24] }, 3, _, _, some (5, false)⟩) rfl (fun K hK => ?_) AllReadyH.nil
      go_simp
      refine QY.out.mono ?_
      rintro e w8 ⟨rfl, rfl⟩
      dsimp only
      refine hK.out _ _ ⟨cc7, cc8⟩ (fun hHeld => ?_)
      clear hK K
      try simp only [Act.put, List.setIfInBounds_toArray, List.set_cons_zero, List.set_cons_succ]
      refine wpAnyH_take (i := 12) (oi := ⟨some 52, Op.binOp BinOp.add 3 (Operand.tmp 49) (Operand.tmp 51) 3, 3, _, _, some (5, false)⟩) (v := ?v12n1k11) rfl (by kernel_rfl) (by kernel_rfl) (by kernel_rfl) (fun _ _ _ h => h) (Or.inl ⟨by rfl, ?y12n1k11⟩) hHeld ?z12n1k11
      case y12n1k11 => intro w hSw; (try dsimp only at hSw); go_simp <;> rfl
      try simp only [Act.put, List.setIfInBounds_toArray, List.set_cons_zero, List.set_cons_succ]
      refine wpAnyH_take (i := 13) (oi := ⟨some 53, Op.binOp BinOp.gtr 3 (Operand.tmp 47) (Operand.tmp 52) 3, 4, _, _, some (5, false)⟩) (v := ?v13n1k12) rfl (by kernel_rfl) (by kernel_rfl) (by kernel_rfl) (fun _ _ _ h => h) (Or.inl ⟨by rfl, ?y13n1k12⟩) hHeld ?z13n1k12
      case y13n1k12 => intro w hSw; (try dsimp only at hSw); go_simp <;> rfl
      try simp only [Act.put, List.setIfInBounds_toArray, List.set_cons_zero, List.set_cons_succ]
      refine wpAnyH_take (i := 14) (oi := ⟨some 54, Op.pick (Operand.tmp 45) (Operand.const (Value.bool true)) (Operand.tmp 53), 4, _, _, none⟩) (v := ?v14n1k13) rfl (by kernel_rfl) (by kernel_rfl) (by kernel_rfl) (fun _ _ _ h => h) (Or.inl ⟨by rfl, ?y14n1k13⟩) hHeld ?z14n1k13
      case y14n1k13 => intro w hSw; (try dsimp only at hSw); go_simp <;> rfl
      try simp only [Act.put, List.setIfInBounds_toArray, List.set_cons_zero, List.set_cons_succ]
      refine wpAnyH_take (i := 15) (oi := ⟨some 55, Op.move (Operand.tmp 54), 4, _, _, none⟩) (v := ?v15n1k14) rfl (by kernel_rfl) (by kernel_rfl) (by kernel_rfl) (fun _ _ _ h => h) (Or.inl ⟨by rfl, ?y15n1k14⟩) hHeld ?z15n1k14
      case y15n1k14 => intro w hSw; (try dsimp only at hSw); go_simp <;> rfl
      try simp only [Act.put, List.setIfInBounds_toArray, List.set_cons_zero, List.set_cons_succ]
      refine wpAnyH_take (i := 16) (oi := ⟨some 56, Op.load 48 (Operand.tmp 7), 48, _, _, some (15, false)⟩) (v := ?v16n1k15) rfl (by kernel_rfl) (by kernel_rfl) (by kernel_rfl) (fun _ _ _ h => h) (Or.inl ⟨by rfl, ?y16n1k15⟩) hHeld ?z16n1k15
      case y16n1k15 => intro w hSw; (try dsimp only at hSw); go_simp <;> rfl
      try simp only [Act.put, List.setIfInBounds_toArray, List.set_cons_zero, List.set_cons_succ]
      refine wpAnyH_take (i := 17) (oi := ⟨some 57, Op.call { callee := Callee.builtin Builtin.len, args := #[Operand.tmp 56], argTypes := #[48] }, 3, _, _, some (15, false)⟩) (v := ?v17n1k16) rfl (by kernel_rfl) (by kernel_rfl) (by kernel_rfl) (fun _ _ _ h => h) (Or.inl ⟨by rfl, ?y17n1k16⟩) hHeld ?z17n1k16
      case y17n1k16 => intro w hSw; (try dsimp only at hSw); go_simp <;> rfl
      try simp only [Act.put, List.setIfInBounds_toArray, List.set_cons_zero, List.set_cons_succ]
      refine wpAnyH_take (i := 18) (oi := ⟨some 58, Op.move (Operand.tmp 5), 24, _, _, some (15, false)⟩) (v := ?v18n1k17) rfl (by kernel_rfl) (by kernel_rfl) (by kernel_rfl) (fun _ _ _ h => h) (Or.inl ⟨by rfl, ?y18n1k17⟩) hHeld ?z18n1k17
      case y18n1k17 => intro w hSw; (try dsimp only at hSw); go_simp <;> rfl
      try simp only [Act.put, List.setIfInBounds_toArray, List.set_cons_zero, List.set_cons_succ]
      refine wpAnyH_take (i := 20) (oi := ⟨some 60, Op.move (Operand.tmp 6), 24, _, _, some (15, false)⟩) (v := ?v20n1k18) rfl (by kernel_rfl) (by kernel_rfl) (by kernel_rfl) (fun _ _ _ h => h) (Or.inl ⟨by rfl, ?y20n1k18⟩) hHeld ?z20n1k18
      case y20n1k18 => intro w hSw; (try dsimp only at hSw); go_simp <;> rfl
      try simp only [Act.put, List.setIfInBounds_toArray, List.set_cons_zero, List.set_cons_succ]
      refine wpAnyH_ready (rs := [19]) (by kernel_rfl) (by simp) ?_
      refine AllReadyH.cons (o := ⟨some 59, Op.call { callee := Callee.value (Operand.func 17), args := #[Operand.tmp 58], argTypes := #[24] }, 3, _, _, some (15, false)⟩) rfl (fun K hK => ?_) AllReadyH.nil
      go_simp
      refine QX.out.mono ?_
      rintro e w8 ⟨rfl, rfl⟩
      dsimp only
      refine hK.out _ _ ⟨cc7, cc8⟩ (fun hHeld => ?_)
      clear hK K
      try simp only [Act.put, List.setIfInBounds_toArray, List.set_cons_zero, List.set_cons_succ]
      refine wpAnyH_ready (rs := [21]) (by kernel_rfl) (by simp) ?_
      refine AllReadyH.cons (o := ⟨some 61, Op.call { callee := Callee.value (Operand.func 17), args := #[Operand.tmp 60], argTypes := #[24] }, 3, _, _, some (15, false)⟩) rfl (fun K hK => ?_) AllReadyH.nil
      go_simp
      refine QY.out.mono ?_
      rintro e w8 ⟨rfl, rfl⟩
      dsimp only
      refine hK.out _ _ ⟨cc7, cc8⟩ (fun hHeld => ?_)
      clear hK K
      try simp only [Act.put, List.setIfInBounds_toArray, List.set_cons_zero, List.set_cons_succ]
      refine wpAnyH_take (i := 22) (oi := ⟨some 62, Op.call { callee := Callee.builtin Builtin.max, args := #[Operand.tmp 59, Operand.tmp 61], argTypes := #[3, 3] }, 3, _, _, some (15, false)⟩) (v := ?v22n1k19) rfl (by kernel_rfl) (by kernel_rfl) (by kernel_rfl) (fun _ _ _ h => h) (Or.inl ⟨by rfl, ?y22n1k19⟩) hHeld ?z22n1k19
      case y22n1k19 => intro w hSw; (try dsimp only at hSw); go_simp <;> rfl
      try simp only [Act.put, List.setIfInBounds_toArray, List.set_cons_zero, List.set_cons_succ]
      refine wpAnyH_take (i := 23) (oi := ⟨some 63, Op.binOp BinOp.lss 3 (Operand.tmp 57) (Operand.tmp 62) 3, 4, _, _, some (15, false)⟩) (v := ?v23n1k20) rfl (by kernel_rfl) (by kernel_rfl) (by kernel_rfl) (fun _ _ _ h => h) (Or.inl ⟨by rfl, ?y23n1k20⟩) hHeld ?z23n1k20
      case y23n1k20 => intro w hSw; (try dsimp only at hSw); go_simp <;> rfl
      try simp only [Act.put, List.setIfInBounds_toArray, List.set_cons_zero, List.set_cons_succ]
      refine wpAnyH_take (i := 24) (oi := ⟨some 64, Op.pick (Operand.tmp 55) (Operand.const (Value.bool true)) (Operand.tmp 63), 4, _, _, none⟩) (v := ?v24n1k21) rfl (by kernel_rfl) (by kernel_rfl) (by kernel_rfl) (fun _ _ _ h => h) (Or.inl ⟨by rfl, ?y24n1k21⟩) hHeld ?z24n1k21
      case y24n1k21 => intro w hSw; (try dsimp only at hSw); go_simp <;> rfl
      try simp only [Act.put, List.setIfInBounds_toArray, List.set_cons_zero, List.set_cons_succ]
      refine wpAnyH_done (by kernel_rfl) ?_ _
      refine NoPanic.normal ?_
      clear hHeld cc8 QX QY
      have HE2 : Hid (BothE w B7 B8 D1 D2 kn A7 c7 A8 c8 KS W2.drew) := Lib.hid HE.out.drew
      clear HE
      generalize W2.drew = W3 at HE2 cc7 ⊢
      go_wp2_with fail
      go_loopw [67] (fun v wr => ∃ k : Nat, k ≤ kn ∧ v = .int .i64 (k : Int) ∧ Hid (BothE w B7 B8 D1 D2 kn A7 c7 A8 c8 KS wr)) (fun v _ => kn - (intOf v).toNat)
      case atStart => exact ⟨0, Nat.zero_le _, rfl, HE2⟩
      case round =>
        clear HE2 cc7
        obtain ⟨k, hk, rfl, HB⟩ := hrel
        by_cases hlt : k < kn
        · obtain ⟨z, hzk⟩ : ∃ z, KS[k]? = some z := ⟨KS[k]'(by rw [← HKN.out]; exact hlt), List.getElem?_eq_getElem _⟩
          have HB2 : Hid (BothE w B7 B8 D1 D2 kn A7 c7 A8 c8 KS wr.drew) := Lib.hid HB.out.drew
          obtain ⟨ga, rfl, ca⟩ := ints_at HB2.out.o7 hzk
          obtain ⟨gb, rfl, cb⟩ := ints_at HB2.out.o8 hzk
          have cc7 : wr.drew.cell? ⟨B7, 0, none⟩ = some (.slice (some ⟨ga, 0, none⟩) kn c7) := cell_of_row _ _ _ _ _ _ HB2.out.g7
          have cc8 : wr.drew.cell? ⟨B8, 0, none⟩ = some (.slice (some ⟨gb, 0, none⟩) kn c8) := cell_of_row _ _ _ _ _ _ HB2.out.g8
          have hki : (k : Int) < kn := by omega
          clear HB hzk
          go_upto_region 16 with (fail)
          refine wp_region_noPanic ?_
          refine wp_region_held_drew (S := fun w' => w'.cell? ⟨B7, 0, none⟩ = some (.slice (some ⟨ga, 0, none⟩) kn c7) ∧ w'.cell? ⟨B8, 0, none⟩ = some (.slice (some ⟨gb, 0, none⟩) kn c8) ∧ w'.cell? ⟨ga, k, none⟩ = some (.int .i64 z) ∧ w'.cell? ⟨gb, k, none⟩ = some (.int .i64 z)) (by kernel_rfl) ⟨cc7, cc8, ca, cb⟩ (fun hHeld => ?_)
          refine wpAnyH_take (i := 0) (oi := ⟨some 70, Op.load 48 (Operand.tmp 7), 48, _, _, none⟩) (v := ?v0n2k1) rfl (by kernel_rfl) (by kernel_rfl) (by kernel_rfl) (fun _ _ _ h => h) (Or.inl ⟨by rfl, ?y0n2k1⟩) hHeld ?z0n2k1
          case y0n2k1 => intro w hSw; (try dsimp only at hSw); go_simp <;> rfl
          try simp only [Act.put, List.setIfInBounds_toArray, List.set_cons_zero, List.set_cons_succ]
          refine wpAnyH_take (i := 1) (oi := ⟨some 71, Op.move (Operand.tmp 11), 3, _, _, none⟩) (v := ?v1n2k2) rfl (by kernel_rfl) (by kernel_rfl) (by kernel_rfl) (fun _ _ _ h => h) (Or.inl ⟨by rfl, ?y1n2k2⟩) hHeld ?z1n2k2
          case y1n2k2 => intro w hSw; (try dsimp only at hSw); go_simp <;> rfl
          try simp only [Act.put, List.setIfInBounds_toArray, List.set_cons_zero, List.set_cons_succ]
          refine wpAnyH_take (i := 2) (oi := ⟨some 72, Op.indexAddr 48 (Operand.tmp 70) (Operand.tmp 71), 0, _, _, none⟩) (v := ?v2n2k3) rfl (by kernel_rfl) (by kernel_rfl) (by kernel_rfl) (fun _ _ _ h => h) (Or.inl ⟨by rfl, ?y2n2k3⟩) hHeld ?z2n2k3
          case y2n2k3 => intro w hSw; (try dsimp only at hSw); go_simp <;> rfl
          try simp only [Act.put, List.setIfInBounds_toArray, List.set_cons_zero, List.set_cons_succ]
          refine wpAnyH_take (i := 3) (oi := ⟨some 73, Op.load 3 (Operand.tmp 72), 3, _, _, none⟩) (v := ?v3n2k4) rfl (by kernel_rfl) (by kernel_rfl) (by kernel_rfl) (fun _ _ _ h => h) (Or.inl ⟨by rfl, ?y3n2k4⟩) hHeld ?z3n2k4
          case y3n2k4 => intro w hSw; (try dsimp only at hSw); go_simp <;> rfl
          try simp only [Act.put, List.setIfInBounds_toArray, List.set_cons_zero, List.set_cons_succ]
          refine wpAnyH_take (i := 4) (oi := ⟨some 74, Op.load 48 (Operand.tmp 8), 48, _, _, none⟩) (v := ?v4n2k5) rfl (by kernel_rfl) (by kernel_rfl) (by kernel_rfl) (fun _ _ _ h => h) (Or.inl ⟨by rfl, ?y4n2k5⟩) hHeld ?z4n2k5
          case y4n2k5 => intro w hSw; (try dsimp only at hSw); go_simp <;> rfl
          try simp only [Act.put, List.setIfInBounds_toArray, List.set_cons_zero, List.set_cons_succ]
          refine wpAnyH_take (i := 5) (oi := ⟨some 75, Op.move (Operand.tmp 11), 3, _, _, none⟩) (v := ?v5n2k6) rfl (by kernel_rfl) (by kernel_rfl) (by kernel_rfl) (fun _ _ _ h => h) (Or.inl ⟨by rfl, ?y5n2k6⟩) hHeld ?z5n2k6
          case y5n2k6 => intro w hSw; (try dsimp only at hSw); go_simp <;> rfl
          try simp only [Act.put, List.setIfInBounds_toArray, List.set_cons_zero, List.set_cons_succ]
          refine wpAnyH_take (i := 6) (oi := ⟨some 76, Op.indexAddr 48 (Operand.tmp 74) (Operand.tmp 75), 0, _, _, none⟩) (v := ?v6n2k7) rfl (by kernel_rfl) (by kernel_rfl) (by kernel_rfl) (fun _ _ _ h => h) (Or.inl ⟨by rfl, ?y6n2k7⟩) hHeld ?z6n2k7
          case y6n2k7 => intro w hSw; (try dsimp only at hSw); go_simp <;> rfl
          try simp only [Act.put, List.setIfInBounds_toArray, List.set_cons_zero, List.set_cons_succ]
          refine wpAnyH_take (i := 7) (oi := ⟨some 77, Op.load 3 (Operand.tmp 76), 3, _, _, none⟩) (v := ?v7n2k8) rfl (by kernel_rfl) (by kernel_rfl) (by kernel_rfl) (fun _ _ _ h => h) (Or.inl ⟨by rfl, ?y7n2k8⟩) hHeld ?z7n2k8
          case y7n2k8 => intro w hSw; (try dsimp only at hSw); go_simp <;> rfl
          try simp only [Act.put, List.setIfInBounds_toArray, List.set_cons_zero, List.set_cons_succ]
          refine wpAnyH_take (i := 8) (oi := ⟨some 78, Op.binOp BinOp.neq 3 (Operand.tmp 73) (Operand.tmp 77) 3, 4, _, _, none⟩) (v := ?v8n2k9) rfl (by kernel_rfl) (by kernel_rfl) (by kernel_rfl) (fun _ _ _ h => h) (Or.inl ⟨by rfl, ?y8n2k9⟩) hHeld ?z8n2k9
          case y8n2k9 => intro w hSw; (try dsimp only at hSw); go_simp <;> rfl
          try simp only [Act.put, List.setIfInBounds_toArray, List.set_cons_zero, List.set_cons_succ]
          refine wpAnyH_done (by kernel_rfl) ?_ _
          refine NoPanic.normal ?_
          clear hHeld cc7 cc8 ca cb
          generalize wr.drew = wr2 at HB2 ⊢
          go_wp2
          go_roundw
          case rel => exact ⟨k + 1, by omega, by go_num, HB2⟩
          case measure => simp [intOf]; omega
        · obtain rfl : k = kn := by omega
          have x2 : (wr.putObj D2 (.deferred none)).heap[D1]? = some (.deferred (some [])) := (World.putObj_heap_other (by omega)).trans HB.out.d1
          have st : Abide II.TT w.heap.size wr ((wr.putObj D2 (.deferred none)).putObj D1 (.deferred none)) := (Abide.putObj _ hDw2 HB.out.d2 rfl).trans (Abide.putObj _ hDw x2 rfl)
          have FIN := Lib.hid (Abide.kept HB.out.world st (Nat.le_refl _))
          have X2 := Lib.hid x2
          have X1 := Lib.hid HB.out.d2
          clear HB x2 st
          go_wp2
          refine ⟨by simp, .inl ⟨_, _, rfl, run_takeDeferred X1.out, ?_⟩⟩
          refine ⟨by simp, .inl ⟨_, _, rfl, run_takeDeferred X2.out, ?_⟩⟩
          exact ⟨_, results_tmp rfl _ _ _, rfl, FIN.out⟩
    case stop2 =>
      rintro D c pre W _ _ h _
      exact h.elim
  case stop =>
    rintro D c pre W _ _ h _
    exact h.elim
end Go.Proofs.Ytohanlhfbfodlaa
