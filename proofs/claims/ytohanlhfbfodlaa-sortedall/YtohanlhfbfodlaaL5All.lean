/-
  SortedAll: what it does with whatever deeds. No statement is proved here.
-/
import Derived.Test.YtohanlhfbfodlaaL5Merge
import Derived.Test.YtohanlhfbfodlaaL5Grow
import Derived.Test.YtohanlhfbfodlaaL5One
import Derived.Test.YtohanlhfbfodlaaL5Pos
import Derived.Test.YtohanlhfbfodlaaSortedFrom
import Derived.IntWalk
namespace Go.Proofs.Ytohanlhfbfodlaa
open Go.RowKit Go.Shelf
attribute [local go_sem] Oper.semAt_some

set_option maxRecDepth 100000 in
set_option maxHeartbeats 4000000 in
theorem all_walk (F : Nat → Prop) (a : Option Addr) (n c : Nat) (xs : List ActV) (fr : Int) (st : Nat) (w : World) (h : Lies w F a (actCells xs)) (hx : ∀ x ∈ xs, x.fit) (hl : xs.length = n) (hc : n ≤ c)
    (hf1 : -128 ≤ fr) (hf2 : fr ≤ 127) (hst : st ≤ 255) :
    Calls Try.prog 4 #[.slice a n c, .int .i8 fr, .int .u8 (st : Int)] w fun e w' => e = .returned (.bool true) ∧ Kept noBlock w w' := by
  have OF := Lib.hid (fun W (kW : Kept noBlock w W) => of_any F a n c xs W (h.keep kW (fun _ _ h => h)) hx hl hc)
  have hsm : (ofL (xs.take 60)).length ≤ 60 := by have := ofL_len (xs.take 60); have := List.length_take_le 60 xs; omega
  have hmx : Small (ofL (xs.take 60)) := ofL_small (fun x hx' => hx x (List.mem_of_mem_take hx'))
  obtain ⟨L, hL⟩ : ∃ L, L = ofL (xs.take 60) := ⟨_, rfl⟩
  have hup : Srt.Up L := by rw [hL]; exact ofL_up _
  rw [← hL] at OF hsm hmx
  have HUP := Lib.hid hup
  have HSM := Lib.hid hmx
  clear h hx hl hL hup hc hmx
  refine (callsIn_wide (n := 3)).1 ?_
  refine callsIn_of_wp_marks Try.func4 rfl trivial ?_ rfl
  simp only [Try.ntmps4, List.size_toArray, List.length_cons, List.length_nil, Nat.reduceAdd, Nat.reduceSub, Array.replicate_succ, Array.replicate_zero, List.push_toArray, List.append_toArray, List.nil_append, List.cons_append]
  refine wpIn_wide.2 ?_
  go_wp2_with fail
  have a5 := heap_alloc2_old w (.cells #[.int .u8 (st : Int)] 5) (.cells #[.bool false] 4)
  have a6 := heap_alloc2_new w (.cells #[.int .u8 (st : Int)] 5) (.cells #[.bool false] 4)
  have k6 : Kept noBlock w ((w.alloc (.cells #[.int .u8 (st : Int)] 5)).alloc (.cells #[.bool false] 4)) := (Kept.alloc _ _ _).step (Kept.alloc _ _ _)
  have s6 : ((w.alloc (.cells #[.int .u8 (st : Int)] 5)).alloc (.cells #[.bool false] 4)).heap.size = w.heap.size + 1 + 1 := by simp
  obtain ⟨B6, hB6⟩ : ∃ B6, B6 = w.heap.size + 1 := ⟨_, rfl⟩
  obtain ⟨B5, hB5⟩ : ∃ B5, B5 = w.heap.size := ⟨_, rfl⟩
  rw [← hB5] at a5
  rw [← hB6] at a6
  rw [← hB6, ← hB5]
  have HB5 := Lib.hid hB5
  have HB6 := Lib.hid hB6
  clear hB5 hB6
  generalize ((w.alloc (.cells #[.int .u8 (st : Int)] 5)).alloc (.cells #[.bool false] 4)) = w0 at a5 a6 k6 s6 ⊢
  refine (awake_any w0).mono ?_
  rintro e w1 ⟨rfl, k1⟩
  have A5 := Lib.hid (k1.blk a5 (fun h => h))
  have A6 := Lib.hid (k1.blk a6 (fun h => h))
  have K1 := Lib.hid (k6.step k1)
  have hs1 : w.heap.size + 1 + 1 ≤ w1.heap.size := by have := k1.size; omega
  clear a5 a6 k6 k1 s6
  go_wp2_with fail
  refine (OF.out w1 K1.out).mono ?_
  rintro e w2 ⟨m, rfl, o2, k2⟩
  obtain ⟨FF, m2, f2⟩ := o2
  have KK : Kept noBlock w2 ((w2.alloc (.cells #[.pointer (some ⟨m, 0, none⟩)] 24)).alloc (.cells #[.slice none 0 0] 48)) := (Kept.alloc _ _ _).step (Kept.alloc _ _ _)
  have r7 : ((w2.alloc (.cells #[.pointer (some ⟨m, 0, none⟩)] 24)).alloc (.cells #[.slice none 0 0] 48)).heap[w2.heap.size]? = some (.cells #[.pointer (some ⟨m, 0, none⟩)] 24 (0, 0)) := heap_alloc2_old _ _ _
  have r8 : ((w2.alloc (.cells #[.pointer (some ⟨m, 0, none⟩)] 24)).alloc (.cells #[.slice none 0 0] 48)).heap[w2.heap.size + 1]? = some (.cells #[.slice none 0 0] 48 (0, 0)) := heap_alloc2_new _ _ _
  have R5 := Lib.hid (KK.blk (k2.blk A5.out (fun h => h)) (fun h => h))
  have R6 := Lib.hid (KK.blk (k2.blk A6.out (fun h => h)) (fun h => h))
  have R7 := Lib.hid r7
  have R8 := Lib.hid r8
  have MP := Lib.hid (m2.kept KK)
  have KW := Lib.hid ((K1.out.step k2).step KK)
  have HFL : Hid (∀ i, FF i → w.heap.size + 2 ≤ i ∧ i < w2.heap.size) := Lib.hid (fun i hi => ⟨by have := f2 i hi; omega, m2.lt i hi⟩)
  have hs2 : w.heap.size + 2 ≤ w2.heap.size := by have := k2.size; omega
  clear r7 r8 KK m2 f2 k2 A5 A6 K1 OF hs1
  go_wp2_with fail
  obtain ⟨B8, hB8⟩ : ∃ B8, B8 = w2.heap.size + 1 := ⟨_, rfl⟩
  obtain ⟨B7, hB7⟩ : ∃ B7, B7 = w2.heap.size := ⟨_, rfl⟩
  have hord : B5 < B6 ∧ B6 < B7 ∧ B7 < B8 ∧ w.heap.size ≤ B5 ∧ (∀ i, FF i → B6 < i ∧ i < B7) := by
    have h5 := HB5.out
    have h6 := HB6.out
    exact ⟨by omega, by omega, by omega, by omega, fun i hi => by have := HFL.out i hi; omega⟩
  have HORD := Lib.hid hord
  rw [← hB7] at R7
  rw [← hB8] at R8
  rw [← hB8, ← hB7]
  generalize ((w2.alloc (.cells #[.pointer (some ⟨m, 0, none⟩)] 24)).alloc (.cells #[.slice none 0 0] 48)) = w3 at R5 R6 R7 R8 MP KW ⊢
  clear hB8 hB7 hs2 HFL HB5 HB6 hord
  have c7 : w3.cell? ⟨B7, 0, none⟩ = some (.pointer (some ⟨m, 0, none⟩)) := cell_of_row _ _ _ _ _ _ R7.out
  refine (II.all_any m _).mono ?_
  rintro e wc ⟨rfl, bc, kc⟩
  have C5 := Lib.hid (kc.blk R5.out (fun h => h))
  have C6 := Lib.hid (kc.blk R6.out (fun h => h))
  have C7 := Lib.hid (kc.blk R7.out (fun h => h))
  have C8 := Lib.hid (kc.blk R8.out (fun h => h))
  have MPc := Lib.hid (MP.out.kept kc)
  have KWc := Lib.hid (KW.out.step kc)
  have HR := Lib.hid (II.all1_runs _ FF m L wc bc MPc.out)
  have I0 : Hid (GrowI wc B8 (([] : List (Int × Int)).map Prod.fst) wc) := Lib.hid ⟨⟨none, 0, C8.out, World.ownsRow_nil _ _ _ _⟩, Kept.refl _ _⟩
  clear bc kc R5 R6 R7 R8 MP KW c7
  generalize w3.heap.size = b1 at HR ⊢
  go_wp2_with fail
  refine (wpIn_wide (n := 3)).1 ?_
  refine wpIn_runs_to rfl (enters_of Try.func34 (by kernel_rfl) rfl) HR.out (Kept.refl _ _) (fun _ => rfl) (fun p => [(9, II.ek p.1), (10, II.ev p.2)]) (fun pre W => Hid (GrowI wc B8 (pre.map Prod.fst) W)) (fun _ _ _ => False)
    (fun s A B h k => Lib.hid (h.out.abide k)) (fun _ _ _ _ h _ => h) I0 ?assign ?body ?done ?stop
  case assign =>
    intro l p W K hK
    dsimp only [II.enc]
    simp only [landed, List.foldl_cons, List.foldl_nil, List.zip_toArray, List.zip_cons_cons, List.zip_nil_right, II.enc, List.foldl_toArray, List.setIfInBounds_toArray, List.set_cons_zero, List.set_cons_succ] at hK
    gi_wp2
    exact hK
  case body =>
    rintro l pre p rest W hLL hI
    simp only [landed, List.foldl_cons, List.foldl_nil, List.zip_toArray, List.zip_cons_cons, List.zip_nil_right, II.enc, List.foldl_toArray, List.setIfInBounds_toArray, List.set_cons_zero, List.set_cons_succ]
    obtain ⟨pk, pv⟩ := p
    have hpm : (pk, pv) ∈ L := by rw [hLL]; simp
    have hlk := Srt.look_of_mem HUP.out hpm
    have mp := MPc.out.keep hI.out.kept (fun i hi e => by have := HORD.out.2.2.2.2 i hi; have := HORD.out.2.2.1; omega)
    have g1 := II.get_any FF m L pk W mp
    rw [hlk, (Srt.has_iff _ _).2 ⟨_, hlk⟩, Option.getD_some] at g1
    have G1 := Lib.hid g1
    have c7 : W.cell? ⟨B7, 0, none⟩ = some (.pointer (some ⟨m, 0, none⟩)) := cell_of_row _ _ _ _ _ _ (hI.out.kept.blk C7.out (by have := HORD.out.2.2.1; omega))
    have hpl : pre.length + 1 ≤ 60 := by rw [hLL] at hsm; simp at hsm; omega
    obtain ⟨P, hP⟩ : ∃ P, P = pre.map Prod.fst := ⟨_, rfl⟩
    have HP1 : Hid ((pre ++ [(pk, pv)]).map Prod.fst = P ++ [pk]) := Lib.hid (by simp [hP])
    have hpl2 : P.length + 1 ≤ 60 := by rw [hP, List.length_map]; exact hpl
    have HLT : Hid (∀ z ∈ P, z < pk) := Lib.hid (fun z hz => by
      rw [hP] at hz
      obtain ⟨r, hr, rfl⟩ := List.mem_map.1 hz
      have hu := HUP.out
      rw [hLL] at hu
      have := (List.pairwise_append.1 hu).2.2 r hr (pk, pv) (by simp)
      simpa [Tot.lt] using this)
    have HI : Hid (GrowI wc B8 P W) := by rw [hP]; exact hI
    unfold II.ek II.ev
    unfold II.ek II.ev at G1
    dsimp only
    clear hpm hlk mp g1 hI hLL hP hpl
    gi_wp2_with fail
    refine ⟨trivial, ?_⟩
    refine (CallsIn.inRound l (callsIn_wide.2 G1.out)).mono ?_
    rintro e w7 ⟨rfl, k7⟩
    have KF := Lib.hid (keepsFrom_kept (B := wc.heap.size) k7 (fun _ _ h => h.elim))
    have SP := Lib.hid (Spares.of_kept (U := II.UU) k7)
    have H7 := Lib.hid (HI.out.keptBy k7)
    clear k7 HI G1 c7
    obtain ⟨R, rc, g8, gown⟩ := H7.out.row
    have c8 : w7.cell? ⟨B8, 0, none⟩ = some (.slice R P.length rc) := cell_of_row _ _ _ _ _ _ g8
    have G8 := Lib.hid g8; clear g8
    have GO := Lib.hid gown; clear gown
    have NX : Hid (∀ A' c' wz, wz.ownsRow 0 3 1 (.slice A' (P.length + 1) c') (P.length + 1) (ints P ++ [.int .i64 pk]) → Grew (w7.alloc (.cells #[.int .i64 pk] 3)) wz (.slice R P.length rc) (.slice A' (P.length + 1) c') → _) := Lib.hid (fun A' c' wz o1 g1 =>
      GrowI.next (m0 := wc.heap.size) (x := pk) H7.out G8.out GO.out (Kept.alloc noBlock w7 _) (by rw [ints_snoc]; exact o1) g1)
    obtain ⟨k, hke⟩ : ∃ k, k = P.length := ⟨_, rfl⟩
    have hrow := fun (z : Int) (q : Nat) (hq : P[q]? = some z) => ints_at GO.out hq
    rw [← hke] at c8 hpl2 G8 GO NX
    cases k with
    | zero =>
      clear hrow H7 hke HLT
      gi_wp2_with (gi_at_builtin; refine wpListIn_append_src rfl _ _ 48 48 rfl 3 (.int .i64 0) 1 8 Try.underlying48 infoInt rfl (.slice R 0 rc) 0 (ints P) rfl (own_base (base' := 0) (GO.out.alloc _) (fun _ _ => Nat.zero_le _)) _ 1 [.int .i64 pk] rfl (Src.ofSlice _ Try.underlying48 _ _ _ _ rfl (World.news_of_block (heap_alloc_new _ _)) (by intro u hu; simp at hu; subst hu; rfl)) ?c3 ?c4 ?_)
      case c3 => unfold maxLen; omega
      case c4 => left; omega
      intro A' c' w9 o9 g9
      obtain ⟨b9, n9⟩ := NX.out A' c' w9 o9 g9
      have c9 : w9.cell? ⟨B8, 0, none⟩ = some (.slice R 0 rc) := cell_of_row _ _ _ _ _ _ b9
      have f9 : w9.frozen? ⟨B8, 0, none⟩ = false := frozen_of_row _ _ _ _ _ b9
      have N9 := Lib.hid n9
      clear b9 n9 NX o9 g9 GO G8 c8
      gi_wp2
      exact ⟨KF.out.trans N9.out.1, SP.out.trans N9.out.2.1, Lib.hid (by rw [HP1.out]; exact N9.out.2.2)⟩
    | succ q =>
      obtain ⟨z, hz⟩ : ∃ z, P[q]? = some z := ⟨P[q]'(by omega), List.getElem?_eq_getElem _⟩
      have hzp := HLT.out z (List.mem_of_getElem? hz)
      obtain ⟨g, rfl, cz⟩ := hrow z q hz
      have hwq : IntKind.i64.wrap (q : Int) = (q : Int) := by rw [IntKind.wrap_i64]; omega
      have hnz : ¬ (pk ≤ z) := by omega
      clear hrow H7 hke HLT hz
      gi_wp2_with (gi_at_builtin; refine wpListIn_append_src rfl _ _ 48 48 rfl 3 (.int .i64 0) 1 8 Try.underlying48 infoInt rfl (.slice (some ⟨g, 0, none⟩) (q + 1) rc) (q + 1) (ints P) rfl (own_base (base' := 0) (GO.out.alloc _) (fun _ _ => Nat.zero_le _)) _ 1 [.int .i64 pk] rfl (Src.ofSlice _ Try.underlying48 _ _ _ _ rfl (World.news_of_block (heap_alloc_new _ _)) (by intro u hu; simp at hu; subst hu; rfl)) ?c5 ?c6 ?_)
      case c5 => unfold maxLen; omega
      case c6 => left; omega
      intro A' c' w9 o9 g9
      obtain ⟨b9, n9⟩ := NX.out A' c' w9 o9 g9
      have c9 : w9.cell? ⟨B8, 0, none⟩ = some (.slice (some ⟨g, 0, none⟩) (q + 1) rc) := cell_of_row _ _ _ _ _ _ b9
      have f9 : w9.frozen? ⟨B8, 0, none⟩ = false := frozen_of_row _ _ _ _ _ b9
      have N9 := Lib.hid n9
      clear b9 n9 NX o9 g9 GO G8 c8
      gi_wp2
      exact ⟨KF.out.trans N9.out.1, SP.out.trans N9.out.2.1, Lib.hid (by rw [HP1.out]; exact N9.out.2.2)⟩
  case done =>
    intro D1 W1 hD1 hI hK
    obtain ⟨KS, hKS⟩ : ∃ KS, KS = L.map Prod.fst := ⟨_, rfl⟩
    have hkl : KS.length = L.length := by rw [hKS, List.length_map]
    have hgi : GrowI wc B8 KS W1 := by rw [hKS]; exact hI.out
    obtain ⟨A8, c8, g8, o8⟩ := hgi.row
    obtain ⟨kn, hkn⟩ : ∃ kn, kn = KS.length := ⟨_, rfl⟩
    rw [← hkn] at g8 o8
    obtain ⟨q1, q2, q3, q4, q5⟩ := HORD.out
    have l8 := lt_of_blk C8.out
    have j1 : One w [(B8, .slice A8 kn c8, 48), (B7, .pointer (some ⟨m, 0, none⟩), 24), (B6, .bool false, 4), (B5, .int .u8 (st : Int), 5)] (.slice A8 kn c8) KS m L [D1] FF W1 := by
      refine ⟨by simp; omega, ?_, ?_, ?_, by rw [← hkn]; exact own_base (base' := 0) o8 (fun _ _ => Nat.zero_le _), ?_, MPc.out.keep hgi.kept (fun i hi e => by have := q5 i hi; omega), ?_, KWc.out.trans hgi.kept (fun i hi e => by omega), fun D hd => by simp at hd; subst hd; exact hK⟩
      · intro p hp; simp at hp; rcases hp with rfl | rfl | rfl | rfl <;> simp <;> omega
      · intro p hp; simp at hp; rcases hp with rfl | rfl | rfl | rfl <;> (unfold Plain; dsimp only; decide)
      · intro p hp; simp at hp
        rcases hp with rfl | rfl | rfl | rfl
        · exact g8
        · exact hgi.kept.blk C7.out (by omega)
        · exact hgi.kept.blk C6.out (by omega)
        · exact hgi.kept.blk C5.out (by omega)
      · intro g hg p hp
        have := (o8.lt g hg).1
        simp at hp; rcases hp with rfl | rfl | rfl | rfl <;> simp <;> omega
      · intro p hp hf
        have := q5 _ hf
        simp at hp; rcases hp with rfl | rfl | rfl | rfl <;> simp at this <;> omega
    have hDw : w.heap.size ≤ D1 := Nat.le_trans KWc.out.size hD1
    have c8' : W1.cell? ⟨B8, 0, none⟩ = some (.slice A8 kn c8) := cell_of_row _ _ _ _ _ _ g8
    have hkc : kn ≤ c8 := by obtain ⟨_, _, e, hle⟩ := own_form o8; injection e with _ _ e; omega
    have j2 := j1.alloc (.int .i64 (kn : Int)) 3 (by unfold Plain; decide)
    have c7 : (W1.alloc (.cells #[.int .i64 (kn : Int)] 3)).cell? ⟨B7, 0, none⟩ = some (.pointer (some ⟨m, 0, none⟩)) := j2.cell (t := 24) (by simp)
    have J2 := Lib.hid j2
    have HKS := Lib.hid hKS
    have HKN := Lib.hid hkn
    have hk60 : kn ≤ 60 := by omega
    have HKL : Hid (kn = L.length) := Lib.hid (by omega)
    clear hI hK hgi g8 o8 q1 q2 q3 q4 q5 l8 j1 j2 I0 HR C5 C6 C7 C8 MPc KWc hKS hkn hkl hD1 HORD
    go_wp2_with fail
    obtain ⟨B13, hB13⟩ : ∃ B13, B13 = W1.heap.size := ⟨_, rfl⟩
    rw [← hB13] at J2 ⊢
    generalize W1.alloc (.cells #[.int .i64 (kn : Int)] 3) = w5 at J2 c7 ⊢
    clear hB13 c8'
    refine (II.back_any m _).mono ?_
    rintro e wd ⟨rfl, bd, kd⟩
    have SD := Lib.hid (J2.out.kept kd)
    have HR := Lib.hid (II.back1_runs _ FF m L wd bd SD.out.map)
    have hwT := SD.out.world.size
    have HFF := Lib.hid (show ∀ i, FF i → i < wd.heap.size from SD.out.map.lt)
    have HNO : Hid (∀ D ∈ [D1], D < wd.heap.size) := Lib.hid (fun D h => lt_of_blk (SD.out.defs D h))
    clear J2 bd kd c7
    generalize w5.heap.size = b4 at HR ⊢
    go_wp2_with fail
    refine (wpIn_wide (n := 3)).1 ?_
    refine wpIn_runs_to rfl (enters_of Try.func36 (by kernel_rfl) rfl) HR.out (Kept.refl _ _) (fun _ => rfl) (fun p => [(14, II.ek p.1)]) (fun pre W => Hid (One w [(B13, .int .i64 ((kn - pre.length : Nat) : Int), 3), (B8, .slice A8 kn c8, 48), (B7, .pointer (some ⟨m, 0, none⟩), 24), (B6, .bool false, 4), (B5, .int .u8 (st : Int), 5)] (.slice A8 kn c8) KS m L [D1] FF W)) (fun _ _ _ => False)
      (fun s A B h k => Lib.hid (h.out.abide k HFF.out hwT HNO.out)) (fun _ _ _ _ h _ => h) SD ?assign2 ?body2 ?done2 ?stop2
    case assign2 =>
      intro l p W K hK
      dsimp only [II.enc]
      simp only [landed, List.foldl_cons, List.foldl_nil, List.zip_toArray, List.zip_cons_cons, List.zip_nil_right, II.enc, List.foldl_toArray, List.setIfInBounds_toArray, List.set_cons_zero, List.set_cons_succ] at hK
      gi_wp2
      exact hK
    case body2 =>
      rintro l pre p rest W hLL hI
      simp only [landed, List.foldl_cons, List.foldl_nil, List.zip_toArray, List.zip_cons_cons, List.zip_nil_right, II.enc, List.foldl_toArray, List.setIfInBounds_toArray, List.set_cons_zero, List.set_cons_succ]
      obtain ⟨pk, pv⟩ := p
      have hrev : L = rest.reverse ++ (pk, pv) :: pre.reverse := by
        have := congrArg List.reverse hLL
        simpa using this
      have hlen : kn = rest.length + 1 + pre.length := by have := HKL.out; rw [this, hrev]; simp; omega
      obtain ⟨q, hq⟩ : ∃ q, q = rest.length := ⟨_, rfl⟩
      have hkq : KS[q]? = some pk := by rw [HKS.out, hrev, hq]; simp
      have HI : Hid (One w [(B13, .int .i64 ((q : Int) + 1), 3), (B8, .slice A8 kn c8, 48), (B7, .pointer (some ⟨m, 0, none⟩), 24), (B6, .bool false, 4), (B5, .int .u8 (st : Int), 5)] (.slice A8 kn c8) KS m L [D1] FF W) := Lib.hid (by have := hI.out; rw [show ((kn - pre.length : Nat) : Int) = (q : Int) + 1 by omega] at this; exact this)
      have HQ : Hid (((kn - (pre ++ [(pk, pv)]).length : Nat) : Int) = (q : Int)) := Lib.hid (by simp; omega)
      have p1 := One.put (m0 := wd.heap.size) [] [(B8, .slice A8 kn c8, 48), (B7, .pointer (some ⟨m, 0, none⟩), 24), (B6, .bool false, 4), (B5, .int .u8 (st : Int), 5)] B13 (.int .i64 ((q : Int) + 1)) (.int .i64 (q : Int)) 3 HI.out
      obtain ⟨g, rfl, cz⟩ := ints_at (by have := p1.2.2.row; rw [← HKN.out] at this; exact this) hkq
      have c13 : W.cell? ⟨B13, 0, none⟩ = some (.int .i64 ((q : Int) + 1)) := HI.out.cell (t := 3) (by simp)
      have f13 : W.frozen? ⟨B13, 0, none⟩ = false := HI.out.froz (t := 3) (v := .int .i64 ((q : Int) + 1)) (by simp)
      have d13 : (W.setCell ⟨B13, 0, none⟩ (.int .i64 (q : Int))).cell? ⟨B13, 0, none⟩ = some (.int .i64 (q : Int)) := p1.2.2.cell (t := 3) (by simp)
      have d8 : (W.setCell ⟨B13, 0, none⟩ (.int .i64 (q : Int))).cell? ⟨B8, 0, none⟩ = some (.slice (some ⟨g, 0, none⟩) kn c8) := p1.2.2.cell (t := 48) (by simp)
      have hqk : (q : Int) < kn := by omega
      have hqk2 : q < kn := by omega
      have hwq : IntKind.i64.wrap (q : Int) = (q : Int) := by rw [IntKind.wrap_i64]; omega
      have hwq2 : IntKind.i64.wrap ((q : Int) + 1 - 1) = (q : Int) := by rw [IntKind.wrap_i64]; omega
      have P1 := Lib.hid p1
      unfold II.ek
      dsimp only
      clear p1 HI hI hLL hrev hlen hq hkq
      gi_wp2
      exact ⟨P1.out.1, P1.out.2.1, Lib.hid (by rw [HQ.out]; exact P1.out.2.2)⟩
    case done2 =>
      intro D2 W2 hD2 hI hK
      have hzero : ((kn - L.reverse.length : Nat) : Int) = 0 := by rw [List.length_reverse, ← HKL.out]; omega
      have hDw2 : w.heap.size ≤ D2 := Nat.le_trans hwT hD2
      have hDD : D1 < D2 := Nat.lt_of_lt_of_le (HNO.out D1 (by simp)) hD2
      have j3 := (hI.out.more hK).alloc (.int .i64 0) 3 (by unfold Plain; decide)
      rw [hzero] at j3
      have J3 := Lib.hid j3
      clear hI hK SD HR hwT HFF HNO hD2 hzero j3
      go_wp2_with fail
      obtain ⟨B15, hB15⟩ : ∃ B15, B15 = W2.heap.size := ⟨_, rfl⟩
      rw [← hB15] at J3 ⊢
      generalize W2.alloc (.cells #[.int .i64 0] 3) = w6 at J3 ⊢
      clear hB15
      go_loopw [] (fun wr => ∃ k : Nat, k ≤ kn ∧ Hid (∀ j z, j < k → KS[j]? = some z → z < fr) ∧ Hid (One w [(B15, .int .i64 (k : Int), 3), (B13, .int .i64 0, 3), (B8, .slice A8 kn c8, 48), (B7, .pointer (some ⟨m, 0, none⟩), 24), (B6, .bool false, 4), (B5, .int .u8 (st : Int), 5)] (.slice A8 kn c8) KS m L [D2, D1] FF wr)) (fun wr => match wr.cell? ⟨B15, 0, none⟩ with | some (.int _ z) => kn - z.toNat | _ => 0)
      case atStart => exact ⟨0, Nat.zero_le _, Lib.hid (fun j z h => by omega), J3⟩
      case round =>
        clear J3
        obtain ⟨k, hk, HLO, HJ⟩ := hrel
        have c15 : wr.cell? ⟨B15, 0, none⟩ = some (.int .i64 (k : Int)) := HJ.out.cell (t := 3) (by simp)
        have f15 : wr.frozen? ⟨B15, 0, none⟩ = false := HJ.out.froz (t := 3) (v := .int .i64 (k : Int)) (by simp)
        have cc8 : wr.cell? ⟨B8, 0, none⟩ = some (.slice A8 kn c8) := HJ.out.cell (t := 48) (by simp)
        have hwf : IntKind.i64.wrap fr = fr := by rw [IntKind.wrap_i64]; omega
        have hwk : IntKind.i64.wrap ((k : Int) + 1) = (k : Int) + 1 := by rw [IntKind.wrap_i64]; omega
        by_cases hlt : k < kn
        · obtain ⟨z, hzk⟩ : ∃ z, KS[k]? = some z := ⟨KS[k]'(by rw [← HKN.out]; exact hlt), List.getElem?_eq_getElem _⟩
          obtain ⟨g, rfl, cz⟩ := ints_at (by have := HJ.out.row; rw [← HKN.out] at this; exact this) hzk
          have hki : (k : Int) < kn := by omega
          by_cases hzf : z < fr
          · have p1 := One.put (m0 := 0) [] [(B13, .int .i64 0, 3), (B8, .slice (some ⟨g, 0, none⟩) kn c8, 48), (B7, .pointer (some ⟨m, 0, none⟩), 24), (B6, .bool false, 4), (B5, .int .u8 (st : Int), 5)] B15 (.int .i64 (k : Int)) (.int .i64 ((k : Int) + 1)) 3 HJ.out
            have d15 : (wr.setCell ⟨B15, 0, none⟩ (.int .i64 ((k : Int) + 1))).cell? ⟨B15, 0, none⟩ = some (.int .i64 ((k : Int) + 1)) := p1.2.2.cell (t := 3) (by simp)
            have HLO2 : Hid (∀ j z, j < k + 1 → KS[j]? = some z → z < fr) := Lib.hid (fun j y hj hy => by
              rcases Nat.lt_or_ge j k with h1 | h1
              · exact HLO.out j y h1 hy
              · have : j = k := by omega
                subst this
                rw [hzk] at hy
                injection hy with hy
                omega)
            have P1 := Lib.hid p1.2.2
            clear p1 HLO hzk HJ
            go_wp2
            go_roundw
            case rel => exact ⟨k + 1, by omega, HLO2, P1⟩
            case measure => rw [d15, c15]; simp; omega
          · have HHI : Hid (∀ y, KS[k]? = some y → ¬ y < fr) := Lib.hid (fun y hy => by rw [hzk] at hy; injection hy with hy; omega)
            have hzf2 : ¬ (z < fr) := hzf
            clear hzk
            have hpos : k = Srt.pos L fr := at_pos HUP.out (by have := HKL.out; omega) (by rw [← HKS.out]; exact HLO.out) (by rw [← HKS.out]; exact HHI.out)
            have HPOS := Lib.hid hpos
            have j4 := HJ.out.alloc (.int .i64 0) 3 (by unfold Plain; decide)
            have c7 : (wr.alloc (.cells #[.int .i64 0] 3)).cell? ⟨B7, 0, none⟩ = some (.pointer (some ⟨m, 0, none⟩)) := j4.cell (t := 24) (by simp)
            have J4 := Lib.hid j4
            clear j4 HLO HJ hpos
            go_wp2_with fail
            obtain ⟨B16, hB16⟩ : ∃ B16, B16 = wr.heap.size := ⟨_, rfl⟩
            rw [← hB16] at J4 ⊢
            generalize wr.alloc (.cells #[.int .i64 0] 3) = w7 at J4 c7 ⊢
            clear hB16 c15 f15 cc8
            refine (II.from_any m fr _).mono ?_
            rintro e we ⟨rfl, be, bk, ke⟩
            have SE := Lib.hid (J4.out.kept ke)
            have HR := Lib.hid (II.from1_runs _ _ fr FF m L we be bk SE.out.map)
            rw [← HPOS.out] at HR
            have hwT := SE.out.world.size
            have HFF := Lib.hid (show ∀ i, FF i → i < we.heap.size from SE.out.map.lt)
            have HNO : Hid (∀ D ∈ [D2, D1], D < we.heap.size) := Lib.hid (fun D h => lt_of_blk (SE.out.defs D h))
            clear J4 be bk ke c7
            generalize w7.heap.size = b7 at HR ⊢
            obtain ⟨sm, hsmm⟩ : ∃ sm, sm = st % 70 := ⟨_, rfl⟩
            have qs1 : ((st : Int).tmod 70) = (sm : Int) := by rw [hsmm, Int.tmod_eq_emod_of_nonneg (by omega)]; omega
            have hsm2 : sm < 70 := by omega
            clear hsmm
            go_wp2_with fail
            refine (wpIn_wide (n := 3)).1 ?_
            refine wpIn_runs_to rfl (enters_of Try.func38 (by kernel_rfl) rfl) HR.out (Kept.refl _ _) (fun _ => rfl) (fun p => [(17, II.ek p.1)]) (fun pre W => Hid (pre.length ≤ sm ∧ One w [(B16, .int .i64 ((pre.length : Nat) : Int), 3), (B15, .int .i64 (k : Int), 3), (B13, .int .i64 0, 3), (B8, .slice (some ⟨g, 0, none⟩) kn c8, 48), (B7, .pointer (some ⟨m, 0, none⟩), 24), (B6, .bool false, 4), (B5, .int .u8 (st : Int), 5)] (.slice (some ⟨g, 0, none⟩) kn c8) KS m L [D2, D1] FF W)) (fun cd pre W => Hid (cd = .exit 6 ∧ sm + 1 ≤ (L.drop k).length ∧ One w [(B16, .int .i64 ((sm : Int) + 1), 3), (B15, .int .i64 (k : Int), 3), (B13, .int .i64 0, 3), (B8, .slice (some ⟨g, 0, none⟩) kn c8, 48), (B7, .pointer (some ⟨m, 0, none⟩), 24), (B6, .bool false, 4), (B5, .int .u8 (st : Int), 5)] (.slice (some ⟨g, 0, none⟩) kn c8) KS m L [D2, D1] FF W))
              (fun s A B h k => Lib.hid ⟨h.out.1, h.out.2.abide k HFF.out hwT HNO.out⟩) (fun _ _ _ _ h k => Lib.hid ⟨h.out.1, h.out.2.1, h.out.2.2.abide k HFF.out hwT HNO.out⟩) (Lib.hid ⟨Nat.zero_le _, SE.out⟩) ?assign4 ?body4 ?done4 ?stop4
            case assign4 =>
              intro l p W K hK
              dsimp only [II.enc]
              simp only [landed, List.foldl_cons, List.foldl_nil, List.zip_toArray, List.zip_cons_cons, List.zip_nil_right, II.enc, List.foldl_toArray, List.setIfInBounds_toArray, List.set_cons_zero, List.set_cons_succ] at hK
              gi_wp2
              exact hK
            case body4 =>
              rintro l pre p rest W hLL hI
              simp only [landed, List.foldl_cons, List.foldl_nil, List.zip_toArray, List.zip_cons_cons, List.zip_nil_right, II.enc, List.foldl_toArray, List.setIfInBounds_toArray, List.set_cons_zero, List.set_cons_succ]
              obtain ⟨pk, pv⟩ := p
              obtain ⟨hqs, hI2⟩ := hI.out
              have hdl : (L.drop k).length = pre.length + 1 + rest.length := by rw [hLL]; simp; omega
              have hkq : KS[k + pre.length]? = some pk := by
                have h1 : (L.drop k)[pre.length]? = some (pk, pv) := by rw [hLL]; simp
                rw [List.getElem?_drop] at h1
                rw [HKS.out, List.getElem?_map, h1]; rfl
              have hkk : k + pre.length < kn := by have := (List.getElem?_eq_some_iff.1 hkq).1; rw [HKN.out]; exact this
              obtain ⟨q, hq⟩ : ∃ q, q = pre.length := ⟨_, rfl⟩
              rw [← hq] at hqs hI2 hkq hkk hdl
              have HQ : Hid ((pre ++ [(pk, pv)]).length = q + 1) := Lib.hid (by simp [hq])
              have p1 := One.put (m0 := we.heap.size) [] [(B15, .int .i64 (k : Int), 3), (B13, .int .i64 0, 3), (B8, .slice (some ⟨g, 0, none⟩) kn c8, 48), (B7, .pointer (some ⟨m, 0, none⟩), 24), (B6, .bool false, 4), (B5, .int .u8 (st : Int), 5)] B16 (.int .i64 (q : Int)) (.int .i64 ((q : Int) + 1)) 3 hI2
              obtain ⟨g2, hg2, cz2⟩ := ints_at (by have := hI2.row; rw [← HKN.out] at this; exact this) hkq
              have c15 : W.cell? ⟨B15, 0, none⟩ = some (.int .i64 (k : Int)) := hI2.cell (t := 3) (by simp)
              have c16 : W.cell? ⟨B16, 0, none⟩ = some (.int .i64 (q : Int)) := hI2.cell (t := 3) (by simp)
              have f16 : W.frozen? ⟨B16, 0, none⟩ = false := hI2.froz (t := 3) (v := .int .i64 (q : Int)) (by simp)
              have cc8 : W.cell? ⟨B8, 0, none⟩ = some (.slice (some ⟨g, 0, none⟩) kn c8) := hI2.cell (t := 48) (by simp)
              rw [hg2] at cc8
              have d16 : (W.setCell ⟨B16, 0, none⟩ (.int .i64 ((q : Int) + 1))).cell? ⟨B16, 0, none⟩ = some (.int .i64 ((q : Int) + 1)) := p1.2.2.cell (t := 3) (by simp)
              have d5 : (W.setCell ⟨B16, 0, none⟩ (.int .i64 ((q : Int) + 1))).cell? ⟨B5, 0, none⟩ = some (.int .u8 (st : Int)) := p1.2.2.cell (t := 5) (by simp)
              have P1 := Lib.hid p1
              have hw1 : IntKind.i64.wrap ((k : Int) + (q : Int)) = (k : Int) + (q : Int) := by rw [IntKind.wrap_i64]; omega
              have hw2 : IntKind.i64.wrap ((q : Int) + 1) = (q : Int) + 1 := by rw [IntKind.wrap_i64]; omega
              have hi1 : (k : Int) + (q : Int) < kn := by omega
              have hi2 : ¬ ((kn : Int) ≤ (k : Int) + (q : Int)) := by omega
              unfold II.ek
              dsimp only
              clear p1 hI hI2 hLL hq hg2
              by_cases hlt3 : q + 1 ≤ sm
              · have hle3 : (q : Int) + 1 ≤ sm := by omega
                have hnl3 : ¬ ((sm : Int) < (q : Int) + 1) := by omega
                gi_wp2
                exact ⟨P1.out.1, P1.out.2.1, Lib.hid ⟨by rw [HQ.out]; exact hlt3, by rw [HQ.out]; exact P1.out.2.2⟩⟩
              · have hle3 : ¬ ((q : Int) + 1 ≤ sm) := by omega
                have hnl3 : (sm : Int) < (q : Int) + 1 := by omega
                have HQS : Hid ((sm : Int) + 1 = (q : Int) + 1) := Lib.hid (by omega)
                gi_wp2
                exact ⟨P1.out.1, P1.out.2.1, Lib.hid ⟨rfl, by omega, by rw [HQS.out]; exact P1.out.2.2⟩⟩
            case done4 =>
              intro D3 W3 hD3 hI hK
              obtain ⟨hle, hI2⟩ := hI.out
              have hdl : (L.drop k).length = kn - k := by rw [List.length_drop, ← HKL.out]
              obtain ⟨se, hse⟩ : ∃ se : Int, se = ((L.drop k).length : Nat) := ⟨_, rfl⟩
              have hSE : One w [(B16, .int .i64 se, 3), (B15, .int .i64 (k : Int), 3), (B13, .int .i64 0, 3), (B8, .slice (some ⟨g, 0, none⟩) kn c8, 48), (B7, .pointer (some ⟨m, 0, none⟩), 24), (B6, .bool false, 4), (B5, .int .u8 (st : Int), 5)] (.slice (some ⟨g, 0, none⟩) kn c8) KS m L [D2, D1] FF W3 := by rw [hse]; exact hI2
              have hs1 : se = (kn : Int) - (k : Int) ∧ (kn : Int) - (k : Int) ≤ sm := by omega
              clear hI hI2 hse hle hdl
              have hDw3 : w.heap.size ≤ D3 := Nat.le_trans hwT hD3
              have hDD3 : D2 < D3 := Nat.lt_of_lt_of_le (HNO.out D2 (by simp)) hD3
              have j3 : One w [(B16, .int .i64 se, 3), (B15, .int .i64 (k : Int), 3), (B13, .int .i64 0, 3), (B8, .slice (some ⟨g, 0, none⟩) kn c8, 48), (B7, .pointer (some ⟨m, 0, none⟩), 24), (B6, .bool false, 4), (B5, .int .u8 (st : Int), 5)] (.slice (some ⟨g, 0, none⟩) kn c8) KS m L [D3, D2, D1] FF W3.drew := (hSE.more hK).kept (Kept.drew _ _)
              have Q := Lib.hid (II.len_any FF m L W3.drew j3.map)
              rw [← HKL.out] at Q
              have j7 : One w [(B16, .int .i64 se, 3), (B15, .int .i64 (k : Int), 3), (B13, .int .i64 0, 3), (B8, .slice (some ⟨g, 0, none⟩) kn c8, 48), (B7, .pointer (some ⟨m, 0, none⟩), 24), (B6, .bool true, 4), (B5, .int .u8 (st : Int), 5)] (.slice (some ⟨g, 0, none⟩) kn c8) KS m L [D3, D2, D1] FF (W3.setCell ⟨B6, 0, none⟩ (.bool true)).drew := (One.put (m0 := 0) [(B16, .int .i64 se, 3), (B15, .int .i64 (k : Int), 3), (B13, .int .i64 0, 3), (B8, .slice (some ⟨g, 0, none⟩) kn c8, 48), (B7, .pointer (some ⟨m, 0, none⟩), 24)] [(B5, .int .u8 (st : Int), 5)] B6 (.bool false) (.bool true) 4 (hSE.more hK)).2.2.kept (Kept.drew _ _)
              have eB13 : W3.drew.cell? ⟨B13, 0, none⟩ = some (.int .i64 0) := j3.cell (t := 3) (by simp)
              have sB13 : (W3.setCell ⟨B6, 0, none⟩ (.bool true)).drew.cell? ⟨B13, 0, none⟩ = some (.int .i64 0) := j7.cell (t := 3) (by simp)
              have eB8 : W3.drew.cell? ⟨B8, 0, none⟩ = some (.slice (some ⟨g, 0, none⟩) kn c8) := j3.cell (t := 48) (by simp)
              have sB8 : (W3.setCell ⟨B6, 0, none⟩ (.bool true)).drew.cell? ⟨B8, 0, none⟩ = some (.slice (some ⟨g, 0, none⟩) kn c8) := j7.cell (t := 48) (by simp)
              have eB7 : W3.drew.cell? ⟨B7, 0, none⟩ = some (.pointer (some ⟨m, 0, none⟩)) := j3.cell (t := 24) (by simp)
              have sB7 : (W3.setCell ⟨B6, 0, none⟩ (.bool true)).drew.cell? ⟨B7, 0, none⟩ = some (.pointer (some ⟨m, 0, none⟩)) := j7.cell (t := 24) (by simp)
              have eB16 : W3.drew.cell? ⟨B16, 0, none⟩ = some (.int .i64 se) := j3.cell (t := 3) (by simp)
              have sB16 : (W3.setCell ⟨B6, 0, none⟩ (.bool true)).drew.cell? ⟨B16, 0, none⟩ = some (.int .i64 se) := j7.cell (t := 3) (by simp)
              have eB15 : W3.drew.cell? ⟨B15, 0, none⟩ = some (.int .i64 (k : Int)) := j3.cell (t := 3) (by simp)
              have sB15 : (W3.setCell ⟨B6, 0, none⟩ (.bool true)).drew.cell? ⟨B15, 0, none⟩ = some (.int .i64 (k : Int)) := j7.cell (t := 3) (by simp)
              have eB5 : W3.drew.cell? ⟨B5, 0, none⟩ = some (.int .u8 (st : Int)) := j3.cell (t := 5) (by simp)
              have sB5 : (W3.setCell ⟨B6, 0, none⟩ (.bool true)).drew.cell? ⟨B5, 0, none⟩ = some (.int .u8 (st : Int)) := j7.cell (t := 5) (by simp)
              have c6 : W3.drew.cell? ⟨B6, 0, none⟩ = some (.bool false) := j3.cell (t := 4) (by simp)
              have f6 : W3.drew.frozen? ⟨B6, 0, none⟩ = false := j3.froz (t := 4) (v := .bool false) (by simp)
              have r7 : (W3.setCell ⟨B6, 0, none⟩ (.bool true)).drew.heap[B6]? = some (.cells #[.bool true] 4 (0, 0)) := j7.box (B6, .bool true, 4) (by simp)
              have x3 := j7.defs D3 (by simp)
              have x2 : ((W3.setCell ⟨B6, 0, none⟩ (.bool true)).drew.putObj D3 (.deferred none)).heap[D2]? = some (.deferred (some [])) := (World.putObj_heap_other (by omega)).trans (j7.defs D2 (by simp))
              have x1 : (((W3.setCell ⟨B6, 0, none⟩ (.bool true)).drew.putObj D3 (.deferred none)).putObj D2 (.deferred none)).heap[D1]? = some (.deferred (some [])) := (World.putObj_heap_other (by omega)).trans ((World.putObj_heap_other (by omega)).trans (j7.defs D1 (by simp)))
              have stp : Abide II.TT w.heap.size (W3.setCell ⟨B6, 0, none⟩ (.bool true)).drew ((((W3.setCell ⟨B6, 0, none⟩ (.bool true)).drew.putObj D3 (.deferred none)).putObj D2 (.deferred none)).putObj D1 (.deferred none)) :=
                ((Abide.putObj _ hDw3 x3 rfl).trans (Abide.putObj _ hDw2 x2 rfl)).trans (Abide.putObj _ hDw x1 rfl)
              have FIN := Lib.hid (Abide.kept j7.world stp (Nat.le_refl _))
              have R8 := Lib.hid (stp.blk r7 (.inr (by unfold II.TT; decide)))
              have X3 := Lib.hid x3
              have X2 := Lib.hid x2
              have X1 := Lib.hid x1
              have hws : IntKind.i64.wrap (sm : Int) = (sm : Int) := by rw [IntKind.wrap_i64]; omega
              have hwr : IntKind.i64.wrap ((sm : Int) + 1) = (sm : Int) + 1 := by rw [IntKind.wrap_i64]; omega
              have hwd : IntKind.i64.wrap ((kn : Int) - (k : Int)) = (kn : Int) - (k : Int) := by rw [IntKind.wrap_i64]; omega
              have qmin : (if (sm : Int) + 1 < (kn : Int) - (k : Int) then (sm : Int) + 1 else (kn : Int) - (k : Int)) = se := by split <;> omega
              clear j3 j7 stp r7 x3 x2 x1 hSE hK SE HR
              go_upto_region 28 with (fail)
              refine wp_region_noPanic ?_
              refine wp_region_held_drew (S := fun w' => w'.cell? ⟨B13, 0, none⟩ = some (.int .i64 0) ∧ w'.cell? ⟨B8, 0, none⟩ = some (.slice (some ⟨g, 0, none⟩) kn c8) ∧ w'.cell? ⟨B7, 0, none⟩ = some (.pointer (some ⟨m, 0, none⟩)) ∧ w'.cell? ⟨B16, 0, none⟩ = some (.int .i64 se) ∧ w'.cell? ⟨B15, 0, none⟩ = some (.int .i64 (k : Int)) ∧ w'.cell? ⟨B5, 0, none⟩ = some (.int .u8 (st : Int))) (by kernel_rfl) ⟨eB13, eB8, eB7, eB16, eB15, eB5⟩ (fun hHeld => ?_)
              refine wpAnyH_take (i := 0) (oi := ⟨some 120, Op.load 3 (Operand.tmp 13), 3, _, _, none⟩) (v := ?v0n1k1) rfl (by kernel_rfl) (by kernel_rfl) (by kernel_rfl) (fun _ _ _ h => h) (Or.inl ⟨by rfl, ?y0n1k1⟩) hHeld ?z0n1k1
              case y0n1k1 => intro w hSw; (try dsimp only at hSw); go_simp <;> rfl
              try simp only [Act.put, List.setIfInBounds_toArray, List.set_cons_zero, List.set_cons_succ]
              refine wpAnyH_take (i := 1) (oi := ⟨some 121, Op.binOp BinOp.eql 3 (Operand.tmp 120) (Operand.const (Value.int IntKind.i64 0)) 3, 4, _, _, none⟩) (v := ?v1n1k2) rfl (by kernel_rfl) (by kernel_rfl) (by kernel_rfl) (fun _ _ _ h => h) (Or.inl ⟨by rfl, ?y1n1k2⟩) hHeld ?z1n1k2
              case y1n1k2 => intro w hSw; (try dsimp only at hSw); go_simp <;> rfl
              try simp only [Act.put, List.setIfInBounds_toArray, List.set_cons_zero, List.set_cons_succ]
              refine wpAnyH_take (i := 2) (oi := ⟨some 122, Op.move (Operand.tmp 121), 4, _, _, none⟩) (v := ?v2n1k3) rfl (by kernel_rfl) (by kernel_rfl) (by kernel_rfl) (fun _ _ _ h => h) (Or.inl ⟨by rfl, ?y2n1k3⟩) hHeld ?z2n1k3
              case y2n1k3 => intro w hSw; (try dsimp only at hSw); go_simp <;> rfl
              try simp only [Act.put, List.setIfInBounds_toArray, List.set_cons_zero, List.set_cons_succ]
              refine wpAnyH_take (i := 3) (oi := ⟨some 123, Op.load 48 (Operand.tmp 8), 48, _, _, some (2, true)⟩) (v := ?v3n1k4) rfl (by kernel_rfl) (by kernel_rfl) (by kernel_rfl) (fun _ _ _ h => h) (Or.inl ⟨by rfl, ?y3n1k4⟩) hHeld ?z3n1k4
              case y3n1k4 => intro w hSw; (try dsimp only at hSw); go_simp <;> rfl
              try simp only [Act.put, List.setIfInBounds_toArray, List.set_cons_zero, List.set_cons_succ]
              refine wpAnyH_take (i := 4) (oi := ⟨some 124, Op.call { callee := Callee.builtin Builtin.len, args := #[Operand.tmp 123], argTypes := #[48] }, 3, _, _, some (2, true)⟩) (v := ?v4n1k5) rfl (by kernel_rfl) (by kernel_rfl) (by kernel_rfl) (fun _ _ _ h => h) (Or.inl ⟨by rfl, ?y4n1k5⟩) hHeld ?z4n1k5
              case y4n1k5 => intro w hSw; (try dsimp only at hSw); go_simp <;> rfl
              try simp only [Act.put, List.setIfInBounds_toArray, List.set_cons_zero, List.set_cons_succ]
              refine wpAnyH_take (i := 5) (oi := ⟨some 125, Op.load 24 (Operand.tmp 7), 24, _, _, some (2, true)⟩) (v := ?v5n1k6) rfl (by kernel_rfl) (by kernel_rfl) (by kernel_rfl) (fun _ _ _ h => h) (Or.inl ⟨by rfl, ?y5n1k6⟩) hHeld ?z5n1k6
              case y5n1k6 => intro w hSw; (try dsimp only at hSw); go_simp <;> rfl
              try simp only [Act.put, List.setIfInBounds_toArray, List.set_cons_zero, List.set_cons_succ]
              refine wpAnyH_ready (rs := [6]) (by kernel_rfl) (by simp) ?_
              refine AllReadyH.cons (o := ⟨some 126, Op.call { callee := Callee.value (Operand.func 17), args := #[Operand.tmp 125], argTypes := #[24] }, 3, _, _, some (2, true)⟩) rfl (fun K hK => ?_) AllReadyH.nil
              go_simp
              refine Q.out.mono ?_
              rintro e w8 ⟨rfl, rfl⟩
              dsimp only
              refine hK.out _ _ ⟨eB13, eB8, eB7, eB16, eB15, eB5⟩ (fun hHeld => ?_)
              clear hK K
              try simp only [Act.put, List.setIfInBounds_toArray, List.set_cons_zero, List.set_cons_succ]
              refine wpAnyH_take (i := 7) (oi := ⟨some 127, Op.binOp BinOp.eql 3 (Operand.tmp 124) (Operand.tmp 126) 3, 4, _, _, some (2, true)⟩) (v := ?v7n1k7) rfl (by kernel_rfl) (by kernel_rfl) (by kernel_rfl) (fun _ _ _ h => h) (Or.inl ⟨by rfl, ?y7n1k7⟩) hHeld ?z7n1k7
              case y7n1k7 => intro w hSw; (try dsimp only at hSw); go_simp <;> rfl
              try simp only [Act.put, List.setIfInBounds_toArray, List.set_cons_zero, List.set_cons_succ]
              refine wpAnyH_take (i := 8) (oi := ⟨some 128, Op.pick (Operand.tmp 122) (Operand.tmp 127) (Operand.const (Value.bool false)), 4, _, _, none⟩) (v := ?v8n1k8) rfl (by kernel_rfl) (by kernel_rfl) (by kernel_rfl) (fun _ _ _ h => h) (Or.inl ⟨by rfl, ?y8n1k8⟩) hHeld ?z8n1k8
              case y8n1k8 => intro w hSw; (try dsimp only at hSw); go_simp <;> rfl
              try simp only [Act.put, List.setIfInBounds_toArray, List.set_cons_zero, List.set_cons_succ]
              refine wpAnyH_take (i := 9) (oi := ⟨some 129, Op.move (Operand.tmp 128), 4, _, _, none⟩) (v := ?v9n1k9) rfl (by kernel_rfl) (by kernel_rfl) (by kernel_rfl) (fun _ _ _ h => h) (Or.inl ⟨by rfl, ?y9n1k9⟩) hHeld ?z9n1k9
              case y9n1k9 => intro w hSw; (try dsimp only at hSw); go_simp <;> rfl
              try simp only [Act.put, List.setIfInBounds_toArray, List.set_cons_zero, List.set_cons_succ]
              refine wpAnyH_take (i := 10) (oi := ⟨some 130, Op.load 3 (Operand.tmp 16), 3, _, _, some (9, true)⟩) (v := ?v10n1k10) rfl (by kernel_rfl) (by kernel_rfl) (by kernel_rfl) (fun _ _ _ h => h) (Or.inl ⟨by rfl, ?y10n1k10⟩) hHeld ?z10n1k10
              case y10n1k10 => intro w hSw; (try dsimp only at hSw); go_simp <;> rfl
              try simp only [Act.put, List.setIfInBounds_toArray, List.set_cons_zero, List.set_cons_succ]
              refine wpAnyH_take (i := 11) (oi := ⟨some 131, Op.load 48 (Operand.tmp 8), 48, _, _, some (9, true)⟩) (v := ?v11n1k11) rfl (by kernel_rfl) (by kernel_rfl) (by kernel_rfl) (fun _ _ _ h => h) (Or.inl ⟨by rfl, ?y11n1k11⟩) hHeld ?z11n1k11
              case y11n1k11 => intro w hSw; (try dsimp only at hSw); go_simp <;> rfl
              try simp only [Act.put, List.setIfInBounds_toArray, List.set_cons_zero, List.set_cons_succ]
              refine wpAnyH_take (i := 12) (oi := ⟨some 132, Op.call { callee := Callee.builtin Builtin.len, args := #[Operand.tmp 131], argTypes := #[48] }, 3, _, _, some (9, true)⟩) (v := ?v12n1k12) rfl (by kernel_rfl) (by kernel_rfl) (by kernel_rfl) (fun _ _ _ h => h) (Or.inl ⟨by rfl, ?y12n1k12⟩) hHeld ?z12n1k12
              case y12n1k12 => intro w hSw; (try dsimp only at hSw); go_simp <;> rfl
              try simp only [Act.put, List.setIfInBounds_toArray, List.set_cons_zero, List.set_cons_succ]
              refine wpAnyH_take (i := 13) (oi := ⟨some 133, Op.load 3 (Operand.tmp 15), 3, _, _, some (9, true)⟩) (v := ?v13n1k13) rfl (by kernel_rfl) (by kernel_rfl) (by kernel_rfl) (fun _ _ _ h => h) (Or.inl ⟨by rfl, ?y13n1k13⟩) hHeld ?z13n1k13
              case y13n1k13 => intro w hSw; (try dsimp only at hSw); go_simp <;> rfl
              try simp only [Act.put, List.setIfInBounds_toArray, List.set_cons_zero, List.set_cons_succ]
              refine wpAnyH_take (i := 14) (oi := ⟨some 134, Op.binOp BinOp.sub 3 (Operand.tmp 132) (Operand.tmp 133) 3, 3, _, _, some (9, true)⟩) (v := ?v14n1k14) rfl (by kernel_rfl) (by kernel_rfl) (by kernel_rfl) (fun _ _ _ h => h) (Or.inl ⟨by rfl, ?y14n1k14⟩) hHeld ?z14n1k14
              case y14n1k14 => intro w hSw; (try dsimp only at hSw); go_simp <;> rfl
              try simp only [Act.put, List.setIfInBounds_toArray, List.set_cons_zero, List.set_cons_succ]
              refine wpAnyH_take (i := 15) (oi := ⟨some 135, Op.load 5 (Operand.tmp 5), 5, _, _, some (9, true)⟩) (v := ?v15n1k15) rfl (by kernel_rfl) (by kernel_rfl) (by kernel_rfl) (fun _ _ _ h => h) (Or.inl ⟨by rfl, ?y15n1k15⟩) hHeld ?z15n1k15
              case y15n1k15 => intro w hSw; (try dsimp only at hSw); go_simp <;> rfl
              try simp only [Act.put, List.setIfInBounds_toArray, List.set_cons_zero, List.set_cons_succ]
              refine wpAnyH_take (i := 16) (oi := ⟨some 136, Op.binOp BinOp.rem 5 (Operand.tmp 135) (Operand.const (Value.int IntKind.u8 70)) 5, 5, _, _, some (9, true)⟩) (v := ?v16n1k16) rfl (by kernel_rfl) (by kernel_rfl) (by kernel_rfl) (fun _ _ _ h => h) (Or.inl ⟨by rfl, ?y16n1k16⟩) hHeld ?z16n1k16
              case y16n1k16 => intro w hSw; (try dsimp only at hSw); go_simp <;> rfl
              try simp only [Act.put, List.setIfInBounds_toArray, List.set_cons_zero, List.set_cons_succ]
              refine wpAnyH_take (i := 17) (oi := ⟨some 137, Op.convert 5 3 (Operand.tmp 136), 3, _, _, some (9, true)⟩) (v := ?v17n1k17) rfl (by kernel_rfl) (by kernel_rfl) (by kernel_rfl) (fun _ _ _ h => h) (Or.inl ⟨by rfl, ?y17n1k17⟩) hHeld ?z17n1k17
              case y17n1k17 => intro w hSw; (try dsimp only at hSw); go_simp <;> rfl
              try simp only [Act.put, List.setIfInBounds_toArray, List.set_cons_zero, List.set_cons_succ]
              refine wpAnyH_take (i := 18) (oi := ⟨some 138, Op.binOp BinOp.add 3 (Operand.tmp 137) (Operand.const (Value.int IntKind.i64 1)) 3, 3, _, _, some (9, true)⟩) (v := ?v18n1k18) rfl (by kernel_rfl) (by kernel_rfl) (by kernel_rfl) (fun _ _ _ h => h) (Or.inl ⟨by rfl, ?y18n1k18⟩) hHeld ?z18n1k18
              case y18n1k18 => intro w hSw; (try dsimp only at hSw); go_simp <;> rfl
              try simp only [Act.put, List.setIfInBounds_toArray, List.set_cons_zero, List.set_cons_succ]
              refine wpAnyH_take (i := 19) (oi := ⟨some 139, Op.call { callee := Callee.builtin Builtin.min, args := #[Operand.tmp 134, Operand.tmp 138], argTypes := #[3, 3] }, 3, _, _, some (9, true)⟩) (v := ?v19n1k19) rfl (by kernel_rfl) (by kernel_rfl) (by kernel_rfl) (fun _ _ _ h => h) (Or.inl ⟨by rfl, ?y19n1k19⟩) hHeld ?z19n1k19
              case y19n1k19 => intro w hSw; (try dsimp only at hSw); go_simp <;> rfl
              try simp only [Act.put, List.setIfInBounds_toArray, List.set_cons_zero, List.set_cons_succ]
              refine wpAnyH_take (i := 20) (oi := ⟨some 140, Op.binOp BinOp.eql 3 (Operand.tmp 130) (Operand.tmp 139) 3, 4, _, _, some (9, true)⟩) (v := ?v20n1k20) rfl (by kernel_rfl) (by kernel_rfl) (by kernel_rfl) (fun _ _ _ h => h) (Or.inl ⟨by rfl, ?y20n1k20⟩) hHeld ?z20n1k20
              case y20n1k20 => intro w hSw; (try dsimp only at hSw); go_simp <;> rfl
              try simp only [Act.put, List.setIfInBounds_toArray, List.set_cons_zero, List.set_cons_succ]
              refine wpAnyH_take (i := 21) (oi := ⟨some 141, Op.pick (Operand.tmp 129) (Operand.tmp 140) (Operand.const (Value.bool false)), 4, _, _, none⟩) (v := ?v21n1k21) rfl (by kernel_rfl) (by kernel_rfl) (by kernel_rfl) (fun _ _ _ h => h) (Or.inl ⟨by rfl, ?y21n1k21⟩) hHeld ?z21n1k21
              case y21n1k21 => intro w hSw; (try dsimp only at hSw); go_simp <;> rfl
              try simp only [Act.put, List.setIfInBounds_toArray, List.set_cons_zero, List.set_cons_succ]
              refine wpAnyH_ready (rs := [22]) (by kernel_rfl) (by simp) ?_
              refine AllReadyH.cons (o := ⟨none, Op.store 4 (Operand.tmp 6) (Operand.tmp 141), 0, _, _, none⟩) rfl (fun K hK => ?_) AllReadyH.nil
              go_simp
              refine hK.out _ _ ⟨sB13, sB8, sB7, sB16, sB15, sB5⟩ (fun hHeld => ?_)
              clear hK K
              try simp only [Act.put, List.setIfInBounds_toArray, List.set_cons_zero, List.set_cons_succ]
              refine wpAnyH_done (by kernel_rfl) ?_ _
              refine NoPanic.normal ?_
              clear hHeld Q c6 f6
              go_wp2
              refine ⟨by simp, .inl ⟨_, _, rfl, run_takeDeferred X3.out, ?_⟩⟩
              refine ⟨by simp, .inl ⟨_, _, rfl, run_takeDeferred X2.out, ?_⟩⟩
              refine ⟨by simp, .inl ⟨_, _, rfl, run_takeDeferred X1.out, ?_⟩⟩
              exact ⟨_, results_box rfl _ _ B6 (.bool true) rfl (cell_of_row _ _ _ _ _ _ R8.out), rfl, FIN.out⟩
            case stop4 =>
              rintro D3 cd pre W3 hD3 _ h hK
              obtain ⟨rfl, hln, hI2⟩ := h.out
              rw [List.length_drop, ← HKL.out] at hln
              obtain ⟨se, hse⟩ : ∃ se : Int, se = (sm : Int) + 1 := ⟨_, rfl⟩
              have hSE : One w [(B16, .int .i64 se, 3), (B15, .int .i64 (k : Int), 3), (B13, .int .i64 0, 3), (B8, .slice (some ⟨g, 0, none⟩) kn c8, 48), (B7, .pointer (some ⟨m, 0, none⟩), 24), (B6, .bool false, 4), (B5, .int .u8 (st : Int), 5)] (.slice (some ⟨g, 0, none⟩) kn c8) KS m L [D2, D1] FF W3 := by rw [hse]; exact hI2
              have hs1 : se = (sm : Int) + 1 ∧ (sm : Int) + 1 ≤ (kn : Int) - (k : Int) := by omega
              clear h hI2 hse hln
              have hDw3 : w.heap.size ≤ D3 := Nat.le_trans hwT hD3
              have hDD3 : D2 < D3 := Nat.lt_of_lt_of_le (HNO.out D2 (by simp)) hD3
              have j3 : One w [(B16, .int .i64 se, 3), (B15, .int .i64 (k : Int), 3), (B13, .int .i64 0, 3), (B8, .slice (some ⟨g, 0, none⟩) kn c8, 48), (B7, .pointer (some ⟨m, 0, none⟩), 24), (B6, .bool false, 4), (B5, .int .u8 (st : Int), 5)] (.slice (some ⟨g, 0, none⟩) kn c8) KS m L [D3, D2, D1] FF W3.drew := (hSE.more hK).kept (Kept.drew _ _)
              have Q := Lib.hid (II.len_any FF m L W3.drew j3.map)
              rw [← HKL.out] at Q
              have j7 : One w [(B16, .int .i64 se, 3), (B15, .int .i64 (k : Int), 3), (B13, .int .i64 0, 3), (B8, .slice (some ⟨g, 0, none⟩) kn c8, 48), (B7, .pointer (some ⟨m, 0, none⟩), 24), (B6, .bool true, 4), (B5, .int .u8 (st : Int), 5)] (.slice (some ⟨g, 0, none⟩) kn c8) KS m L [D3, D2, D1] FF (W3.setCell ⟨B6, 0, none⟩ (.bool true)).drew := (One.put (m0 := 0) [(B16, .int .i64 se, 3), (B15, .int .i64 (k : Int), 3), (B13, .int .i64 0, 3), (B8, .slice (some ⟨g, 0, none⟩) kn c8, 48), (B7, .pointer (some ⟨m, 0, none⟩), 24)] [(B5, .int .u8 (st : Int), 5)] B6 (.bool false) (.bool true) 4 (hSE.more hK)).2.2.kept (Kept.drew _ _)
              have eB13 : W3.drew.cell? ⟨B13, 0, none⟩ = some (.int .i64 0) := j3.cell (t := 3) (by simp)
              have sB13 : (W3.setCell ⟨B6, 0, none⟩ (.bool true)).drew.cell? ⟨B13, 0, none⟩ = some (.int .i64 0) := j7.cell (t := 3) (by simp)
              have eB8 : W3.drew.cell? ⟨B8, 0, none⟩ = some (.slice (some ⟨g, 0, none⟩) kn c8) := j3.cell (t := 48) (by simp)
              have sB8 : (W3.setCell ⟨B6, 0, none⟩ (.bool true)).drew.cell? ⟨B8, 0, none⟩ = some (.slice (some ⟨g, 0, none⟩) kn c8) := j7.cell (t := 48) (by simp)
              have eB7 : W3.drew.cell? ⟨B7, 0, none⟩ = some (.pointer (some ⟨m, 0, none⟩)) := j3.cell (t := 24) (by simp)
              have sB7 : (W3.setCell ⟨B6, 0, none⟩ (.bool true)).drew.cell? ⟨B7, 0, none⟩ = some (.pointer (some ⟨m, 0, none⟩)) := j7.cell (t := 24) (by simp)
              have eB16 : W3.drew.cell? ⟨B16, 0, none⟩ = some (.int .i64 se) := j3.cell (t := 3) (by simp)
              have sB16 : (W3.setCell ⟨B6, 0, none⟩ (.bool true)).drew.cell? ⟨B16, 0, none⟩ = some (.int .i64 se) := j7.cell (t := 3) (by simp)
              have eB15 : W3.drew.cell? ⟨B15, 0, none⟩ = some (.int .i64 (k : Int)) := j3.cell (t := 3) (by simp)
              have sB15 : (W3.setCell ⟨B6, 0, none⟩ (.bool true)).drew.cell? ⟨B15, 0, none⟩ = some (.int .i64 (k : Int)) := j7.cell (t := 3) (by simp)
              have eB5 : W3.drew.cell? ⟨B5, 0, none⟩ = some (.int .u8 (st : Int)) := j3.cell (t := 5) (by simp)
              have sB5 : (W3.setCell ⟨B6, 0, none⟩ (.bool true)).drew.cell? ⟨B5, 0, none⟩ = some (.int .u8 (st : Int)) := j7.cell (t := 5) (by simp)
              have c6 : W3.drew.cell? ⟨B6, 0, none⟩ = some (.bool false) := j3.cell (t := 4) (by simp)
              have f6 : W3.drew.frozen? ⟨B6, 0, none⟩ = false := j3.froz (t := 4) (v := .bool false) (by simp)
              have r7 : (W3.setCell ⟨B6, 0, none⟩ (.bool true)).drew.heap[B6]? = some (.cells #[.bool true] 4 (0, 0)) := j7.box (B6, .bool true, 4) (by simp)
              have x3 := j7.defs D3 (by simp)
              have x2 : ((W3.setCell ⟨B6, 0, none⟩ (.bool true)).drew.putObj D3 (.deferred none)).heap[D2]? = some (.deferred (some [])) := (World.putObj_heap_other (by omega)).trans (j7.defs D2 (by simp))
              have x1 : (((W3.setCell ⟨B6, 0, none⟩ (.bool true)).drew.putObj D3 (.deferred none)).putObj D2 (.deferred none)).heap[D1]? = some (.deferred (some [])) := (World.putObj_heap_other (by omega)).trans ((World.putObj_heap_other (by omega)).trans (j7.defs D1 (by simp)))
              have stp : Abide II.TT w.heap.size (W3.setCell ⟨B6, 0, none⟩ (.bool true)).drew ((((W3.setCell ⟨B6, 0, none⟩ (.bool true)).drew.putObj D3 (.deferred none)).putObj D2 (.deferred none)).putObj D1 (.deferred none)) :=
                ((Abide.putObj _ hDw3 x3 rfl).trans (Abide.putObj _ hDw2 x2 rfl)).trans (Abide.putObj _ hDw x1 rfl)
              have FIN := Lib.hid (Abide.kept j7.world stp (Nat.le_refl _))
              have R8 := Lib.hid (stp.blk r7 (.inr (by unfold II.TT; decide)))
              have X3 := Lib.hid x3
              have X2 := Lib.hid x2
              have X1 := Lib.hid x1
              have hws : IntKind.i64.wrap (sm : Int) = (sm : Int) := by rw [IntKind.wrap_i64]; omega
              have hwr : IntKind.i64.wrap ((sm : Int) + 1) = (sm : Int) + 1 := by rw [IntKind.wrap_i64]; omega
              have hwd : IntKind.i64.wrap ((kn : Int) - (k : Int)) = (kn : Int) - (k : Int) := by rw [IntKind.wrap_i64]; omega
              have qmin : (if (sm : Int) + 1 < (kn : Int) - (k : Int) then (sm : Int) + 1 else (kn : Int) - (k : Int)) = se := by split <;> omega
              clear j3 j7 stp r7 x3 x2 x1 hSE hK SE HR
              gi_wp2_with fail
              go_upto_region 28 with (fail)
              refine wp_region_noPanic ?_
              refine wp_region_held_drew (S := fun w' => w'.cell? ⟨B13, 0, none⟩ = some (.int .i64 0) ∧ w'.cell? ⟨B8, 0, none⟩ = some (.slice (some ⟨g, 0, none⟩) kn c8) ∧ w'.cell? ⟨B7, 0, none⟩ = some (.pointer (some ⟨m, 0, none⟩)) ∧ w'.cell? ⟨B16, 0, none⟩ = some (.int .i64 se) ∧ w'.cell? ⟨B15, 0, none⟩ = some (.int .i64 (k : Int)) ∧ w'.cell? ⟨B5, 0, none⟩ = some (.int .u8 (st : Int))) (by kernel_rfl) ⟨eB13, eB8, eB7, eB16, eB15, eB5⟩ (fun hHeld => ?_)
              refine wpAnyH_take (i := 0) (oi := ⟨some 120, Op.load 3 (Operand.tmp 13), 3, _, _, none⟩) (v := ?v0n2k1) rfl (by kernel_rfl) (by kernel_rfl) (by kernel_rfl) (fun _ _ _ h => h) (Or.inl ⟨by rfl, ?y0n2k1⟩) hHeld ?z0n2k1
              case y0n2k1 => intro w hSw; (try dsimp only at hSw); go_simp <;> rfl
              try simp only [Act.put, List.setIfInBounds_toArray, List.set_cons_zero, List.set_cons_succ]
              refine wpAnyH_take (i := 1) (oi := ⟨some 121, Op.binOp BinOp.eql 3 (Operand.tmp 120) (Operand.const (Value.int IntKind.i64 0)) 3, 4, _, _, none⟩) (v := ?v1n2k2) rfl (by kernel_rfl) (by kernel_rfl) (by kernel_rfl) (fun _ _ _ h => h) (Or.inl ⟨by rfl, ?y1n2k2⟩) hHeld ?z1n2k2
              case y1n2k2 => intro w hSw; (try dsimp only at hSw); go_simp <;> rfl
              try simp only [Act.put, List.setIfInBounds_toArray, List.set_cons_zero, List.set_cons_succ]
              refine wpAnyH_take (i := 2) (oi := ⟨some 122, Op.move (Operand.tmp 121), 4, _, _, none⟩) (v := ?v2n2k3) rfl (by kernel_rfl) (by kernel_rfl) (by kernel_rfl) (fun _ _ _ h => h) (Or.inl ⟨by rfl, ?y2n2k3⟩) hHeld ?z2n2k3
              case y2n2k3 => intro w hSw; (try dsimp only at hSw); go_simp <;> rfl
              try simp only [Act.put, List.setIfInBounds_toArray, List.set_cons_zero, List.set_cons_succ]
              refine wpAnyH_take (i := 3) (oi := ⟨some 123, Op.load 48 (Operand.tmp 8), 48, _, _, some (2, true)⟩) (v := ?v3n2k4) rfl (by kernel_rfl) (by kernel_rfl) (by kernel_rfl) (fun _ _ _ h => h) (Or.inl ⟨by rfl, ?y3n2k4⟩) hHeld ?z3n2k4
              case y3n2k4 => intro w hSw; (try dsimp only at hSw); go_simp <;> rfl
              try simp only [Act.put, List.setIfInBounds_toArray, List.set_cons_zero, List.set_cons_succ]
              refine wpAnyH_take (i := 4) (oi := ⟨some 124, Op.call { callee := Callee.builtin Builtin.len, args := #[Operand.tmp 123], argTypes := #[48] }, 3, _, _, some (2, true)⟩) (v := ?v4n2k5) rfl (by kernel_rfl) (by kernel_rfl) (by kernel_rfl) (fun _ _ _ h => h) (Or.inl ⟨by rfl, ?y4n2k5⟩) hHeld ?z4n2k5
              case y4n2k5 => intro w hSw; (try dsimp only at hSw); go_simp <;> rfl
              try simp only [Act.put, List.setIfInBounds_toArray, List.set_cons_zero, List.set_cons_succ]
              refine wpAnyH_take (i := 5) (oi := ⟨some 125, Op.load 24 (Operand.tmp 7), 24, _, _, some (2, true)⟩) (v := ?v5n2k6) rfl (by kernel_rfl) (by kernel_rfl) (by kernel_rfl) (fun _ _ _ h => h) (Or.inl ⟨by rfl, ?y5n2k6⟩) hHeld ?z5n2k6
              case y5n2k6 => intro w hSw; (try dsimp only at hSw); go_simp <;> rfl
              try simp only [Act.put, List.setIfInBounds_toArray, List.set_cons_zero, List.set_cons_succ]
              refine wpAnyH_ready (rs := [6]) (by kernel_rfl) (by simp) ?_
              refine AllReadyH.cons (o := ⟨some 126, Op.call { callee := Callee.value (Operand.func 17), args := #[Operand.tmp 125], argTypes := #[24] }, 3, _, _, some (2, true)⟩) rfl (fun K hK => ?_) AllReadyH.nil
              go_simp
              refine Q.out.mono ?_
              rintro e w8 ⟨rfl, rfl⟩
              dsimp only
              refine hK.out _ _ ⟨eB13, eB8, eB7, eB16, eB15, eB5⟩ (fun hHeld => ?_)
              clear hK K
              try simp only [Act.put, List.setIfInBounds_toArray, List.set_cons_zero, List.set_cons_succ]
              refine wpAnyH_take (i := 7) (oi := ⟨some 127, Op.binOp BinOp.eql 3 (Operand.tmp 124) (Operand.tmp 126) 3, 4, _, _, some (2, true)⟩) (v := ?v7n2k7) rfl (by kernel_rfl) (by kernel_rfl) (by kernel_rfl) (fun _ _ _ h => h) (Or.inl ⟨by rfl, ?y7n2k7⟩) hHeld ?z7n2k7
              case y7n2k7 => intro w hSw; (try dsimp only at hSw); go_simp <;> rfl
              try simp only [Act.put, List.setIfInBounds_toArray, List.set_cons_zero, List.set_cons_succ]
              refine wpAnyH_take (i := 8) (oi := ⟨some 128, Op.pick (Operand.tmp 122) (Operand.tmp 127) (Operand.const (Value.bool false)), 4, _, _, none⟩) (v := ?v8n2k8) rfl (by kernel_rfl) (by kernel_rfl) (by kernel_rfl) (fun _ _ _ h => h) (Or.inl ⟨by rfl, ?y8n2k8⟩) hHeld ?z8n2k8
              case y8n2k8 => intro w hSw; (try dsimp only at hSw); go_simp <;> rfl
              try simp only [Act.put, List.setIfInBounds_toArray, List.set_cons_zero, List.set_cons_succ]
              refine wpAnyH_take (i := 9) (oi := ⟨some 129, Op.move (Operand.tmp 128), 4, _, _, none⟩) (v := ?v9n2k9) rfl (by kernel_rfl) (by kernel_rfl) (by kernel_rfl) (fun _ _ _ h => h) (Or.inl ⟨by rfl, ?y9n2k9⟩) hHeld ?z9n2k9
              case y9n2k9 => intro w hSw; (try dsimp only at hSw); go_simp <;> rfl
              try simp only [Act.put, List.setIfInBounds_toArray, List.set_cons_zero, List.set_cons_succ]
              refine wpAnyH_take (i := 10) (oi := ⟨some 130, Op.load 3 (Operand.tmp 16), 3, _, _, some (9, true)⟩) (v := ?v10n2k10) rfl (by kernel_rfl) (by kernel_rfl) (by kernel_rfl) (fun _ _ _ h => h) (Or.inl ⟨by rfl, ?y10n2k10⟩) hHeld ?z10n2k10
              case y10n2k10 => intro w hSw; (try dsimp only at hSw); go_simp <;> rfl
              try simp only [Act.put, List.setIfInBounds_toArray, List.set_cons_zero, List.set_cons_succ]
              refine wpAnyH_take (i := 11) (oi := ⟨some 131, Op.load 48 (Operand.tmp 8), 48, _, _, some (9, true)⟩) (v := ?v11n2k11) rfl (by kernel_rfl) (by kernel_rfl) (by kernel_rfl) (fun _ _ _ h => h) (Or.inl ⟨by rfl, ?y11n2k11⟩) hHeld ?z11n2k11
              case y11n2k11 => intro w hSw; (try dsimp only at hSw); go_simp <;> rfl
              try simp only [Act.put, List.setIfInBounds_toArray, List.set_cons_zero, List.set_cons_succ]
              refine wpAnyH_take (i := 12) (oi := ⟨some 132, Op.call { callee := Callee.builtin Builtin.len, args := #[Operand.tmp 131], argTypes := #[48] }, 3, _, _, some (9, true)⟩) (v := ?v12n2k12) rfl (by kernel_rfl) (by kernel_rfl) (by kernel_rfl) (fun _ _ _ h => h) (Or.inl ⟨by rfl, ?y12n2k12⟩) hHeld ?z12n2k12
              case y12n2k12 => intro w hSw; (try dsimp only at hSw); go_simp <;> rfl
              try simp only [Act.put, List.setIfInBounds_toArray, List.set_cons_zero, List.set_cons_succ]
              refine wpAnyH_take (i := 13) (oi := ⟨some 133, Op.load 3 (Operand.tmp 15), 3, _, _, some (9, true)⟩) (v := ?v13n2k13) rfl (by kernel_rfl) (by kernel_rfl) (by kernel_rfl) (fun _ _ _ h => h) (Or.inl ⟨by rfl, ?y13n2k13⟩) hHeld ?z13n2k13
              case y13n2k13 => intro w hSw; (try dsimp only at hSw); go_simp <;> rfl
              try simp only [Act.put, List.setIfInBounds_toArray, List.set_cons_zero, List.set_cons_succ]
              refine wpAnyH_take (i := 14) (oi := ⟨some 134, Op.binOp BinOp.sub 3 (Operand.tmp 132) (Operand.tmp 133) 3, 3, _, _, some (9, true)⟩) (v := ?v14n2k14) rfl (by kernel_rfl) (by kernel_rfl) (by kernel_rfl) (fun _ _ _ h => h) (Or.inl ⟨by rfl, ?y14n2k14⟩) hHeld ?z14n2k14
              case y14n2k14 => intro w hSw; (try dsimp only at hSw); go_simp <;> rfl
              try simp only [Act.put, List.setIfInBounds_toArray, List.set_cons_zero, List.set_cons_succ]
              refine wpAnyH_take (i := 15) (oi := ⟨some 135, Op.load 5 (Operand.tmp 5), 5, _, _, some (9, true)⟩) (v := ?v15n2k15) rfl (by kernel_rfl) (by kernel_rfl) (by kernel_rfl) (fun _ _ _ h => h) (Or.inl ⟨by rfl, ?y15n2k15⟩) hHeld ?z15n2k15
              case y15n2k15 => intro w hSw; (try dsimp only at hSw); go_simp <;> rfl
              try simp only [Act.put, List.setIfInBounds_toArray, List.set_cons_zero, List.set_cons_succ]
              refine wpAnyH_take (i := 16) (oi := ⟨some 136, Op.binOp BinOp.rem 5 (Operand.tmp 135) (Operand.const (Value.int IntKind.u8 70)) 5, 5, _, _, some (9, true)⟩) (v := ?v16n2k16) rfl (by kernel_rfl) (by kernel_rfl) (by kernel_rfl) (fun _ _ _ h => h) (Or.inl ⟨by rfl, ?y16n2k16⟩) hHeld ?z16n2k16
              case y16n2k16 => intro w hSw; (try dsimp only at hSw); go_simp <;> rfl
              try simp only [Act.put, List.setIfInBounds_toArray, List.set_cons_zero, List.set_cons_succ]
              refine wpAnyH_take (i := 17) (oi := ⟨some 137, Op.convert 5 3 (Operand.tmp 136), 3, _, _, some (9, true)⟩) (v := ?v17n2k17) rfl (by kernel_rfl) (by kernel_rfl) (by kernel_rfl) (fun _ _ _ h => h) (Or.inl ⟨by rfl, ?y17n2k17⟩) hHeld ?z17n2k17
              case y17n2k17 => intro w hSw; (try dsimp only at hSw); go_simp <;> rfl
              try simp only [Act.put, List.setIfInBounds_toArray, List.set_cons_zero, List.set_cons_succ]
              refine wpAnyH_take (i := 18) (oi := ⟨some 138, Op.binOp BinOp.add 3 (Operand.tmp 137) (Operand.const (Value.int IntKind.i64 1)) 3, 3, _, _, some (9, true)⟩) (v := ?v18n2k18) rfl (by kernel_rfl) (by kernel_rfl) (by kernel_rfl) (fun _ _ _ h => h) (Or.inl ⟨by rfl, ?y18n2k18⟩) hHeld ?z18n2k18
              case y18n2k18 => intro w hSw; (try dsimp only at hSw); go_simp <;> rfl
              try simp only [Act.put, List.setIfInBounds_toArray, List.set_cons_zero, List.set_cons_succ]
              refine wpAnyH_take (i := 19) (oi := ⟨some 139, Op.call { callee := Callee.builtin Builtin.min, args := #[Operand.tmp 134, Operand.tmp 138], argTypes := #[3, 3] }, 3, _, _, some (9, true)⟩) (v := ?v19n2k19) rfl (by kernel_rfl) (by kernel_rfl) (by kernel_rfl) (fun _ _ _ h => h) (Or.inl ⟨by rfl, ?y19n2k19⟩) hHeld ?z19n2k19
              case y19n2k19 => intro w hSw; (try dsimp only at hSw); go_simp <;> rfl
              try simp only [Act.put, List.setIfInBounds_toArray, List.set_cons_zero, List.set_cons_succ]
              refine wpAnyH_take (i := 20) (oi := ⟨some 140, Op.binOp BinOp.eql 3 (Operand.tmp 130) (Operand.tmp 139) 3, 4, _, _, some (9, true)⟩) (v := ?v20n2k20) rfl (by kernel_rfl) (by kernel_rfl) (by kernel_rfl) (fun _ _ _ h => h) (Or.inl ⟨by rfl, ?y20n2k20⟩) hHeld ?z20n2k20
              case y20n2k20 => intro w hSw; (try dsimp only at hSw); go_simp <;> rfl
              try simp only [Act.put, List.setIfInBounds_toArray, List.set_cons_zero, List.set_cons_succ]
              refine wpAnyH_take (i := 21) (oi := ⟨some 141, Op.pick (Operand.tmp 129) (Operand.tmp 140) (Operand.const (Value.bool false)), 4, _, _, none⟩) (v := ?v21n2k21) rfl (by kernel_rfl) (by kernel_rfl) (by kernel_rfl) (fun _ _ _ h => h) (Or.inl ⟨by rfl, ?y21n2k21⟩) hHeld ?z21n2k21
              case y21n2k21 => intro w hSw; (try dsimp only at hSw); go_simp <;> rfl
              try simp only [Act.put, List.setIfInBounds_toArray, List.set_cons_zero, List.set_cons_succ]
              refine wpAnyH_ready (rs := [22]) (by kernel_rfl) (by simp) ?_
              refine AllReadyH.cons (o := ⟨none, Op.store 4 (Operand.tmp 6) (Operand.tmp 141), 0, _, _, none⟩) rfl (fun K hK => ?_) AllReadyH.nil
              go_simp
              refine hK.out _ _ ⟨sB13, sB8, sB7, sB16, sB15, sB5⟩ (fun hHeld => ?_)
              clear hK K
              try simp only [Act.put, List.setIfInBounds_toArray, List.set_cons_zero, List.set_cons_succ]
              refine wpAnyH_done (by kernel_rfl) ?_ _
              refine NoPanic.normal ?_
              clear hHeld Q c6 f6
              go_wp2
              refine ⟨by simp, .inl ⟨_, _, rfl, run_takeDeferred X3.out, ?_⟩⟩
              refine ⟨by simp, .inl ⟨_, _, rfl, run_takeDeferred X2.out, ?_⟩⟩
              refine ⟨by simp, .inl ⟨_, _, rfl, run_takeDeferred X1.out, ?_⟩⟩
              exact ⟨_, results_box rfl _ _ B6 (.bool true) rfl (cell_of_row _ _ _ _ _ _ R8.out), rfl, FIN.out⟩
        · have HHI : Hid (∀ y, KS[k]? = some y → ¬ y < fr) := Lib.hid (fun y hy => by have := (List.getElem?_eq_some_iff.1 hy).1; have := HKN.out; omega)
          have hki : ¬ ((k : Int) < (kn : Int)) := by omega
          have hpos : k = Srt.pos L fr := at_pos HUP.out (by have := HKL.out; omega) (by rw [← HKS.out]; exact HLO.out) (by rw [← HKS.out]; exact HHI.out)
          have HPOS := Lib.hid hpos
          have j4 := HJ.out.alloc (.int .i64 0) 3 (by unfold Plain; decide)
          have c7 : (wr.alloc (.cells #[.int .i64 0] 3)).cell? ⟨B7, 0, none⟩ = some (.pointer (some ⟨m, 0, none⟩)) := j4.cell (t := 24) (by simp)
          have J4 := Lib.hid j4
          clear j4 HLO HJ hpos
          go_wp2_with fail
          obtain ⟨B16, hB16⟩ : ∃ B16, B16 = wr.heap.size := ⟨_, rfl⟩
          rw [← hB16] at J4 ⊢
          generalize wr.alloc (.cells #[.int .i64 0] 3) = w7 at J4 c7 ⊢
          clear hB16 c15 f15 cc8
          refine (II.from_any m fr _).mono ?_
          rintro e we ⟨rfl, be, bk, ke⟩
          have SE := Lib.hid (J4.out.kept ke)
          have HR := Lib.hid (II.from1_runs _ _ fr FF m L we be bk SE.out.map)
          rw [← HPOS.out] at HR
          have hwT := SE.out.world.size
          have HFF := Lib.hid (show ∀ i, FF i → i < we.heap.size from SE.out.map.lt)
          have HNO : Hid (∀ D ∈ [D2, D1], D < we.heap.size) := Lib.hid (fun D h => lt_of_blk (SE.out.defs D h))
          clear J4 be bk ke c7
          generalize w7.heap.size = b7 at HR ⊢
          obtain ⟨sm, hsmm⟩ : ∃ sm, sm = st % 70 := ⟨_, rfl⟩
          have qs1 : ((st : Int).tmod 70) = (sm : Int) := by rw [hsmm, Int.tmod_eq_emod_of_nonneg (by omega)]; omega
          have hsm2 : sm < 70 := by omega
          clear hsmm
          go_wp2_with fail
          refine (wpIn_wide (n := 3)).1 ?_
          refine wpIn_runs_to rfl (enters_of Try.func38 (by kernel_rfl) rfl) HR.out (Kept.refl _ _) (fun _ => rfl) (fun p => [(17, II.ek p.1)]) (fun pre W => Hid (pre.length ≤ sm ∧ One w [(B16, .int .i64 ((pre.length : Nat) : Int), 3), (B15, .int .i64 (k : Int), 3), (B13, .int .i64 0, 3), (B8, .slice A8 kn c8, 48), (B7, .pointer (some ⟨m, 0, none⟩), 24), (B6, .bool false, 4), (B5, .int .u8 (st : Int), 5)] (.slice A8 kn c8) KS m L [D2, D1] FF W)) (fun cd pre W => Hid (cd = .exit 6 ∧ sm + 1 ≤ (L.drop k).length ∧ One w [(B16, .int .i64 ((sm : Int) + 1), 3), (B15, .int .i64 (k : Int), 3), (B13, .int .i64 0, 3), (B8, .slice A8 kn c8, 48), (B7, .pointer (some ⟨m, 0, none⟩), 24), (B6, .bool false, 4), (B5, .int .u8 (st : Int), 5)] (.slice A8 kn c8) KS m L [D2, D1] FF W))
            (fun s A B h k => Lib.hid ⟨h.out.1, h.out.2.abide k HFF.out hwT HNO.out⟩) (fun _ _ _ _ h k => Lib.hid ⟨h.out.1, h.out.2.1, h.out.2.2.abide k HFF.out hwT HNO.out⟩) (Lib.hid ⟨Nat.zero_le _, SE.out⟩) ?assign5 ?body5 ?done5 ?stop5
          case assign5 =>
            intro l p W K hK
            dsimp only [II.enc]
            simp only [landed, List.foldl_cons, List.foldl_nil, List.zip_toArray, List.zip_cons_cons, List.zip_nil_right, II.enc, List.foldl_toArray, List.setIfInBounds_toArray, List.set_cons_zero, List.set_cons_succ] at hK
            gi_wp2
            exact hK
          case body5 =>
            rintro l pre p rest W hLL hI
            simp only [landed, List.foldl_cons, List.foldl_nil, List.zip_toArray, List.zip_cons_cons, List.zip_nil_right, II.enc, List.foldl_toArray, List.setIfInBounds_toArray, List.set_cons_zero, List.set_cons_succ]
            obtain ⟨pk, pv⟩ := p
            obtain ⟨hqs, hI2⟩ := hI.out
            have hdl : (L.drop k).length = pre.length + 1 + rest.length := by rw [hLL]; simp; omega
            have hkq : KS[k + pre.length]? = some pk := by
              have h1 : (L.drop k)[pre.length]? = some (pk, pv) := by rw [hLL]; simp
              rw [List.getElem?_drop] at h1
              rw [HKS.out, List.getElem?_map, h1]; rfl
            have hkk : k + pre.length < kn := by have := (List.getElem?_eq_some_iff.1 hkq).1; rw [HKN.out]; exact this
            exact absurd hkk (by omega)
          case done5 =>
            intro D3 W3 hD3 hI hK
            obtain ⟨hle, hI2⟩ := hI.out
            have hdl : (L.drop k).length = kn - k := by rw [List.length_drop, ← HKL.out]
            obtain ⟨se, hse⟩ : ∃ se : Int, se = ((L.drop k).length : Nat) := ⟨_, rfl⟩
            have hSE : One w [(B16, .int .i64 se, 3), (B15, .int .i64 (k : Int), 3), (B13, .int .i64 0, 3), (B8, .slice A8 kn c8, 48), (B7, .pointer (some ⟨m, 0, none⟩), 24), (B6, .bool false, 4), (B5, .int .u8 (st : Int), 5)] (.slice A8 kn c8) KS m L [D2, D1] FF W3 := by rw [hse]; exact hI2
            have hs1 : se = (kn : Int) - (k : Int) ∧ (kn : Int) - (k : Int) ≤ sm := by omega
            clear hI hI2 hse hle hdl
            have hDw3 : w.heap.size ≤ D3 := Nat.le_trans hwT hD3
            have hDD3 : D2 < D3 := Nat.lt_of_lt_of_le (HNO.out D2 (by simp)) hD3
            have j3 : One w [(B16, .int .i64 se, 3), (B15, .int .i64 (k : Int), 3), (B13, .int .i64 0, 3), (B8, .slice A8 kn c8, 48), (B7, .pointer (some ⟨m, 0, none⟩), 24), (B6, .bool false, 4), (B5, .int .u8 (st : Int), 5)] (.slice A8 kn c8) KS m L [D3, D2, D1] FF W3.drew := (hSE.more hK).kept (Kept.drew _ _)
            have Q := Lib.hid (II.len_any FF m L W3.drew j3.map)
            rw [← HKL.out] at Q
            have j7 : One w [(B16, .int .i64 se, 3), (B15, .int .i64 (k : Int), 3), (B13, .int .i64 0, 3), (B8, .slice A8 kn c8, 48), (B7, .pointer (some ⟨m, 0, none⟩), 24), (B6, .bool true, 4), (B5, .int .u8 (st : Int), 5)] (.slice A8 kn c8) KS m L [D3, D2, D1] FF (W3.setCell ⟨B6, 0, none⟩ (.bool true)).drew := (One.put (m0 := 0) [(B16, .int .i64 se, 3), (B15, .int .i64 (k : Int), 3), (B13, .int .i64 0, 3), (B8, .slice A8 kn c8, 48), (B7, .pointer (some ⟨m, 0, none⟩), 24)] [(B5, .int .u8 (st : Int), 5)] B6 (.bool false) (.bool true) 4 (hSE.more hK)).2.2.kept (Kept.drew _ _)
            have eB13 : W3.drew.cell? ⟨B13, 0, none⟩ = some (.int .i64 0) := j3.cell (t := 3) (by simp)
            have sB13 : (W3.setCell ⟨B6, 0, none⟩ (.bool true)).drew.cell? ⟨B13, 0, none⟩ = some (.int .i64 0) := j7.cell (t := 3) (by simp)
            have eB8 : W3.drew.cell? ⟨B8, 0, none⟩ = some (.slice A8 kn c8) := j3.cell (t := 48) (by simp)
            have sB8 : (W3.setCell ⟨B6, 0, none⟩ (.bool true)).drew.cell? ⟨B8, 0, none⟩ = some (.slice A8 kn c8) := j7.cell (t := 48) (by simp)
            have eB7 : W3.drew.cell? ⟨B7, 0, none⟩ = some (.pointer (some ⟨m, 0, none⟩)) := j3.cell (t := 24) (by simp)
            have sB7 : (W3.setCell ⟨B6, 0, none⟩ (.bool true)).drew.cell? ⟨B7, 0, none⟩ = some (.pointer (some ⟨m, 0, none⟩)) := j7.cell (t := 24) (by simp)
            have eB16 : W3.drew.cell? ⟨B16, 0, none⟩ = some (.int .i64 se) := j3.cell (t := 3) (by simp)
            have sB16 : (W3.setCell ⟨B6, 0, none⟩ (.bool true)).drew.cell? ⟨B16, 0, none⟩ = some (.int .i64 se) := j7.cell (t := 3) (by simp)
            have eB15 : W3.drew.cell? ⟨B15, 0, none⟩ = some (.int .i64 (k : Int)) := j3.cell (t := 3) (by simp)
            have sB15 : (W3.setCell ⟨B6, 0, none⟩ (.bool true)).drew.cell? ⟨B15, 0, none⟩ = some (.int .i64 (k : Int)) := j7.cell (t := 3) (by simp)
            have eB5 : W3.drew.cell? ⟨B5, 0, none⟩ = some (.int .u8 (st : Int)) := j3.cell (t := 5) (by simp)
            have sB5 : (W3.setCell ⟨B6, 0, none⟩ (.bool true)).drew.cell? ⟨B5, 0, none⟩ = some (.int .u8 (st : Int)) := j7.cell (t := 5) (by simp)
            have c6 : W3.drew.cell? ⟨B6, 0, none⟩ = some (.bool false) := j3.cell (t := 4) (by simp)
            have f6 : W3.drew.frozen? ⟨B6, 0, none⟩ = false := j3.froz (t := 4) (v := .bool false) (by simp)
            have r7 : (W3.setCell ⟨B6, 0, none⟩ (.bool true)).drew.heap[B6]? = some (.cells #[.bool true] 4 (0, 0)) := j7.box (B6, .bool true, 4) (by simp)
            have x3 := j7.defs D3 (by simp)
            have x2 : ((W3.setCell ⟨B6, 0, none⟩ (.bool true)).drew.putObj D3 (.deferred none)).heap[D2]? = some (.deferred (some [])) := (World.putObj_heap_other (by omega)).trans (j7.defs D2 (by simp))
            have x1 : (((W3.setCell ⟨B6, 0, none⟩ (.bool true)).drew.putObj D3 (.deferred none)).putObj D2 (.deferred none)).heap[D1]? = some (.deferred (some [])) := (World.putObj_heap_other (by omega)).trans ((World.putObj_heap_other (by omega)).trans (j7.defs D1 (by simp)))
            have stp : Abide II.TT w.heap.size (W3.setCell ⟨B6, 0, none⟩ (.bool true)).drew ((((W3.setCell ⟨B6, 0, none⟩ (.bool true)).drew.putObj D3 (.deferred none)).putObj D2 (.deferred none)).putObj D1 (.deferred none)) :=
              ((Abide.putObj _ hDw3 x3 rfl).trans (Abide.putObj _ hDw2 x2 rfl)).trans (Abide.putObj _ hDw x1 rfl)
            have FIN := Lib.hid (Abide.kept j7.world stp (Nat.le_refl _))
            have R8 := Lib.hid (stp.blk r7 (.inr (by unfold II.TT; decide)))
            have X3 := Lib.hid x3
            have X2 := Lib.hid x2
            have X1 := Lib.hid x1
            have hws : IntKind.i64.wrap (sm : Int) = (sm : Int) := by rw [IntKind.wrap_i64]; omega
            have hwr : IntKind.i64.wrap ((sm : Int) + 1) = (sm : Int) + 1 := by rw [IntKind.wrap_i64]; omega
            have hwd : IntKind.i64.wrap ((kn : Int) - (k : Int)) = (kn : Int) - (k : Int) := by rw [IntKind.wrap_i64]; omega
            have qmin : (if (sm : Int) + 1 < (kn : Int) - (k : Int) then (sm : Int) + 1 else (kn : Int) - (k : Int)) = se := by split <;> omega
            clear j3 j7 stp r7 x3 x2 x1 hSE hK SE HR
            go_upto_region 28 with (fail)
            refine wp_region_noPanic ?_
            refine wp_region_held_drew (S := fun w' => w'.cell? ⟨B13, 0, none⟩ = some (.int .i64 0) ∧ w'.cell? ⟨B8, 0, none⟩ = some (.slice A8 kn c8) ∧ w'.cell? ⟨B7, 0, none⟩ = some (.pointer (some ⟨m, 0, none⟩)) ∧ w'.cell? ⟨B16, 0, none⟩ = some (.int .i64 se) ∧ w'.cell? ⟨B15, 0, none⟩ = some (.int .i64 (k : Int)) ∧ w'.cell? ⟨B5, 0, none⟩ = some (.int .u8 (st : Int))) (by kernel_rfl) ⟨eB13, eB8, eB7, eB16, eB15, eB5⟩ (fun hHeld => ?_)
            refine wpAnyH_take (i := 0) (oi := ⟨some 120, Op.load 3 (Operand.tmp 13), 3, _, _, none⟩) (v := ?v0n3k1) rfl (by kernel_rfl) (by kernel_rfl) (by kernel_rfl) (fun _ _ _ h => h) (Or.inl ⟨by rfl, ?y0n3k1⟩) hHeld ?z0n3k1
            case y0n3k1 => intro w hSw; (try dsimp only at hSw); go_simp <;> rfl
            try simp only [Act.put, List.setIfInBounds_toArray, List.set_cons_zero, List.set_cons_succ]
            refine wpAnyH_take (i := 1) (oi := ⟨some 121, Op.binOp BinOp.eql 3 (Operand.tmp 120) (Operand.const (Value.int IntKind.i64 0)) 3, 4, _, _, none⟩) (v := ?v1n3k2) rfl (by kernel_rfl) (by kernel_rfl) (by kernel_rfl) (fun _ _ _ h => h) (Or.inl ⟨by rfl, ?y1n3k2⟩) hHeld ?z1n3k2
            case y1n3k2 => intro w hSw; (try dsimp only at hSw); go_simp <;> rfl
            try simp only [Act.put, List.setIfInBounds_toArray, List.set_cons_zero, List.set_cons_succ]
            refine wpAnyH_take (i := 2) (oi := ⟨some 122, Op.move (Operand.tmp 121), 4, _, _, none⟩) (v := ?v2n3k3) rfl (by kernel_rfl) (by kernel_rfl) (by kernel_rfl) (fun _ _ _ h => h) (Or.inl ⟨by rfl, ?y2n3k3⟩) hHeld ?z2n3k3
            case y2n3k3 => intro w hSw; (try dsimp only at hSw); go_simp <;> rfl
            try simp only [Act.put, List.setIfInBounds_toArray, List.set_cons_zero, List.set_cons_succ]
            refine wpAnyH_take (i := 3) (oi := ⟨some 123, Op.load 48 (Operand.tmp 8), 48, _, _, some (2, true)⟩) (v := ?v3n3k4) rfl (by kernel_rfl) (by kernel_rfl) (by kernel_rfl) (fun _ _ _ h => h) (Or.inl ⟨by rfl, ?y3n3k4⟩) hHeld ?z3n3k4
            case y3n3k4 => intro w hSw; (try dsimp only at hSw); go_simp <;> rfl
            try simp only [Act.put, List.setIfInBounds_toArray, List.set_cons_zero, List.set_cons_succ]
            refine wpAnyH_take (i := 4) (oi := ⟨some 124, Op.call { callee := Callee.builtin Builtin.len, args := #[Operand.tmp 123], argTypes := #[48] }, 3, _, _, some (2, true)⟩) (v := ?v4n3k5) rfl (by kernel_rfl) (by kernel_rfl) (by kernel_rfl) (fun _ _ _ h => h) (Or.inl ⟨by rfl, ?y4n3k5⟩) hHeld ?z4n3k5
            case y4n3k5 => intro w hSw; (try dsimp only at hSw); go_simp <;> rfl
            try simp only [Act.put, List.setIfInBounds_toArray, List.set_cons_zero, List.set_cons_succ]
            refine wpAnyH_take (i := 5) (oi := ⟨some 125, Op.load 24 (Operand.tmp 7), 24, _, _, some (2, true)⟩) (v := ?v5n3k6) rfl (by kernel_rfl) (by kernel_rfl) (by kernel_rfl) (fun _ _ _ h => h) (Or.inl ⟨by rfl, ?y5n3k6⟩) hHeld ?z5n3k6
            case y5n3k6 => intro w hSw; (try dsimp only at hSw); go_simp <;> rfl
            try simp only [Act.put, List.setIfInBounds_toArray, List.set_cons_zero, List.set_cons_succ]
            refine wpAnyH_ready (rs := [6]) (by kernel_rfl) (by simp) ?_
            refine AllReadyH.cons (o := ⟨some 126, Op.call { callee := Callee.value (Operand.func 17), args := #[Operand.tmp 125], argTypes := #[24] }, 3, _, _, some (2, true)⟩) rfl (fun K hK => ?_) AllReadyH.nil
            go_simp
            refine Q.out.mono ?_
            rintro e w8 ⟨rfl, rfl⟩
            dsimp only
            refine hK.out _ _ ⟨eB13, eB8, eB7, eB16, eB15, eB5⟩ (fun hHeld => ?_)
            clear hK K
            try simp only [Act.put, List.setIfInBounds_toArray, List.set_cons_zero, List.set_cons_succ]
            refine wpAnyH_take (i := 7) (oi := ⟨some 127, Op.binOp BinOp.eql 3 (Operand.tmp 124) (Operand.tmp 126) 3, 4, _, _, some (2, true)⟩) (v := ?v7n3k7) rfl (by kernel_rfl) (by kernel_rfl) (by kernel_rfl) (fun _ _ _ h => h) (Or.inl ⟨by rfl, ?y7n3k7⟩) hHeld ?z7n3k7
            case y7n3k7 => intro w hSw; (try dsimp only at hSw); go_simp <;> rfl
            try simp only [Act.put, List.setIfInBounds_toArray, List.set_cons_zero, List.set_cons_succ]
            refine wpAnyH_take (i := 8) (oi := ⟨some 128, Op.pick (Operand.tmp 122) (Operand.tmp 127) (Operand.const (Value.bool false)), 4, _, _, none⟩) (v := ?v8n3k8) rfl (by kernel_rfl) (by kernel_rfl) (by kernel_rfl) (fun _ _ _ h => h) (Or.inl ⟨by rfl, ?y8n3k8⟩) hHeld ?z8n3k8
            case y8n3k8 => intro w hSw; (try dsimp only at hSw); go_simp <;> rfl
            try simp only [Act.put, List.setIfInBounds_toArray, List.set_cons_zero, List.set_cons_succ]
            refine wpAnyH_take (i := 9) (oi := ⟨some 129, Op.move (Operand.tmp 128), 4, _, _, none⟩) (v := ?v9n3k9) rfl (by kernel_rfl) (by kernel_rfl) (by kernel_rfl) (fun _ _ _ h => h) (Or.inl ⟨by rfl, ?y9n3k9⟩) hHeld ?z9n3k9
            case y9n3k9 => intro w hSw; (try dsimp only at hSw); go_simp <;> rfl
            try simp only [Act.put, List.setIfInBounds_toArray, List.set_cons_zero, List.set_cons_succ]
            refine wpAnyH_take (i := 10) (oi := ⟨some 130, Op.load 3 (Operand.tmp 16), 3, _, _, some (9, true)⟩) (v := ?v10n3k10) rfl (by kernel_rfl) (by kernel_rfl) (by kernel_rfl) (fun _ _ _ h => h) (Or.inl ⟨by rfl, ?y10n3k10⟩) hHeld ?z10n3k10
            case y10n3k10 => intro w hSw; (try dsimp only at hSw); go_simp <;> rfl
            try simp only [Act.put, List.setIfInBounds_toArray, List.set_cons_zero, List.set_cons_succ]
            refine wpAnyH_take (i := 11) (oi := ⟨some 131, Op.load 48 (Operand.tmp 8), 48, _, _, some (9, true)⟩) (v := ?v11n3k11) rfl (by kernel_rfl) (by kernel_rfl) (by kernel_rfl) (fun _ _ _ h => h) (Or.inl ⟨by rfl, ?y11n3k11⟩) hHeld ?z11n3k11
            case y11n3k11 => intro w hSw; (try dsimp only at hSw); go_simp <;> rfl
            try simp only [Act.put, List.setIfInBounds_toArray, List.set_cons_zero, List.set_cons_succ]
            refine wpAnyH_take (i := 12) (oi := ⟨some 132, Op.call { callee := Callee.builtin Builtin.len, args := #[Operand.tmp 131], argTypes := #[48] }, 3, _, _, some (9, true)⟩) (v := ?v12n3k12) rfl (by kernel_rfl) (by kernel_rfl) (by kernel_rfl) (fun _ _ _ h => h) (Or.inl ⟨by rfl, ?y12n3k12⟩) hHeld ?z12n3k12
            case y12n3k12 => intro w hSw; (try dsimp only at hSw); go_simp <;> rfl
            try simp only [Act.put, List.setIfInBounds_toArray, List.set_cons_zero, List.set_cons_succ]
            refine wpAnyH_take (i := 13) (oi := ⟨some 133, Op.load 3 (Operand.tmp 15), 3, _, _, some (9, true)⟩) (v := ?v13n3k13) rfl (by kernel_rfl) (by kernel_rfl) (by kernel_rfl) (fun _ _ _ h => h) (Or.inl ⟨by rfl, ?y13n3k13⟩) hHeld ?z13n3k13
            case y13n3k13 => intro w hSw; (try dsimp only at hSw); go_simp <;> rfl
            try simp only [Act.put, List.setIfInBounds_toArray, List.set_cons_zero, List.set_cons_succ]
            refine wpAnyH_take (i := 14) (oi := ⟨some 134, Op.binOp BinOp.sub 3 (Operand.tmp 132) (Operand.tmp 133) 3, 3, _, _, some (9, true)⟩) (v := ?v14n3k14) rfl (by kernel_rfl) (by kernel_rfl) (by kernel_rfl) (fun _ _ _ h => h) (Or.inl ⟨by rfl, ?y14n3k14⟩) hHeld ?z14n3k14
            case y14n3k14 => intro w hSw; (try dsimp only at hSw); go_simp <;> rfl
            try simp only [Act.put, List.setIfInBounds_toArray, List.set_cons_zero, List.set_cons_succ]
            refine wpAnyH_take (i := 15) (oi := ⟨some 135, Op.load 5 (Operand.tmp 5), 5, _, _, some (9, true)⟩) (v := ?v15n3k15) rfl (by kernel_rfl) (by kernel_rfl) (by kernel_rfl) (fun _ _ _ h => h) (Or.inl ⟨by rfl, ?y15n3k15⟩) hHeld ?z15n3k15
            case y15n3k15 => intro w hSw; (try dsimp only at hSw); go_simp <;> rfl
            try simp only [Act.put, List.setIfInBounds_toArray, List.set_cons_zero, List.set_cons_succ]
            refine wpAnyH_take (i := 16) (oi := ⟨some 136, Op.binOp BinOp.rem 5 (Operand.tmp 135) (Operand.const (Value.int IntKind.u8 70)) 5, 5, _, _, some (9, true)⟩) (v := ?v16n3k16) rfl (by kernel_rfl) (by kernel_rfl) (by kernel_rfl) (fun _ _ _ h => h) (Or.inl ⟨by rfl, ?y16n3k16⟩) hHeld ?z16n3k16
            case y16n3k16 => intro w hSw; (try dsimp only at hSw); go_simp <;> rfl
            try simp only [Act.put, List.setIfInBounds_toArray, List.set_cons_zero, List.set_cons_succ]
            refine wpAnyH_take (i := 17) (oi := ⟨some 137, Op.convert 5 3 (Operand.tmp 136), 3, _, _, some (9, true)⟩) (v := ?v17n3k17) rfl (by kernel_rfl) (by kernel_rfl) (by kernel_rfl) (fun _ _ _ h => h) (Or.inl ⟨by rfl, ?y17n3k17⟩) hHeld ?z17n3k17
            case y17n3k17 => intro w hSw; (try dsimp only at hSw); go_simp <;> rfl
            try simp only [Act.put, List.setIfInBounds_toArray, List.set_cons_zero, List.set_cons_succ]
            refine wpAnyH_take (i := 18) (oi := ⟨some 138, Op.binOp BinOp.add 3 (Operand.tmp 137) (Operand.const (Value.int IntKind.i64 1)) 3, 3, _, _, some (9, true)⟩) (v := ?v18n3k18) rfl (by kernel_rfl) (by kernel_rfl) (by kernel_rfl) (fun _ _ _ h => h) (Or.inl ⟨by rfl, ?y18n3k18⟩) hHeld ?z18n3k18
            case y18n3k18 => intro w hSw; (try dsimp only at hSw); go_simp <;> rfl
            try simp only [Act.put, List.setIfInBounds_toArray, List.set_cons_zero, List.set_cons_succ]
            refine wpAnyH_take (i := 19) (oi := ⟨some 139, Op.call { callee := Callee.builtin Builtin.min, args := #[Operand.tmp 134, Operand.tmp 138], argTypes := #[3, 3] }, 3, _, _, some (9, true)⟩) (v := ?v19n3k19) rfl (by kernel_rfl) (by kernel_rfl) (by kernel_rfl) (fun _ _ _ h => h) (Or.inl ⟨by rfl, ?y19n3k19⟩) hHeld ?z19n3k19
            case y19n3k19 => intro w hSw; (try dsimp only at hSw); go_simp <;> rfl
            try simp only [Act.put, List.setIfInBounds_toArray, List.set_cons_zero, List.set_cons_succ]
            refine wpAnyH_take (i := 20) (oi := ⟨some 140, Op.binOp BinOp.eql 3 (Operand.tmp 130) (Operand.tmp 139) 3, 4, _, _, some (9, true)⟩) (v := ?v20n3k20) rfl (by kernel_rfl) (by kernel_rfl) (by kernel_rfl) (fun _ _ _ h => h) (Or.inl ⟨by rfl, ?y20n3k20⟩) hHeld ?z20n3k20
            case y20n3k20 => intro w hSw; (try dsimp only at hSw); go_simp <;> rfl
            try simp only [Act.put, List.setIfInBounds_toArray, List.set_cons_zero, List.set_cons_succ]
            refine wpAnyH_take (i := 21) (oi := ⟨some 141, Op.pick (Operand.tmp 129) (Operand.tmp 140) (Operand.const (Value.bool false)), 4, _, _, none⟩) (v := ?v21n3k21) rfl (by kernel_rfl) (by kernel_rfl) (by kernel_rfl) (fun _ _ _ h => h) (Or.inl ⟨by rfl, ?y21n3k21⟩) hHeld ?z21n3k21
            case y21n3k21 => intro w hSw; (try dsimp only at hSw); go_simp <;> rfl
            try simp only [Act.put, List.setIfInBounds_toArray, List.set_cons_zero, List.set_cons_succ]
            refine wpAnyH_ready (rs := [22]) (by kernel_rfl) (by simp) ?_
            refine AllReadyH.cons (o := ⟨none, Op.store 4 (Operand.tmp 6) (Operand.tmp 141), 0, _, _, none⟩) rfl (fun K hK => ?_) AllReadyH.nil
            go_simp
            refine hK.out _ _ ⟨sB13, sB8, sB7, sB16, sB15, sB5⟩ (fun hHeld => ?_)
            clear hK K
            try simp only [Act.put, List.setIfInBounds_toArray, List.set_cons_zero, List.set_cons_succ]
            refine wpAnyH_done (by kernel_rfl) ?_ _
            refine NoPanic.normal ?_
            clear hHeld Q c6 f6
            go_wp2
            refine ⟨by simp, .inl ⟨_, _, rfl, run_takeDeferred X3.out, ?_⟩⟩
            refine ⟨by simp, .inl ⟨_, _, rfl, run_takeDeferred X2.out, ?_⟩⟩
            refine ⟨by simp, .inl ⟨_, _, rfl, run_takeDeferred X1.out, ?_⟩⟩
            exact ⟨_, results_box rfl _ _ B6 (.bool true) rfl (cell_of_row _ _ _ _ _ _ R8.out), rfl, FIN.out⟩
          case stop5 =>
            rintro D3 cd pre W3 hD3 _ h hK
            obtain ⟨rfl, hln, hI2⟩ := h.out
            rw [List.length_drop, ← HKL.out] at hln
            obtain ⟨se, hse⟩ : ∃ se : Int, se = (sm : Int) + 1 := ⟨_, rfl⟩
            have hSE : One w [(B16, .int .i64 se, 3), (B15, .int .i64 (k : Int), 3), (B13, .int .i64 0, 3), (B8, .slice A8 kn c8, 48), (B7, .pointer (some ⟨m, 0, none⟩), 24), (B6, .bool false, 4), (B5, .int .u8 (st : Int), 5)] (.slice A8 kn c8) KS m L [D2, D1] FF W3 := by rw [hse]; exact hI2
            have hs1 : se = (sm : Int) + 1 ∧ (sm : Int) + 1 ≤ (kn : Int) - (k : Int) := by omega
            clear h hI2 hse hln
            have hDw3 : w.heap.size ≤ D3 := Nat.le_trans hwT hD3
            have hDD3 : D2 < D3 := Nat.lt_of_lt_of_le (HNO.out D2 (by simp)) hD3
            have j3 : One w [(B16, .int .i64 se, 3), (B15, .int .i64 (k : Int), 3), (B13, .int .i64 0, 3), (B8, .slice A8 kn c8, 48), (B7, .pointer (some ⟨m, 0, none⟩), 24), (B6, .bool false, 4), (B5, .int .u8 (st : Int), 5)] (.slice A8 kn c8) KS m L [D3, D2, D1] FF W3.drew := (hSE.more hK).kept (Kept.drew _ _)
            have Q := Lib.hid (II.len_any FF m L W3.drew j3.map)
            rw [← HKL.out] at Q
            have j7 : One w [(B16, .int .i64 se, 3), (B15, .int .i64 (k : Int), 3), (B13, .int .i64 0, 3), (B8, .slice A8 kn c8, 48), (B7, .pointer (some ⟨m, 0, none⟩), 24), (B6, .bool true, 4), (B5, .int .u8 (st : Int), 5)] (.slice A8 kn c8) KS m L [D3, D2, D1] FF (W3.setCell ⟨B6, 0, none⟩ (.bool true)).drew := (One.put (m0 := 0) [(B16, .int .i64 se, 3), (B15, .int .i64 (k : Int), 3), (B13, .int .i64 0, 3), (B8, .slice A8 kn c8, 48), (B7, .pointer (some ⟨m, 0, none⟩), 24)] [(B5, .int .u8 (st : Int), 5)] B6 (.bool false) (.bool true) 4 (hSE.more hK)).2.2.kept (Kept.drew _ _)
            have eB13 : W3.drew.cell? ⟨B13, 0, none⟩ = some (.int .i64 0) := j3.cell (t := 3) (by simp)
            have sB13 : (W3.setCell ⟨B6, 0, none⟩ (.bool true)).drew.cell? ⟨B13, 0, none⟩ = some (.int .i64 0) := j7.cell (t := 3) (by simp)
            have eB8 : W3.drew.cell? ⟨B8, 0, none⟩ = some (.slice A8 kn c8) := j3.cell (t := 48) (by simp)
            have sB8 : (W3.setCell ⟨B6, 0, none⟩ (.bool true)).drew.cell? ⟨B8, 0, none⟩ = some (.slice A8 kn c8) := j7.cell (t := 48) (by simp)
            have eB7 : W3.drew.cell? ⟨B7, 0, none⟩ = some (.pointer (some ⟨m, 0, none⟩)) := j3.cell (t := 24) (by simp)
            have sB7 : (W3.setCell ⟨B6, 0, none⟩ (.bool true)).drew.cell? ⟨B7, 0, none⟩ = some (.pointer (some ⟨m, 0, none⟩)) := j7.cell (t := 24) (by simp)
            have eB16 : W3.drew.cell? ⟨B16, 0, none⟩ = some (.int .i64 se) := j3.cell (t := 3) (by simp)
            have sB16 : (W3.setCell ⟨B6, 0, none⟩ (.bool true)).drew.cell? ⟨B16, 0, none⟩ = some (.int .i64 se) := j7.cell (t := 3) (by simp)
            have eB15 : W3.drew.cell? ⟨B15, 0, none⟩ = some (.int .i64 (k : Int)) := j3.cell (t := 3) (by simp)
            have sB15 : (W3.setCell ⟨B6, 0, none⟩ (.bool true)).drew.cell? ⟨B15, 0, none⟩ = some (.int .i64 (k : Int)) := j7.cell (t := 3) (by simp)
            have eB5 : W3.drew.cell? ⟨B5, 0, none⟩ = some (.int .u8 (st : Int)) := j3.cell (t := 5) (by simp)
            have sB5 : (W3.setCell ⟨B6, 0, none⟩ (.bool true)).drew.cell? ⟨B5, 0, none⟩ = some (.int .u8 (st : Int)) := j7.cell (t := 5) (by simp)
            have c6 : W3.drew.cell? ⟨B6, 0, none⟩ = some (.bool false) := j3.cell (t := 4) (by simp)
            have f6 : W3.drew.frozen? ⟨B6, 0, none⟩ = false := j3.froz (t := 4) (v := .bool false) (by simp)
            have r7 : (W3.setCell ⟨B6, 0, none⟩ (.bool true)).drew.heap[B6]? = some (.cells #[.bool true] 4 (0, 0)) := j7.box (B6, .bool true, 4) (by simp)
            have x3 := j7.defs D3 (by simp)
            have x2 : ((W3.setCell ⟨B6, 0, none⟩ (.bool true)).drew.putObj D3 (.deferred none)).heap[D2]? = some (.deferred (some [])) := (World.putObj_heap_other (by omega)).trans (j7.defs D2 (by simp))
            have x1 : (((W3.setCell ⟨B6, 0, none⟩ (.bool true)).drew.putObj D3 (.deferred none)).putObj D2 (.deferred none)).heap[D1]? = some (.deferred (some [])) := (World.putObj_heap_other (by omega)).trans ((World.putObj_heap_other (by omega)).trans (j7.defs D1 (by simp)))
            have stp : Abide II.TT w.heap.size (W3.setCell ⟨B6, 0, none⟩ (.bool true)).drew ((((W3.setCell ⟨B6, 0, none⟩ (.bool true)).drew.putObj D3 (.deferred none)).putObj D2 (.deferred none)).putObj D1 (.deferred none)) :=
              ((Abide.putObj _ hDw3 x3 rfl).trans (Abide.putObj _ hDw2 x2 rfl)).trans (Abide.putObj _ hDw x1 rfl)
            have FIN := Lib.hid (Abide.kept j7.world stp (Nat.le_refl _))
            have R8 := Lib.hid (stp.blk r7 (.inr (by unfold II.TT; decide)))
            have X3 := Lib.hid x3
            have X2 := Lib.hid x2
            have X1 := Lib.hid x1
            have hws : IntKind.i64.wrap (sm : Int) = (sm : Int) := by rw [IntKind.wrap_i64]; omega
            have hwr : IntKind.i64.wrap ((sm : Int) + 1) = (sm : Int) + 1 := by rw [IntKind.wrap_i64]; omega
            have hwd : IntKind.i64.wrap ((kn : Int) - (k : Int)) = (kn : Int) - (k : Int) := by rw [IntKind.wrap_i64]; omega
            have qmin : (if (sm : Int) + 1 < (kn : Int) - (k : Int) then (sm : Int) + 1 else (kn : Int) - (k : Int)) = se := by split <;> omega
            clear j3 j7 stp r7 x3 x2 x1 hSE hK SE HR
            gi_wp2_with fail
            go_upto_region 28 with (fail)
            refine wp_region_noPanic ?_
            refine wp_region_held_drew (S := fun w' => w'.cell? ⟨B13, 0, none⟩ = some (.int .i64 0) ∧ w'.cell? ⟨B8, 0, none⟩ = some (.slice A8 kn c8) ∧ w'.cell? ⟨B7, 0, none⟩ = some (.pointer (some ⟨m, 0, none⟩)) ∧ w'.cell? ⟨B16, 0, none⟩ = some (.int .i64 se) ∧ w'.cell? ⟨B15, 0, none⟩ = some (.int .i64 (k : Int)) ∧ w'.cell? ⟨B5, 0, none⟩ = some (.int .u8 (st : Int))) (by kernel_rfl) ⟨eB13, eB8, eB7, eB16, eB15, eB5⟩ (fun hHeld => ?_)
            refine wpAnyH_take (i := 0) (oi := ⟨some 120, Op.load 3 (Operand.tmp 13), 3, _, _, none⟩) (v := ?v0n4k1) rfl (by kernel_rfl) (by kernel_rfl) (by kernel_rfl) (fun _ _ _ h => h) (Or.inl ⟨by rfl, ?y0n4k1⟩) hHeld ?z0n4k1
            case y0n4k1 => intro w hSw; (try dsimp only at hSw); go_simp <;> rfl
            try simp only [Act.put, List.setIfInBounds_toArray, List.set_cons_zero, List.set_cons_succ]
            refine wpAnyH_take (i := 1) (oi := ⟨some 121, Op.binOp BinOp.eql 3 (Operand.tmp 120) (Operand.const (Value.int IntKind.i64 0)) 3, 4, _, _, none⟩) (v := ?v1n4k2) rfl (by kernel_rfl) (by kernel_rfl) (by kernel_rfl) (fun _ _ _ h => h) (Or.inl ⟨by rfl, ?y1n4k2⟩) hHeld ?z1n4k2
            case y1n4k2 => intro w hSw; (try dsimp only at hSw); go_simp <;> rfl
            try simp only [Act.put, List.setIfInBounds_toArray, List.set_cons_zero, List.set_cons_succ]
            refine wpAnyH_take (i := 2) (oi := ⟨some 122, Op.move (Operand.tmp 121), 4, _, _, none⟩) (v := ?v2n4k3) rfl (by kernel_rfl) (by kernel_rfl) (by kernel_rfl) (fun _ _ _ h => h) (Or.inl ⟨by rfl, ?y2n4k3⟩) hHeld ?z2n4k3
            case y2n4k3 => intro w hSw; (try dsimp only at hSw); go_simp <;> rfl
            try simp only [Act.put, List.setIfInBounds_toArray, List.set_cons_zero, List.set_cons_succ]
            refine wpAnyH_take (i := 3) (oi := ⟨some 123, Op.load 48 (Operand.tmp 8), 48, _, _, some (2, true)⟩) (v := ?v3n4k4) rfl (by kernel_rfl) (by kernel_rfl) (by kernel_rfl) (fun _ _ _ h => h) (Or.inl ⟨by rfl, ?y3n4k4⟩) hHeld ?z3n4k4
            case y3n4k4 => intro w hSw; (try dsimp only at hSw); go_simp <;> rfl
            try simp only [Act.put, List.setIfInBounds_toArray, List.set_cons_zero, List.set_cons_succ]
            refine wpAnyH_take (i := 4) (oi := ⟨some 124, Op.call { callee := Callee.builtin Builtin.len, args := #[Operand.tmp 123], argTypes := #[48] }, 3, _, _, some (2, true)⟩) (v := ?v4n4k5) rfl (by kernel_rfl) (by kernel_rfl) (by kernel_rfl) (fun _ _ _ h => h) (Or.inl ⟨by rfl, ?y4n4k5⟩) hHeld ?z4n4k5
            case y4n4k5 => intro w hSw; (try dsimp only at hSw); go_simp <;> rfl
            try simp only [Act.put, List.setIfInBounds_toArray, List.set_cons_zero, List.set_cons_succ]
            refine wpAnyH_take (i := 5) (oi := ⟨some 125, Op.load 24 (Operand.tmp 7), 24, _, _, some (2, true)⟩) (v := ?v5n4k6) rfl (by kernel_rfl) (by kernel_rfl) (by kernel_rfl) (fun _ _ _ h => h) (Or.inl ⟨by rfl, ?y5n4k6⟩) hHeld ?z5n4k6
            case y5n4k6 => intro w hSw; (try dsimp only at hSw); go_simp <;> rfl
            try simp only [Act.put, List.setIfInBounds_toArray, List.set_cons_zero, List.set_cons_succ]
            refine wpAnyH_ready (rs := [6]) (by kernel_rfl) (by simp) ?_
            refine AllReadyH.cons (o := ⟨some 126, Op.call { callee := Callee.value (Operand.func 17), args := #[Operand.tmp 125], argTypes := #[24] }, 3, _, _, some (2, true)⟩) rfl (fun K hK => ?_) AllReadyH.nil
            go_simp
            refine Q.out.mono ?_
            rintro e w8 ⟨rfl, rfl⟩
            dsimp only
            refine hK.out _ _ ⟨eB13, eB8, eB7, eB16, eB15, eB5⟩ (fun hHeld => ?_)
            clear hK K
            try simp only [Act.put, List.setIfInBounds_toArray, List.set_cons_zero, List.set_cons_succ]
            refine wpAnyH_take (i := 7) (oi := ⟨some 127, Op.binOp BinOp.eql 3 (Operand.tmp 124) (Operand.tmp 126) 3, 4, _, _, some (2, true)⟩) (v := ?v7n4k7) rfl (by kernel_rfl) (by kernel_rfl) (by kernel_rfl) (fun _ _ _ h => h) (Or.inl ⟨by rfl, ?y7n4k7⟩) hHeld ?z7n4k7
            case y7n4k7 => intro w hSw; (try dsimp only at hSw); go_simp <;> rfl
            try simp only [Act.put, List.setIfInBounds_toArray, List.set_cons_zero, List.set_cons_succ]
            refine wpAnyH_take (i := 8) (oi := ⟨some 128, Op.pick (Operand.tmp 122) (Operand.tmp 127) (Operand.const (Value.bool false)), 4, _, _, none⟩) (v := ?v8n4k8) rfl (by kernel_rfl) (by kernel_rfl) (by kernel_rfl) (fun _ _ _ h => h) (Or.inl ⟨by rfl, ?y8n4k8⟩) hHeld ?z8n4k8
            case y8n4k8 => intro w hSw; (try dsimp only at hSw); go_simp <;> rfl
            try simp only [Act.put, List.setIfInBounds_toArray, List.set_cons_zero, List.set_cons_succ]
            refine wpAnyH_take (i := 9) (oi := ⟨some 129, Op.move (Operand.tmp 128), 4, _, _, none⟩) (v := ?v9n4k9) rfl (by kernel_rfl) (by kernel_rfl) (by kernel_rfl) (fun _ _ _ h => h) (Or.inl ⟨by rfl, ?y9n4k9⟩) hHeld ?z9n4k9
            case y9n4k9 => intro w hSw; (try dsimp only at hSw); go_simp <;> rfl
            try simp only [Act.put, List.setIfInBounds_toArray, List.set_cons_zero, List.set_cons_succ]
            refine wpAnyH_take (i := 10) (oi := ⟨some 130, Op.load 3 (Operand.tmp 16), 3, _, _, some (9, true)⟩) (v := ?v10n4k10) rfl (by kernel_rfl) (by kernel_rfl) (by kernel_rfl) (fun _ _ _ h => h) (Or.inl ⟨by rfl, ?y10n4k10⟩) hHeld ?z10n4k10
            case y10n4k10 => intro w hSw; (try dsimp only at hSw); go_simp <;> rfl
            try simp only [Act.put, List.setIfInBounds_toArray, List.set_cons_zero, List.set_cons_succ]
            refine wpAnyH_take (i := 11) (oi := ⟨some 131, Op.load 48 (Operand.tmp 8), 48, _, _, some (9, true)⟩) (v := ?v11n4k11) rfl (by kernel_rfl) (by kernel_rfl) (by kernel_rfl) (fun _ _ _ h => h) (Or.inl ⟨by rfl, ?y11n4k11⟩) hHeld ?z11n4k11
            case y11n4k11 => intro w hSw; (try dsimp only at hSw); go_simp <;> rfl
            try simp only [Act.put, List.setIfInBounds_toArray, List.set_cons_zero, List.set_cons_succ]
            refine wpAnyH_take (i := 12) (oi := ⟨some 132, Op.call { callee := Callee.builtin Builtin.len, args := #[Operand.tmp 131], argTypes := #[48] }, 3, _, _, some (9, true)⟩) (v := ?v12n4k12) rfl (by kernel_rfl) (by kernel_rfl) (by kernel_rfl) (fun _ _ _ h => h) (Or.inl ⟨by rfl, ?y12n4k12⟩) hHeld ?z12n4k12
            case y12n4k12 => intro w hSw; (try dsimp only at hSw); go_simp <;> rfl
            try simp only [Act.put, List.setIfInBounds_toArray, List.set_cons_zero, List.set_cons_succ]
            refine wpAnyH_take (i := 13) (oi := ⟨some 133, Op.load 3 (Operand.tmp 15), 3, _, _, some (9, true)⟩) (v := ?v13n4k13) rfl (by kernel_rfl) (by kernel_rfl) (by kernel_rfl) (fun _ _ _ h => h) (Or.inl ⟨by rfl, ?y13n4k13⟩) hHeld ?z13n4k13
            case y13n4k13 => intro w hSw; (try dsimp only at hSw); go_simp <;> rfl
            try simp only [Act.put, List.setIfInBounds_toArray, List.set_cons_zero, List.set_cons_succ]
            refine wpAnyH_take (i := 14) (oi := ⟨some 134, Op.binOp BinOp.sub 3 (Operand.tmp 132) (Operand.tmp 133) 3, 3, _, _, some (9, true)⟩) (v := ?v14n4k14) rfl (by kernel_rfl) (by kernel_rfl) (by kernel_rfl) (fun _ _ _ h => h) (Or.inl ⟨by rfl, ?y14n4k14⟩) hHeld ?z14n4k14
            case y14n4k14 => intro w hSw; (try dsimp only at hSw); go_simp <;> rfl
            try simp only [Act.put, List.setIfInBounds_toArray, List.set_cons_zero, List.set_cons_succ]
            refine wpAnyH_take (i := 15) (oi := ⟨some 135, Op.load 5 (Operand.tmp 5), 5, _, _, some (9, true)⟩) (v := ?v15n4k15) rfl (by kernel_rfl) (by kernel_rfl) (by kernel_rfl) (fun _ _ _ h => h) (Or.inl ⟨by rfl, ?y15n4k15⟩) hHeld ?z15n4k15
            case y15n4k15 => intro w hSw; (try dsimp only at hSw); go_simp <;> rfl
            try simp only [Act.put, List.setIfInBounds_toArray, List.set_cons_zero, List.set_cons_succ]
            refine wpAnyH_take (i := 16) (oi := ⟨some 136, Op.binOp BinOp.rem 5 (Operand.tmp 135) (Operand.const (Value.int IntKind.u8 70)) 5, 5, _, _, some (9, true)⟩) (v := ?v16n4k16) rfl (by kernel_rfl) (by kernel_rfl) (by kernel_rfl) (fun _ _ _ h => h) (Or.inl ⟨by rfl, ?y16n4k16⟩) hHeld ?z16n4k16
            case y16n4k16 => intro w hSw; (try dsimp only at hSw); go_simp <;> rfl
            try simp only [Act.put, List.setIfInBounds_toArray, List.set_cons_zero, List.set_cons_succ]
            refine wpAnyH_take (i := 17) (oi := ⟨some 137, Op.convert 5 3 (Operand.tmp 136), 3, _, _, some (9, true)⟩) (v := ?v17n4k17) rfl (by kernel_rfl) (by kernel_rfl) (by kernel_rfl) (fun _ _ _ h => h) (Or.inl ⟨by rfl, ?y17n4k17⟩) hHeld ?z17n4k17
            case y17n4k17 => intro w hSw; (try dsimp only at hSw); go_simp <;> rfl
            try simp only [Act.put, List.setIfInBounds_toArray, List.set_cons_zero, List.set_cons_succ]
            refine wpAnyH_take (i := 18) (oi := ⟨some 138, Op.binOp BinOp.add 3 (Operand.tmp 137) (Operand.const (Value.int IntKind.i64 1)) 3, 3, _, _, some (9, true)⟩) (v := ?v18n4k18) rfl (by kernel_rfl) (by kernel_rfl) (by kernel_rfl) (fun _ _ _ h => h) (Or.inl ⟨by rfl, ?y18n4k18⟩) hHeld ?z18n4k18
            case y18n4k18 => intro w hSw; (try dsimp only at hSw); go_simp <;> rfl
            try simp only [Act.put, List.setIfInBounds_toArray, List.set_cons_zero, List.set_cons_succ]
            refine wpAnyH_take (i := 19) (oi := ⟨some 139, Op.call { callee := Callee.builtin Builtin.min, args := #[Operand.tmp 134, Operand.tmp 138], argTypes := #[3, 3] }, 3, _, _, some (9, true)⟩) (v := ?v19n4k19) rfl (by kernel_rfl) (by kernel_rfl) (by kernel_rfl) (fun _ _ _ h => h) (Or.inl ⟨by rfl, ?y19n4k19⟩) hHeld ?z19n4k19
            case y19n4k19 => intro w hSw; (try dsimp only at hSw); go_simp <;> rfl
            try simp only [Act.put, List.setIfInBounds_toArray, List.set_cons_zero, List.set_cons_succ]
            refine wpAnyH_take (i := 20) (oi := ⟨some 140, Op.binOp BinOp.eql 3 (Operand.tmp 130) (Operand.tmp 139) 3, 4, _, _, some (9, true)⟩) (v := ?v20n4k20) rfl (by kernel_rfl) (by kernel_rfl) (by kernel_rfl) (fun _ _ _ h => h) (Or.inl ⟨by rfl, ?y20n4k20⟩) hHeld ?z20n4k20
            case y20n4k20 => intro w hSw; (try dsimp only at hSw); go_simp <;> rfl
            try simp only [Act.put, List.setIfInBounds_toArray, List.set_cons_zero, List.set_cons_succ]
            refine wpAnyH_take (i := 21) (oi := ⟨some 141, Op.pick (Operand.tmp 129) (Operand.tmp 140) (Operand.const (Value.bool false)), 4, _, _, none⟩) (v := ?v21n4k21) rfl (by kernel_rfl) (by kernel_rfl) (by kernel_rfl) (fun _ _ _ h => h) (Or.inl ⟨by rfl, ?y21n4k21⟩) hHeld ?z21n4k21
            case y21n4k21 => intro w hSw; (try dsimp only at hSw); go_simp <;> rfl
            try simp only [Act.put, List.setIfInBounds_toArray, List.set_cons_zero, List.set_cons_succ]
            refine wpAnyH_ready (rs := [22]) (by kernel_rfl) (by simp) ?_
            refine AllReadyH.cons (o := ⟨none, Op.store 4 (Operand.tmp 6) (Operand.tmp 141), 0, _, _, none⟩) rfl (fun K hK => ?_) AllReadyH.nil
            go_simp
            refine hK.out _ _ ⟨sB13, sB8, sB7, sB16, sB15, sB5⟩ (fun hHeld => ?_)
            clear hK K
            try simp only [Act.put, List.setIfInBounds_toArray, List.set_cons_zero, List.set_cons_succ]
            refine wpAnyH_done (by kernel_rfl) ?_ _
            refine NoPanic.normal ?_
            clear hHeld Q c6 f6
            go_wp2
            refine ⟨by simp, .inl ⟨_, _, rfl, run_takeDeferred X3.out, ?_⟩⟩
            refine ⟨by simp, .inl ⟨_, _, rfl, run_takeDeferred X2.out, ?_⟩⟩
            refine ⟨by simp, .inl ⟨_, _, rfl, run_takeDeferred X1.out, ?_⟩⟩
            exact ⟨_, results_box rfl _ _ B6 (.bool true) rfl (cell_of_row _ _ _ _ _ _ R8.out), rfl, FIN.out⟩
    case stop2 =>
      rintro D c pre W _ _ h _
      exact h.elim
  case stop =>
    rintro D c pre W _ _ h _
    exact h.elim
end Go.Proofs.Ytohanlhfbfodlaa
