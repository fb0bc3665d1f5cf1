/-
  The walk of StateApply. No statement is proved here.
-/
import Derived.Test.YtgmjnjbmolalmaaL7Mdl
import Derived.Test.YtgmjnjbmolalmaaL7Shows
import Derived.Test.YtgmjnjbmolalmaaL7Tale
import Derived.Test.YtgmjnjbmolalmaaStgK
namespace Go.Proofs.Ytgmjnjbmolalmaa
open Go.RowKit Tot

/-- The model that was just made, and a state without anything. -/
def mkM (w : World) : World :=
  ((((w.alloc (.map #[] 0)).alloc (.map #[] 0)).alloc (.map #[] 0)).alloc (.cells #[.int .i64 0, .int .i64 0, .map (some w.heap.size), .map (some (w.heap.size + 1)), .map (some (w.heap.size + 1 + 1))] 29)).alloc (.cells #[.int .i64 0, .int .i64 0, .slice none 0 0, .slice none 0 0] 33)
theorem mkM_all (w : World) : Kept noBlock w (mkM w) ∧ Md (mkM w) (w.heap.size + 1 + 1 + 1) w.heap.size (w.heap.size + 1) (w.heap.size + 1 + 1) noState ∧ (mkM w).heap[w.heap.size + 1 + 1 + 1 + 1]? = some (.cells #[.int .i64 0, .int .i64 0, .slice none 0 0, .slice none 0 0] 33 (0, 0)) := by
  unfold mkM
  refine ⟨((((Kept.alloc _ _ _).step (Kept.alloc _ _ _)).step (Kept.alloc _ _ _)).step (Kept.alloc _ _ _)).step (Kept.alloc _ _ _), ⟨?_, ?_, ?_, ?_, by omega, by omega, by omega⟩, heap_alloc_at (by simp)⟩
  · exact (Kept.alloc noBlock _ _).blk (heap_alloc_at (by simp)) (fun h => h)
  · exact (MS.Tb.made w).keep ((((Kept.alloc noBlock _ _).step (Kept.alloc _ _ _)).step (Kept.alloc _ _ _)).step (Kept.alloc _ _ _)) (fun h => h)
  · have := (MI.Tb.made (w.alloc (.map #[] 0))).keep (((Kept.alloc noBlock _ (.map #[] 0)).step (Kept.alloc _ _ (.cells #[.int .i64 0, .int .i64 0, .map (some w.heap.size), .map (some (w.heap.size + 1)), .map (some (w.heap.size + 1 + 1))] 29))).step (Kept.alloc _ _ (.cells #[.int .i64 0, .int .i64 0, .slice none 0 0, .slice none 0 0] 33))) (fun h => h)
    rw [show (w.alloc (.map #[] 0)).heap.size = w.heap.size + 1 by simp] at this
    exact this
  · have := (MR.Tb.made ((w.alloc (.map #[] 0)).alloc (.map #[] 0))).keep ((Kept.alloc noBlock _ (.cells #[.int .i64 0, .int .i64 0, .map (some w.heap.size), .map (some (w.heap.size + 1)), .map (some (w.heap.size + 1 + 1))] 29)).step (Kept.alloc _ _ (.cells #[.int .i64 0, .int .i64 0, .slice none 0 0, .slice none 0 0] 33))) (fun h => h)
    rw [show ((w.alloc (.map #[] 0)).alloc (.map #[] 0)).heap.size = w.heap.size + 1 + 1 by simp] at this
    exact this

set_option maxRecDepth 100000 in
set_option maxHeartbeats 1000000 in
theorem apply7_walk (F : Nat → Prop) (a : Option Addr) (n cp : Nat) (ss : List SayV) (many : UInt8) (w : World) (h : Lies w F a (sayCells ss)) (hl : ss.length = n) (hnc : n ≤ cp) :
    Calls Try.prog 3 #[.slice a n cp, .int .u8 (many.toNat : Int)] w fun e w' => e = .returned (.bool true) ∧ Kept noBlock w w' := by
  have EN : Hid (∀ u, Kept noBlock w u → _) := fun u k => ents_any F a n cp 1 0 ss (entsS ss) u (h.keep k (fun _ _ h => h)) hl hnc rfl (by decide) (by decide) (by decide) (by decide)
  have hL80 := entsS_length ss
  obtain ⟨L0, hL0⟩ : ∃ L0, L0 = (entsS ss).length := ⟨_, rfl⟩
  rw [← hL0] at EN hL80
  have HL0 := Lib.hid hL0
  clear h hl hnc hL0
  go_enter Try.func3, Try.ntmps3
  go_wp2_with fail
  refine (awake_any _).mono ?_
  rintro e w1 ⟨rfl, k1⟩
  obtain ⟨ka, hMd, hSb⟩ := mkM_all w1
  have hmm := @run_makeMap Try.prog
  go_upto_region 5 with (fail)
  change Code.wp _ _ _ _ (mkM w1)
  generalize mkM w1 = w2 at ka hMd hSb ⊢
  obtain ⟨S, hS⟩ : ∃ S, S = w1.heap.size + 1 + 1 + 1 + 1 := ⟨_, rfl⟩
  obtain ⟨m, hm⟩ : ∃ m, m = w1.heap.size + 1 + 1 + 1 := ⟨_, rfl⟩
  obtain ⟨b3, hb3⟩ : ∃ b, b = w1.heap.size + 1 + 1 := ⟨_, rfl⟩
  obtain ⟨b2, hb2⟩ : ∃ b, b = w1.heap.size + 1 := ⟨_, rfl⟩
  obtain ⟨b1, hb1⟩ : ∃ b, b = w1.heap.size := ⟨_, rfl⟩
  have hMS : (∀ i, Mb m b1 b2 b3 i → i ≠ S) ∧ (∀ i, Mb m b1 b2 b3 i → w.heap.size ≤ i) ∧ w.heap.size ≤ S := by
    have := k1.size
    exact ⟨fun i hi => by rcases hi with h | h | h | h <;> omega, fun i hi => by rcases hi with h | h | h | h <;> omega, by omega⟩
  rw [← hS] at hSb ⊢
  rw [← hm] at hMd ⊢
  rw [← hb3] at hMd ⊢
  rw [← hb2] at hMd ⊢
  rw [← hb1] at hMd ⊢
  have MSS := Lib.hid hMS
  have HM2 := Lib.hid hMd
  have HS2 := Lib.hid hSb
  have K2 := Lib.hid (k1.step ka)
  have LTM := Lib.hid hMd.lt
  have LTS := Lib.hid (lt_of_blk hSb)
  clear hMS hS hm hb3 hb2 hb1 hSb hMd k1 ka hmm
  go_wp2_with fail
  refine (EN.out w2 K2.out).mono ?_
  rintro en w3 ⟨A3, c3, rfl, o3, k3⟩
  have HX3 : Hid (∃ (L : Nat) (xs : List Value), Hid (L = L0 + 0) ∧ Hid (xs = entCells (allE ss 0)) ∧ Hid (w3.ownsRow 0 41 8 (.slice A3 L c3) L xs)) := ⟨L0, _, rfl, by unfold Hid; rw [allE_zero], by rw [HL0.out]; rw [HL0.out] at o3; exact own_base o3 (fun _ _ => Nat.zero_le _)⟩
  have HB3 : Hid (∀ b, (Value.slice A3 L0 c3).ownBlock = some b → w2.heap.size ≤ b) := fun b hb => (o3.lt b hb).1
  have K3 := Lib.hid k3
  clear o3 k3 EN
  obtain ⟨T, hT⟩ : ∃ T, T = many.toNat % 70 := ⟨_, rfl⟩
  have t1 : ((many.toNat : Int)).tmod 70 = (T : Int) := by rw [hT]; exact tmod_nat _ 70
  have hT70 : T < 70 := by omega
  have hwT : IntKind.i64.wrap (T : Int) = (T : Int) := wrap_nat T (by omega)
  have HT := Lib.hid hT
  clear hT
  go_wp2_with fail
  go_loopw [7, 8] (fun v i wr => ∃ (j L : Nat) (A : Option Addr) (cc : Nat) (xs : List Value), j ≤ T ∧ i = .int .i64 (j : Int) ∧ v = .slice A L cc ∧ Hid (L = L0 + j) ∧ L ≤ 150 ∧ Hid (xs = entCells (allE ss j)) ∧ Hid (wr.ownsRow 0 41 8 (.slice A L cc) L xs) ∧ Hid (Kept noBlock w2 wr) ∧ Hid (∀ b, (Value.slice A L cc).ownBlock = some b → w2.heap.size ≤ b)) (fun _ i _ => T - (intOf i).toNat)
  case atStart =>
    exact ⟨0, L0, A3, c3, entCells (allE ss 0), by omega, rfl, rfl, rfl, by omega, rfl, by obtain ⟨L, xs, hl, hx, ho⟩ := HX3.out; have e1 := hl.out; have e2 := hx.out; subst e1 e2; exact ho, K3, HB3⟩
  case round =>
    obtain ⟨j, L, A, cc, xs, hj, rfl, rfl, HLJ, hL150, HX, HO, HK, HB⟩ := hrel
    by_cases hlt : j < T
    · obtain ⟨y, hy⟩ : ∃ y, y = UInt8.ofNat (33 + j) := ⟨_, rfl⟩
      have hyn : (33 + (j : Int)) = (y.toNat : Int) := by rw [hy]; simp; omega
      have hyb : IntKind.u8.wrap (33 + (j : Int)) = (y.toNat : Int) := by rw [hyn]; have := y.toNat_lt; simp [IntKind.wrap, IntKind.signed, IntKind.bits]; omega
      have hcv : ∀ c, (convert 37 9 (.slice (some ⟨wr.heap.size, 0, none⟩) 1 c)).run Try.prog (wr.alloc (.cells #[.int .u8 (y.toNat : Int)] 5)) = .ok (.string (str [y])) (wr.alloc (.cells #[.int .u8 (y.toNat : Int)] 5)) :=
        fun c => run_str_lies (P := Try.prog) 37 9 5 Try.underlying37 Try.underlying5 Try.underlying9 (Lies.new wr (fun _ => True) ([y].map bv) 5 (0, 0) trivial) rfl c
      have HY := Lib.hid hy
      clear hy hyn
      have HEV : Hid ((⟨(L : Int) + 1, 90, ⟨1, 3, 100 + (j : Int), str [y], ⟨#[120]⟩, ⟨#[]⟩⟩⟩ : EntryV) = tailE (entsS ss).length j) := by
        unfold Hid tailE
        rw [← HL0.out, HLJ.out, HY.out]
        congr 1
      have ka := (Kept.alloc noBlock wr (.cells #[.int .u8 (y.toNat : Int)] 5)).step (Kept.alloc _ _ (.cells (EntryV.cells ⟨(L : Int) + 1, 90, ⟨1, 3, 100 + (j : Int), str [y], ⟨#[120]⟩, ⟨#[]⟩⟩⟩).toArray 41))
      have HOA := Lib.hid (own_keep HO.out ka (fun _ _ h => h))
      have KA := Lib.hid (HK.out.step ka)
      clear ka
      go_wp2_with (at_builtin; refine wpList_append_src rfl (.tmp 31) (.tmp 44) 34 34 rfl 41 noEntry.val 8 88 Try.underlying34 Try.infoEntry rfl (.slice A L cc) L xs rfl HOA.out _ 1 (entCells [⟨(L : Int) + 1, 90, ⟨1, 3, 100 + (j : Int), str [y], ⟨#[120]⟩, ⟨#[]⟩⟩⟩]) rfl (src_entry ⟨(L : Int) + 1, 90, ⟨1, 3, 100 + (j : Int), str [y], ⟨#[120]⟩, ⟨#[]⟩⟩⟩ (heap_alloc_at (n := wr.heap.size + 1) (by simp))) ?c3 ?c4 ?_)
      case c3 => unfold maxLen; omega
      case c4 => omega
      intro A' c' w4 hown4 k4 hat
      have HO4 := Lib.hid hown4
      have K4 := Lib.hid (KA.out.trans k4 (fun i hi h => absurd (HB.out i h) (by omega)))
      have HB4 : Hid (∀ b, (Value.slice A' (L + 1) c').ownBlock = some b → w2.heap.size ≤ b) := fun b hb => by
        rcases hat b hb with h | h
        · exact HB.out b h
        · exact Nat.le_trans KA.out.size h.1
      have HX4 : Hid (xs ++ entCells [⟨(L : Int) + 1, 90, ⟨1, 3, 100 + (j : Int), str [y], ⟨#[120]⟩, ⟨#[]⟩⟩⟩] = entCells (allE ss (j + 1))) := by
        unfold Hid
        rw [allE_succ, entCells_append, HX.out, HEV.out]
      have HL4 : Hid (L + 1 = L0 + (j + 1)) := by unfold Hid; rw [HLJ.out]; rfl
      have hl4 : L + 1 ≤ 150 := by have := HLJ.out; omega
      clear hown4 k4 hat hcv hyb HEV HOA KA
      go_wp2
      go_roundw
      case rel => exact ⟨j + 1, L + 1, A', c', _, by omega, by go_num, rfl, HL4, hl4, HX4, HO4, K4, HB4⟩
      case measure => simp [intOf]; omega
    · obtain rfl : j = T := by omega
      obtain ⟨es, hes⟩ : ∃ es, es = allE ss j := ⟨_, rfl⟩
      have hlen : es.length = L := by rw [hes, allE_length, ← HL0.out, HLJ.out]
      have hrow : rowB es (noState.index + 1) noState.term = true := by rw [hes]; exact allE_row ss j (by omega)
      have hlies : Lies wr (fun i => w2.heap.size ≤ i) A (entCells es) := by
        rw [hes, ← HX.out]
        exact Lies.of_rows HO.out HB.out
      have hcc : L ≤ cc := by obtain ⟨_, _, e, hle⟩ := own_form HO.out; injection e with _ _ e; omega
      have HLEN := Lib.hid hlen
      have HLI := Lib.hid hlies
      have HNX : Hid (∀ k e, es[k]? = some e → NextE (foldV noState (es.take k)) e) := fun k e he => row_next hrow he
      have HM3 := Lib.hid (HM2.out.kept HK.out)
      have HS3 := Lib.hid (HK.out.blk HS2.out (fun h => h))
      have K3' := Lib.hid (K2.out.step HK.out)
      have HZ2 := Lib.hid HK.out.size
      have HSX : Hid (∃ A' c' B' d', wr.heap[S]? = some (.cells #[.int .i64 (foldV noState (es.take 0)).index, .int .i64 (foldV noState (es.take 0)).term, .slice A' (foldV noState (es.take 0)).pairs.length c', .slice B' (foldV noState (es.take 0)).sess.length d'] 33 (0, 0)) ∧ Sv wr (fun i => ¬ Mb m b1 b2 b3 i ∧ i ≠ S) (foldV noState (es.take 0)) A' c' B' d') := ⟨none, 0, none, 0, HS3.out, Sv.none _ _⟩
      have HM4 : Hid (Md wr m b1 b2 b3 (foldV noState (es.take 0))) := HM3.out
      obtain ⟨KP, hKP⟩ : ∃ KP : World → Prop, ∀ u, KP u ↔ Kept (fun i => Mb m b1 b2 b3 i ∨ i = S) wr u := ⟨_, fun _ => Iff.rfl⟩
      have KPI := Lib.hid hKP
      have KP0 : Hid (KP wr) := (hKP wr).2 (Kept.refl _ _)
      clear hKP
      clear hes hlen hrow hlies HX HO HB HLJ HX3 HB3 HL0 HM2 HS2 K2 HM3 HS3 K3 HT
      go_wp2_with fail
      clear t1 hwT hT70
      go_loopw [48] (fun i wz => ∃ k : Nat, k ≤ L ∧ i = .int .i64 (k : Int) ∧ Hid (Md wz m b1 b2 b3 (foldV noState (es.take k))) ∧ Hid (∃ A' c' B' d', wz.heap[S]? = some (.cells #[.int .i64 (foldV noState (es.take k)).index, .int .i64 (foldV noState (es.take k)).term, .slice A' (foldV noState (es.take k)).pairs.length c', .slice B' (foldV noState (es.take k)).sess.length d'] 33 (0, 0)) ∧ Sv wz (fun i => ¬ Mb m b1 b2 b3 i ∧ i ≠ S) (foldV noState (es.take k)) A' c' B' d') ∧ Hid (KP wz)) (fun i _ => L - (intOf i).toNat)
      case atStart => exact ⟨0, by omega, rfl, HM4, HSX, KP0⟩
      case round =>
        clear HM4 HSX KP0 HK
        obtain ⟨k, hk, rfl, HM, HSX, HKP⟩ := hrel
        have HK := Lib.hid ((KPI.out _).1 HKP.out)
        by_cases hlt2 : k < L
        · obtain ⟨e, he⟩ : ∃ e, es[k]? = some e := ⟨_, List.getElem?_eq_getElem (by have := HLEN.out; omega)⟩
          obtain ⟨g, o, rfl, hg, ea⟩ := ents_cell (HLI.out.keep HK.out (fun i hi h => by have := LTS.out; exact h.elim (fun h => by have := LTM.out i h; omega) (fun h => by omega))) he
          obtain ⟨e0, e1, e2, e3, e4, e5, e6, e7⟩ := ea
          have HN := Lib.hid (HNX.out k e he)
          obtain ⟨st, hst⟩ : ∃ st, st = foldV noState (es.take k) := ⟨_, rfl⟩
          have hr : st.Right := by rw [hst]; exact foldV_right noState_right _
          have hst' : (stepV st e).1 = foldV noState (es.take (k + 1)) := by rw [take_snoc es k e he, foldV_snoc, hst]
          rw [← hst] at HM HSX HN
          obtain ⟨sn, hsn⟩ : ∃ sn, sn = (stepV st e).1 := ⟨_, rfl⟩
          obtain ⟨rp, hrp⟩ : ∃ rp, rp = (stepV st e).2 := ⟨_, rfl⟩
          have hrn : sn.Right := by rw [hsn]; exact stepV_right hr e
          have HST : Hid (sn = foldV noState (es.take (k + 1))) := by unfold Hid; rw [hsn]; exact hst'
          have HR := Lib.hid hr
          have HRN := Lib.hid hrn
          have HSN := Lib.hid hsn
          have HRP := Lib.hid hrp
          obtain ⟨A1, c1, B1, d1, hsb, hsv⟩ := HSX.out
          have HSB := Lib.hid hsb
          have HSV := Lib.hid hsv
          have ka := Kept.alloc noBlock wr (.cells #[.int .i64 e.index, .int .i64 e.term, .int .i64 e.cmd.op, .int .i64 e.cmd.client, .int .i64 e.cmd.seq, .string e.cmd.key, .string e.cmd.value, .string e.cmd.old] 41)
          have ha := heap_alloc_new wr (.cells #[.int .i64 e.index, .int .i64 e.term, .int .i64 e.cmd.op, .int .i64 e.cmd.client, .int .i64 e.cmd.seq, .string e.cmd.key, .string e.cmd.value, .string e.cmd.old] 41)
          clear he hg hst hst' hr hrn hsn hrp hsb hsv HSX
          go_upto_region 13 with (fail)
          obtain ⟨E, hE⟩ : ∃ E, E = wr.heap.size := ⟨_, rfl⟩
          rw [← hE] at ha ⊢
          generalize wr.alloc (.cells #[.int .i64 e.index, .int .i64 e.term, .int .i64 e.cmd.op, .int .i64 e.cmd.client, .int .i64 e.cmd.seq, .string e.cmd.key, .string e.cmd.value, .string e.cmd.old] 41) = u1 at ka ha ⊢
          have NQ : Hid (∀ i, Mb m b1 b2 b3 i ∨ i = S → i < E) := fun i hi => by
            have h1 := HZ2.out
            have h2 := HK.out.size
            have h3 := LTS.out
            exact hi.elim (fun h => by have := LTM.out i h; omega) (fun h => by omega)
          have EC : Hid (∀ u : World, u.heap[E]? = some (.cells #[.int .i64 e.index, .int .i64 e.term, .int .i64 e.cmd.op, .int .i64 e.cmd.client, .int .i64 e.cmd.seq, .string e.cmd.key, .string e.cmd.value, .string e.cmd.old] 41 (0, 0)) → u.cell? ⟨E, 0, none⟩ = some (.int .i64 e.index) ∧ u.cell? ⟨E, 1, none⟩ = some (.int .i64 e.term) ∧ u.cell? ⟨E, 2, none⟩ = some (.int .i64 e.cmd.op) ∧ u.cell? ⟨E, 3, none⟩ = some (.int .i64 e.cmd.client) ∧ u.cell? ⟨E, 4, none⟩ = some (.int .i64 e.cmd.seq) ∧ u.cell? ⟨E, 5, none⟩ = some (.string e.cmd.key) ∧ u.cell? ⟨E, 6, none⟩ = some (.string e.cmd.value) ∧ u.cell? ⟨E, 7, none⟩ = some (.string e.cmd.old)) := fun u h =>
            ⟨cell_of_row _ _ _ _ _ _ h, cell_of_row _ _ _ _ _ _ h, cell_of_row _ _ _ _ _ _ h, cell_of_row _ _ _ _ _ _ h, cell_of_row _ _ _ _ _ _ h, cell_of_row _ _ _ _ _ _ h, cell_of_row _ _ _ _ _ _ h, cell_of_row _ _ _ _ _ _ h⟩
          have HE1 := Lib.hid ha
          have KA1 := Lib.hid ka
          have HM1 := Lib.hid (HM.out.kept ka)
          have HSB1 := Lib.hid (ka.blk HSB.out (fun h => h))
          have ap := apply_any _ st A1 c1 B1 d1 e u1 (HSV.out.kept ka) HR.out
          rw [← HSN.out, ← HRP.out] at ap
          unfold stv EntryV.val RepV.val at ap
          have AP := Lib.hid ap
          have HEW := Lib.hid (Nat.le_of_eq hE)
          clear ka ha hE e0 e1 e2 e3 e4 e5 e6 e7 ap
          obtain ⟨s0, s1, s2, s3⟩ := st_cells HSB1.out
          obtain ⟨e0, e1, e2, e3, e4, e5, e6, e7⟩ := EC.out _ HE1.out
          go_wp2_with fail
          refine AP.out.mono ?_
          rintro en u2 ⟨A2, c2, B2, d2, rfl, sv2, k2⟩
          obtain ⟨ka, ht, hf⟩ := two_new u2 (.int .i64 sn.index) (.int .i64 sn.term) (.slice A2 sn.pairs.length c2) (.slice B2 sn.sess.length d2) (.int .i64 rp.err) (.string rp.value)
          have hE1 : E < u1.heap.size := lt_of_blk HE1.out
          have hE2 : E < u2.heap.size := Nat.lt_of_lt_of_le hE1 k2.size
          go_upto_region 14 with (fail)
          obtain ⟨TT, hTT⟩ : ∃ TT, TT = u2.heap.size := ⟨_, rfl⟩
          rw [← hTT] at ht hf ⊢
          generalize (u2.alloc (.cells #[.int .i64 sn.index, .int .i64 sn.term, .slice A2 sn.pairs.length c2, .slice B2 sn.sess.length d2] 33)).alloc (.cells #[.int .i64 rp.err, .string rp.value] 44) = u3 at ka ht hf ⊢
          have HM3 := Lib.hid (HM1.out.kept (k2.step ka))
          have HSB3 := Lib.hid ((k2.step ka).blk HSB1.out (fun h => h))
          have HE3 := Lib.hid ((k2.step ka).blk HE1.out (fun h => h))
          have HT3 := Lib.hid ht
          have HF3 := Lib.hid hf
          have K03 := Lib.hid (KA1.out.step (k2.step ka))
          have HTE : Hid (E < TT) := by unfold Hid; omega
          have SVT := Lib.hid ((sv2.kept ka).mono (G := fun i => (¬ Mb m b1 b2 b3 i ∧ i ≠ S) ∧ i < TT) (fun i hi => ⟨⟨fun h => by have := NQ.out i (.inl h); have := hi.1; omega, fun h => by have := NQ.out i (.inr h); have := hi.1; omega⟩, by have := hi.2; omega⟩))
          clear ka ht hf hTT sv2 k2 hE1 hE2 s0 s1 s2 s3 e0 e1 e2 e3 e4 e5 e6 e7 AP HM1 HSB1 HE1 KA1 HM HSB HSV
          have SM : Hid (∀ u, Kept (Mb m b1 b2 b3) u3 u → (u.cell? ⟨TT + 1, 0, none⟩ = some (.int .i64 rp.err) ∧ u.cell? ⟨TT + 1, 1, none⟩ = some (.string rp.value)) ∧ (u.cell? ⟨E, 0, none⟩ = some (.int .i64 e.index) ∧ u.cell? ⟨E, 1, none⟩ = some (.int .i64 e.term) ∧ u.cell? ⟨E, 2, none⟩ = some (.int .i64 e.cmd.op) ∧ u.cell? ⟨E, 3, none⟩ = some (.int .i64 e.cmd.client) ∧ u.cell? ⟨E, 4, none⟩ = some (.int .i64 e.cmd.seq) ∧ u.cell? ⟨E, 5, none⟩ = some (.string e.cmd.key) ∧ u.cell? ⟨E, 6, none⟩ = some (.string e.cmd.value) ∧ u.cell? ⟨E, 7, none⟩ = some (.string e.cmd.old)) ∧
              (u.cell? ⟨TT, 0, none⟩ = some (.int .i64 sn.index) ∧ u.cell? ⟨TT, 1, none⟩ = some (.int .i64 sn.term) ∧ u.cell? ⟨TT, 2, none⟩ = some (.slice A2 sn.pairs.length c2) ∧ u.cell? ⟨TT, 3, none⟩ = some (.slice B2 sn.sess.length d2))) := fun u k =>
            ⟨re_cells (k.blk HF3.out (fun h => by have := NQ.out _ (.inl h); have := HTE.out; omega)), EC.out _ (k.blk HE3.out (fun h => by have := NQ.out _ (.inl h); omega)), st_cells (k.blk HT3.out (fun h => by have := NQ.out _ (.inl h); have := HTE.out; omega))⟩
          have MA := Lib.hid (fun u (hu : Md u m b1 b2 b3 st) => mapply_any m b1 b2 b3 st e u hu HR.out HN.out)
          rw [← HSN.out, ← HRP.out] at MA
          have SH := Lib.hid (fun (G : Nat → Prop) u (hu : Md u m b1 b2 b3 sn) (hv : Sv u G sn A2 c2 B2 d2) => shows_any G m b1 b2 b3 sn A2 c2 B2 d2 u hu hv HRN.out)
          have sr := fun (G : Nat → Prop) u (hv : Sv u G sn A2 c2 B2 d2) => sright_any G sn A2 c2 B2 d2 u hv (by have := HRN.out.len; omega) (by have := HRN.out.lens; omega)
          rw [decide_eq_true HRN.out] at sr
          have SR := Lib.hid sr
          have GT := Lib.hid (fun (G : Nat → Prop) u (hv : Sv u G sn A2 c2 B2 d2) => get_any G sn A2 c2 B2 d2 e.cmd.key u hv HRN.out)
          have RN : ∀ u, (binOp .neq 44 (.agg #[.int .i64 rp.err, .string rp.value]) (.agg #[.int .i64 rp.err, .string rp.value])).run Try.prog u = .ok (.bool false) u := fun u => by
            have := rep_neq u rp rp
            rw [RepV.same_self] at this
            exact this
          clear sr
          unfold stv at SH SR GT
          unfold EntryV.val RepV.val at MA
          refine wp_region_noPanic ?_
          refine wp_region_held_drew (S := fun u => (u.cell? ⟨TT + 1, 0, none⟩ = some (.int .i64 rp.err) ∧ u.cell? ⟨TT + 1, 1, none⟩ = some (.string rp.value)) ∧ (u.cell? ⟨E, 0, none⟩ = some (.int .i64 e.index) ∧ u.cell? ⟨E, 1, none⟩ = some (.int .i64 e.term) ∧ u.cell? ⟨E, 2, none⟩ = some (.int .i64 e.cmd.op) ∧ u.cell? ⟨E, 3, none⟩ = some (.int .i64 e.cmd.client) ∧ u.cell? ⟨E, 4, none⟩ = some (.int .i64 e.cmd.seq) ∧ u.cell? ⟨E, 5, none⟩ = some (.string e.cmd.key) ∧ u.cell? ⟨E, 6, none⟩ = some (.string e.cmd.value) ∧ u.cell? ⟨E, 7, none⟩ = some (.string e.cmd.old)) ∧ (u.cell? ⟨TT, 0, none⟩ = some (.int .i64 sn.index) ∧ u.cell? ⟨TT, 1, none⟩ = some (.int .i64 sn.term) ∧ u.cell? ⟨TT, 2, none⟩ = some (.slice A2 sn.pairs.length c2) ∧ u.cell? ⟨TT, 3, none⟩ = some (.slice B2 sn.sess.length d2))) (by kernel_rfl) (SM.out _ (Kept.drew _ _)) (fun hHeld => ?_)
          refine wpAnyH_take (i := 0) (oi := ⟨some 58, Op.load 44 (Operand.tmp 12), 44, _, _, none⟩) (v := ?v0n1k1) rfl (by kernel_rfl) (by kernel_rfl) (by kernel_rfl) (fun _ _ _ h => h) (Or.inl ⟨by rfl, ?y0n1k1⟩) hHeld ?z0n1k1
          case y0n1k1 => intro w hSw; (try dsimp only at hSw); go_simp <;> rfl
          try simp only [Act.put, List.setIfInBounds_toArray, List.set_cons_zero, List.set_cons_succ]
          refine wpAnyH_take (i := 1) (oi := ⟨some 59, Op.move (Operand.tmp 5), 24, _, _, none⟩) (v := ?v1n1k2) rfl (by kernel_rfl) (by kernel_rfl) (by kernel_rfl) (fun _ _ _ h => h) (Or.inl ⟨by rfl, ?y1n1k2⟩) hHeld ?z1n1k2
          case y1n1k2 => intro w hSw; (try dsimp only at hSw); go_simp <;> rfl
          try simp only [Act.put, List.setIfInBounds_toArray, List.set_cons_zero, List.set_cons_succ]
          refine wpAnyH_take (i := 2) (oi := ⟨some 60, Op.load 41 (Operand.tmp 10), 41, _, _, none⟩) (v := ?v2n1k3) rfl (by kernel_rfl) (by kernel_rfl) (by kernel_rfl) (fun _ _ _ h => h) (Or.inl ⟨by rfl, ?y2n1k3⟩) hHeld ?z2n1k3
          case y2n1k3 => intro w hSw; (try dsimp only at hSw); go_simp <;> rfl
          try simp only [Act.put, List.setIfInBounds_toArray, List.set_cons_zero, List.set_cons_succ]
          refine wpAnyH_ready (rs := [3]) (by kernel_rfl) (by simp) ?_
          refine AllReadyH.cons (o := ⟨some 61, Op.call { callee := Callee.value (Operand.func 14), args := #[Operand.tmp 59, Operand.tmp 60], argTypes := #[24, 41] }, 44, _, _, none⟩) rfl (fun K hK => ?_) AllReadyH.nil
          go_simp
          refine (MA.out _ (HM3.out.kept (Kept.drew _ _))).mono ?_
          rintro en v3 ⟨rfl, md3, k3⟩
          have J3 := Lib.hid ((Kept.drew (Mb m b1 b2 b3) u3).step k3)
          have MD3 := Lib.hid md3
          clear md3 k3
          dsimp only
          refine hK.out _ _ (SM.out _ J3.out) (fun hHeld => ?_)
          clear hK K
          try simp only [Act.put, List.setIfInBounds_toArray, List.set_cons_zero, List.set_cons_succ]
          refine wpAnyH_take (i := 4) (oi := ⟨some 62, Op.binOp BinOp.neq 44 (Operand.tmp 58) (Operand.tmp 61) 44, 4, _, _, none⟩) (v := ?v4n1k4) rfl (by kernel_rfl) (by kernel_rfl) (by kernel_rfl) (fun _ _ _ h => h) (Or.inl ⟨by rfl, ?y4n1k4⟩) hHeld ?z4n1k4
          case y4n1k4 => intro w hSw; (try dsimp only at hSw); go_simp <;> rfl
          try simp only [Act.put, List.setIfInBounds_toArray, List.set_cons_zero, List.set_cons_succ]
          refine wpAnyH_take (i := 5) (oi := ⟨some 63, Op.move (Operand.tmp 62), 4, _, _, none⟩) (v := ?v5n1k5) rfl (by kernel_rfl) (by kernel_rfl) (by kernel_rfl) (fun _ _ _ h => h) (Or.inl ⟨by rfl, ?y5n1k5⟩) hHeld ?z5n1k5
          case y5n1k5 => intro w hSw; (try dsimp only at hSw); go_simp <;> rfl
          try simp only [Act.put, List.setIfInBounds_toArray, List.set_cons_zero, List.set_cons_succ]
          refine wpAnyH_take (i := 6) (oi := ⟨some 64, Op.move (Operand.tmp 5), 24, _, _, some (5, false)⟩) (v := ?v6n1k6) rfl (by kernel_rfl) (by kernel_rfl) (by kernel_rfl) (fun _ _ _ h => h) (Or.inl ⟨by rfl, ?y6n1k6⟩) hHeld ?z6n1k6
          case y6n1k6 => intro w hSw; (try dsimp only at hSw); go_simp <;> rfl
          try simp only [Act.put, List.setIfInBounds_toArray, List.set_cons_zero, List.set_cons_succ]
          refine wpAnyH_take (i := 7) (oi := ⟨some 65, Op.load 33 (Operand.tmp 11), 33, _, _, some (5, false)⟩) (v := ?v7n1k7) rfl (by kernel_rfl) (by kernel_rfl) (by kernel_rfl) (fun _ _ _ h => h) (Or.inl ⟨by rfl, ?y7n1k7⟩) hHeld ?z7n1k7
          case y7n1k7 => intro w hSw; (try dsimp only at hSw); go_simp <;> rfl
          try simp only [Act.put, List.setIfInBounds_toArray, List.set_cons_zero, List.set_cons_succ]
          refine wpAnyH_ready (rs := [8]) (by kernel_rfl) (by simp) ?_
          refine AllReadyH.cons (o := ⟨some 66, Op.call { callee := Callee.value (Operand.func 15), args := #[Operand.tmp 64, Operand.tmp 65], argTypes := #[24, 33] }, 4, _, _, some (5, false)⟩) rfl (fun K hK => ?_) AllReadyH.nil
          go_simp
          refine (SH.out _ _ MD3.out (SVT.out.keep J3.out (fun i hi h => hi.1.1 h))).mono ?_
          rintro en v8 ⟨rfl, k8⟩
          have J8 := Lib.hid (J3.out.step (k8.mono (fun _ _ h => h.elim)))
          have MD8 := Lib.hid (MD3.out.kept k8)
          clear k8
          dsimp only
          refine hK.out _ _ (SM.out _ J8.out) (fun hHeld => ?_)
          clear hK K
          try simp only [Act.put, List.setIfInBounds_toArray, List.set_cons_zero, List.set_cons_succ]
          refine wpAnyH_take (i := 9) (oi := ⟨some 67, Op.unOp UnOp.not 4 (Operand.tmp 66), 4, _, _, some (5, false)⟩) (v := ?v9n1k8) rfl (by kernel_rfl) (by kernel_rfl) (by kernel_rfl) (fun _ _ _ h => h) (Or.inl ⟨by rfl, ?y9n1k8⟩) hHeld ?z9n1k8
          case y9n1k8 => intro w hSw; (try dsimp only at hSw); go_simp <;> rfl
          try simp only [Act.put, List.setIfInBounds_toArray, List.set_cons_zero, List.set_cons_succ]
          refine wpAnyH_take (i := 10) (oi := ⟨some 68, Op.pick (Operand.tmp 63) (Operand.const (Value.bool true)) (Operand.tmp 67), 4, _, _, none⟩) (v := ?v10n1k9) rfl (by kernel_rfl) (by kernel_rfl) (by kernel_rfl) (fun _ _ _ h => h) (Or.inl ⟨by rfl, ?y10n1k9⟩) hHeld ?z10n1k9
          case y10n1k9 => intro w hSw; (try dsimp only at hSw); go_simp <;> rfl
          try simp only [Act.put, List.setIfInBounds_toArray, List.set_cons_zero, List.set_cons_succ]
          refine wpAnyH_take (i := 11) (oi := ⟨some 69, Op.move (Operand.tmp 68), 4, _, _, none⟩) (v := ?v11n1k10) rfl (by kernel_rfl) (by kernel_rfl) (by kernel_rfl) (fun _ _ _ h => h) (Or.inl ⟨by rfl, ?y11n1k10⟩) hHeld ?z11n1k10
          case y11n1k10 => intro w hSw; (try dsimp only at hSw); go_simp <;> rfl
          try simp only [Act.put, List.setIfInBounds_toArray, List.set_cons_zero, List.set_cons_succ]
          refine wpAnyH_take (i := 12) (oi := ⟨some 70, Op.load 33 (Operand.tmp 11), 33, _, _, some (11, false)⟩) (v := ?v12n1k11) rfl (by kernel_rfl) (by kernel_rfl) (by kernel_rfl) (fun _ _ _ h => h) (Or.inl ⟨by rfl, ?y12n1k11⟩) hHeld ?z12n1k11
          case y12n1k11 => intro w hSw; (try dsimp only at hSw); go_simp <;> rfl
          try simp only [Act.put, List.setIfInBounds_toArray, List.set_cons_zero, List.set_cons_succ]
          refine wpAnyH_ready (rs := [13]) (by kernel_rfl) (by simp) ?_
          refine AllReadyH.cons (o := ⟨some 71, Op.call { callee := Callee.value (Operand.func 16), args := #[Operand.tmp 70], argTypes := #[33] }, 4, _, _, some (11, false)⟩) rfl (fun K hK => ?_) AllReadyH.nil
          go_simp
          refine (SR.out _ _ (SVT.out.keep J8.out (fun i hi h => hi.1.1 h))).mono ?_
          rintro en v13 ⟨rfl, k13⟩
          have J13 := Lib.hid (J8.out.step (k13.mono (fun _ _ h => h.elim)))
          have MD13 := Lib.hid (MD8.out.kept k13)
          clear k13
          dsimp only
          refine hK.out _ _ (SM.out _ J13.out) (fun hHeld => ?_)
          clear hK K
          try simp only [Act.put, List.setIfInBounds_toArray, List.set_cons_zero, List.set_cons_succ]
          refine wpAnyH_take (i := 14) (oi := ⟨some 72, Op.unOp UnOp.not 4 (Operand.tmp 71), 4, _, _, some (11, false)⟩) (v := ?v14n1k12) rfl (by kernel_rfl) (by kernel_rfl) (by kernel_rfl) (fun _ _ _ h => h) (Or.inl ⟨by rfl, ?y14n1k12⟩) hHeld ?z14n1k12
          case y14n1k12 => intro w hSw; (try dsimp only at hSw); go_simp <;> rfl
          try simp only [Act.put, List.setIfInBounds_toArray, List.set_cons_zero, List.set_cons_succ]
          refine wpAnyH_take (i := 15) (oi := ⟨some 73, Op.pick (Operand.tmp 69) (Operand.const (Value.bool true)) (Operand.tmp 72), 4, _, _, none⟩) (v := ?v15n1k13) rfl (by kernel_rfl) (by kernel_rfl) (by kernel_rfl) (fun _ _ _ h => h) (Or.inl ⟨by rfl, ?y15n1k13⟩) hHeld ?z15n1k13
          case y15n1k13 => intro w hSw; (try dsimp only at hSw); go_simp <;> rfl
          try simp only [Act.put, List.setIfInBounds_toArray, List.set_cons_zero, List.set_cons_succ]
          refine wpAnyH_done (by kernel_rfl) ?_ _
          refine NoPanic.normal ?_
          clear hHeld RN MA SH SR J3 MD3 J8 MD8
          obtain ⟨lp, hlp⟩ : ∃ lp, lp = Srt.look sn.pairs e.cmd.key := ⟨_, rfl⟩
          obtain ⟨val, hval⟩ : ∃ val, val = (lp.map (fun v : ByteArray × Bool => v.1)).getD noText := ⟨_, rfl⟩
          obtain ⟨ok, hok⟩ : ∃ ok : Bool, ok = lp.isSome := ⟨_, rfl⟩
          have hfit : MS.Fits e.cmd.key := by
            have := HN.out.right.2.2.2.2
            unfold CmdV.May at this
            unfold MS.Fits maxLen
            omega
          have SM6 : Hid (∀ u, Kept noBlock v13 u → u.cell? ⟨m, 2, none⟩ = some (.map (some b1)) ∧ u.cell? ⟨E, 5, none⟩ = some (.string e.cmd.key) ∧ (Instr.lookup 25 (.map (some b1)) (.string e.cmd.key) true).run Try.prog u = .ok (.tuple #[.string val, .bool ok]) u) := fun u k => by
            have hu := MD13.out.kept k
            have hr := MS.run_look2 hu.keys e.cmd.key hfit
            have e1 : Srt.look (keysM sn) e.cmd.key = lp.map (fun v : ByteArray × Bool => v.1) := by unfold keysM; rw [mapV_look, hlp]
            unfold Srt.has at hr
            rw [e1, Option.isSome_map, ← hok, ← hval] at hr
            exact ⟨hu.cells.2.2.1, (SM.out _ (J13.out.step (k.mono (fun _ _ h => h.elim)))).2.1.2.2.2.2.2.1, hr⟩
          have HLP := Lib.hid hlp
          have HVAL := Lib.hid hval
          have HOK := Lib.hid hok
          clear hlp hfit hval hok
          go_upto_region 16 with (fail)
          refine wp_region_noPanic ?_
          refine wp_region_held_drew (S := fun u => u.cell? ⟨m, 2, none⟩ = some (.map (some b1)) ∧ u.cell? ⟨E, 5, none⟩ = some (.string e.cmd.key) ∧ (Instr.lookup 25 (.map (some b1)) (.string e.cmd.key) true).run Try.prog u = .ok (.tuple #[.string val, .bool ok]) u) (by kernel_rfl) (SM6.out _ (Kept.drew _ _)) (fun hHeld => ?_)
          refine wpAnyH_take (i := 0) (oi := ⟨some 75, Op.move (Operand.tmp 5), 24, _, _, none⟩) (v := ?v0n2k1) rfl (by kernel_rfl) (by kernel_rfl) (by kernel_rfl) (fun _ _ _ h => h) (Or.inl ⟨by rfl, ?y0n2k1⟩) hHeld ?z0n2k1
          case y0n2k1 => intro w hSw; (try dsimp only at hSw); go_simp <;> rfl
          try simp only [Act.put, List.setIfInBounds_toArray, List.set_cons_zero, List.set_cons_succ]
          refine wpAnyH_take (i := 1) (oi := ⟨some 76, Op.nilCheck (Operand.tmp 75), 0, _, _, none⟩) (v := ?v1n2k2) rfl (by kernel_rfl) (by kernel_rfl) (by kernel_rfl) (fun _ _ _ h => h) (Or.inl ⟨by rfl, ?y1n2k2⟩) hHeld ?z1n2k2
          case y1n2k2 => intro w hSw; (try dsimp only at hSw); go_simp <;> rfl
          try simp only [Act.put, List.setIfInBounds_toArray, List.set_cons_zero, List.set_cons_succ]
          refine wpAnyH_take (i := 2) (oi := ⟨some 77, Op.fieldAddr 29 (Operand.tmp 76) 2, 0, _, _, none⟩) (v := ?v2n2k3) rfl (by kernel_rfl) (by kernel_rfl) (by kernel_rfl) (fun _ _ _ h => h) (Or.inl ⟨by rfl, ?y2n2k3⟩) hHeld ?z2n2k3
          case y2n2k3 => intro w hSw; (try dsimp only at hSw); go_simp <;> rfl
          try simp only [Act.put, List.setIfInBounds_toArray, List.set_cons_zero, List.set_cons_succ]
          refine wpAnyH_take (i := 3) (oi := ⟨some 78, Op.load 25 (Operand.tmp 77), 25, _, _, none⟩) (v := ?v3n2k4) rfl (by kernel_rfl) (by kernel_rfl) (by kernel_rfl) (fun _ _ _ h => h) (Or.inl ⟨by rfl, ?y3n2k4⟩) hHeld ?z3n2k4
          case y3n2k4 => intro w hSw; (try dsimp only at hSw); go_simp <;> rfl
          try simp only [Act.put, List.setIfInBounds_toArray, List.set_cons_zero, List.set_cons_succ]
          refine wpAnyH_take (i := 4) (oi := ⟨some 79, Op.fieldAddr 41 (Operand.tmp 10) 2, 0, _, _, none⟩) (v := ?v4n2k5) rfl (by kernel_rfl) (by kernel_rfl) (by kernel_rfl) (fun _ _ _ h => h) (Or.inl ⟨by rfl, ?y4n2k5⟩) hHeld ?z4n2k5
          case y4n2k5 => intro w hSw; (try dsimp only at hSw); go_simp <;> rfl
          try simp only [Act.put, List.setIfInBounds_toArray, List.set_cons_zero, List.set_cons_succ]
          refine wpAnyH_take (i := 5) (oi := ⟨some 80, Op.fieldAddr 39 (Operand.tmp 79) 3, 0, _, _, none⟩) (v := ?v5n2k6) rfl (by kernel_rfl) (by kernel_rfl) (by kernel_rfl) (fun _ _ _ h => h) (Or.inl ⟨by rfl, ?y5n2k6⟩) hHeld ?z5n2k6
          case y5n2k6 => intro w hSw; (try dsimp only at hSw); go_simp <;> rfl
          try simp only [Act.put, List.setIfInBounds_toArray, List.set_cons_zero, List.set_cons_succ]
          refine wpAnyH_take (i := 6) (oi := ⟨some 81, Op.load 9 (Operand.tmp 80), 9, _, _, none⟩) (v := ?v6n2k7) rfl (by kernel_rfl) (by kernel_rfl) (by kernel_rfl) (fun _ _ _ h => h) (Or.inl ⟨by rfl, ?y6n2k7⟩) hHeld ?z6n2k7
          case y6n2k7 => intro w hSw; (try dsimp only at hSw); go_simp <;> rfl
          try simp only [Act.put, List.setIfInBounds_toArray, List.set_cons_zero, List.set_cons_succ]
          refine wpAnyH_take (i := 7) (oi := ⟨some 82, Op.lookup 25 (Operand.tmp 78) (Operand.tmp 81) true, 49, _, _, none⟩) (v := ?v7n2k8) rfl (by kernel_rfl) (by kernel_rfl) (by kernel_rfl) (fun _ _ _ h => h) (Or.inl ⟨by rfl, ?y7n2k8⟩) hHeld ?z7n2k8
          case y7n2k8 => intro w hSw; (try dsimp only at hSw); go_simp <;> rfl
          try simp only [Act.put, List.setIfInBounds_toArray, List.set_cons_zero, List.set_cons_succ]
          refine wpAnyH_take (i := 8) (oi := ⟨some 74, Op.move (Operand.tmp 82), 49, _, _, none⟩) (v := ?v8n2k9) rfl (by kernel_rfl) (by kernel_rfl) (by kernel_rfl) (fun _ _ _ h => h) (Or.inl ⟨by rfl, ?y8n2k9⟩) hHeld ?z8n2k9
          case y8n2k9 => intro w hSw; (try dsimp only at hSw); go_simp <;> rfl
          try simp only [Act.put, List.setIfInBounds_toArray, List.set_cons_zero, List.set_cons_succ]
          refine wpAnyH_take (i := 9) (oi := ⟨some 83, Op.extract (Operand.tmp 74) 0, 9, _, _, none⟩) (v := ?v9n2k10) rfl (by kernel_rfl) (by kernel_rfl) (by kernel_rfl) (fun _ _ _ h => h) (Or.inl ⟨by rfl, ?y9n2k10⟩) hHeld ?z9n2k10
          case y9n2k10 => intro w hSw; (try dsimp only at hSw); go_simp <;> rfl
          try simp only [Act.put, List.setIfInBounds_toArray, List.set_cons_zero, List.set_cons_succ]
          refine wpAnyH_take (i := 10) (oi := ⟨some 84, Op.extract (Operand.tmp 74) 1, 4, _, _, none⟩) (v := ?v10n2k11) rfl (by kernel_rfl) (by kernel_rfl) (by kernel_rfl) (fun _ _ _ h => h) (Or.inl ⟨by rfl, ?y10n2k11⟩) hHeld ?z10n2k11
          case y10n2k11 => intro w hSw; (try dsimp only at hSw); go_simp <;> rfl
          try simp only [Act.put, List.setIfInBounds_toArray, List.set_cons_zero, List.set_cons_succ]
          refine wpAnyH_take (i := 11) (oi := ⟨some 13, Op.assign (Operand.tmp 83), 9, _, _, none⟩) (v := ?v11n2k12) rfl (by kernel_rfl) (by kernel_rfl) (by kernel_rfl) (fun _ _ _ h => h) (Or.inl ⟨by rfl, ?y11n2k12⟩) hHeld ?z11n2k12
          case y11n2k12 => intro w hSw; (try dsimp only at hSw); go_simp <;> rfl
          try simp only [Act.put, List.setIfInBounds_toArray, List.set_cons_zero, List.set_cons_succ]
          refine wpAnyH_take (i := 12) (oi := ⟨some 14, Op.assign (Operand.tmp 84), 4, _, _, none⟩) (v := ?v12n2k13) rfl (by kernel_rfl) (by kernel_rfl) (by kernel_rfl) (fun _ _ _ h => h) (Or.inl ⟨by rfl, ?y12n2k13⟩) hHeld ?z12n2k13
          case y12n2k13 => intro w hSw; (try dsimp only at hSw); go_simp <;> rfl
          try simp only [Act.put, List.setIfInBounds_toArray, List.set_cons_zero, List.set_cons_succ]
          refine wpAnyH_done (by kernel_rfl) ?_ _
          refine NoPanic.normal ?_
          clear hHeld SM6
          have kd := Kept.drew noBlock v13
          generalize v13.drew = v16 at kd ⊢
          have J16 := Lib.hid (J13.out.step (kd.mono (fun _ _ h => h.elim)))
          have MD16 := Lib.hid (MD13.out.kept kd)
          clear kd J13 MD13
          have GV := Lib.hid (GT.out _ v16 (SVT.out.keep J16.out (fun i hi h => hi.1.1 h)))
          have FIN : Hid (∀ u, Kept noBlock v16 u → Hid (Md (setT u S sn A2 c2 B2 d2) m b1 b2 b3 (foldV noState (es.take (k + 1)))) ∧ Hid (∃ A' c' B' d', (setT u S sn A2 c2 B2 d2).heap[S]? = some (.cells #[.int .i64 (foldV noState (es.take (k + 1))).index, .int .i64 (foldV noState (es.take (k + 1))).term, .slice A' (foldV noState (es.take (k + 1))).pairs.length c', .slice B' (foldV noState (es.take (k + 1))).sess.length d'] 33 (0, 0)) ∧ Sv (setT u S sn A2 c2 B2 d2) (fun i => ¬ Mb m b1 b2 b3 i ∧ i ≠ S) (foldV noState (es.take (k + 1))) A' c' B' d') ∧ Hid (KP (setT u S sn A2 c2 B2 d2))) := fun u ku => by
            have ju := J16.out.step (ku.mono (fun _ _ h => h.elim))
            have hs := ju.blk HSB3.out (fun h => MSS.out.1 S h rfl)
            have kt := setT_kept u S sn A2 c2 B2 d2
            rw [← HST.out]
            refine ⟨(MD16.out.kept ku).keep kt (fun i hi h => MSS.out.1 i hi h), ⟨A2, c2, B2, d2, setT_block hs, ?_⟩, ?_⟩
            · exact ((SVT.out.keep ju (fun i hi h => hi.1.1 h)).keep kt (fun i hi h => hi.1.2 h)).mono (fun i hi => hi.1)
            · exact (KPI.out _).2 (HK.out.step (((K03.out.mono (T := fun i => Mb m b1 b2 b3 i ∨ i = S) (fun _ _ h => h.elim)).trans ju (fun i _ h => .inl h)).trans kt (fun i _ h => .inr h)))
          have RDY : Hid (∀ u, Kept noBlock v16 u → ((u.cell? ⟨TT, 0, none⟩ = some (.int .i64 sn.index) ∧ u.cell? ⟨TT, 1, none⟩ = some (.int .i64 sn.term) ∧ u.cell? ⟨TT, 2, none⟩ = some (.slice A2 sn.pairs.length c2) ∧ u.cell? ⟨TT, 3, none⟩ = some (.slice B2 sn.sess.length d2))) ∧ (∀ i, u.frozen? ⟨S, i, none⟩ = false) ∧ (u.cell? ⟨S, 0, none⟩ = some (.int .i64 st.index) ∧ u.cell? ⟨S, 1, none⟩ = some (.int .i64 st.term) ∧ u.cell? ⟨S, 2, none⟩ = some (.slice A1 st.pairs.length c1) ∧ u.cell? ⟨S, 3, none⟩ = some (.slice B1 st.sess.length d1))) := fun u ku => by
            have ju := J16.out.step (ku.mono (fun _ _ h => h.elim))
            have hs := ju.blk HSB3.out (fun h => MSS.out.1 S h rfl)
            exact ⟨(SM.out _ ju).2.2, fun i => frozen_of_row _ _ _ _ _ hs, st_cells hs⟩
          obtain ⟨t0, t1, t2, t3⟩ := (SM.out _ J16.out).2.2
          obtain ⟨_, _, _, _, _, e5, _, _⟩ := (SM.out _ J16.out).2.1
          clear GT SM MD16 J16 SVT
          cases hl : lp with
          | none =>
            have hgv : getV sn.pairs e.cmd.key = told 6 := by unfold getV; rw [← HLP.out, hl]
            rw [hgv] at GV
            have hok : ok = false := by rw [HOK.out, hl]; rfl
            rw [hok]
            have FE := fun w => fld_err w 6 (.string ⟨#[]⟩)
            unfold RepV.val told noText at GV
            clear hgv HLP hok
            go_wp2_with fail
            refine GV.out.mono ?_
            rintro en v17 ⟨rfl, k17⟩
            have F7 := Lib.hid (FIN.out v17 k17)
            obtain ⟨⟨x0, x1, x2, x3⟩, hfz, y0, y1, y2, y3⟩ := RDY.out v17 k17
            have f0 := hfz 0
            have f1 := hfz 1
            have f2 := hfz 2
            have f3 := hfz 3
            clear hfz k17 GV RDY FIN t0 t1 t2 t3 e5
            go_upto_region 20 with (fail)
            change Code.wp _ _ _ _ (setT v17 S sn A2 c2 B2 d2)
            generalize setT v17 S sn A2 c2 B2 d2 = vz at F7 ⊢
            clear FE
            go_wp2_with fail
            go_roundw
            case rel => exact ⟨k + 1, by omega, by go_num, F7.out.1, F7.out.2.1, F7.out.2.2⟩
            case measure => simp [intOf]; omega
          | some v =>
            have hgv : getV sn.pairs e.cmd.key = ⟨0, v.1⟩ := by unfold getV; rw [← HLP.out, hl]
            rw [hgv] at GV
            have hok : ok = true := by rw [HOK.out, hl]; rfl
            have hval : val = v.1 := by rw [HVAL.out, hl]; rfl
            rw [hok, hval]
            have RN : ∀ u, (binOp .neq 44 (.agg #[.int .i64 0, .string v.1]) (.agg #[.int .i64 0, .string v.1])).run Try.prog u = .ok (.bool false) u := fun u => by
              have := rep_neq u ⟨0, v.1⟩ ⟨0, v.1⟩
              rw [RepV.same_self] at this
              exact this
            unfold RepV.val at GV
            clear hgv HLP hok hval
            go_wp2_with fail
            refine GV.out.mono ?_
            rintro en v17 ⟨rfl, k17⟩
            have F7 := Lib.hid (FIN.out v17 k17)
            obtain ⟨⟨x0, x1, x2, x3⟩, hfz, y0, y1, y2, y3⟩ := RDY.out v17 k17
            have f0 := hfz 0
            have f1 := hfz 1
            have f2 := hfz 2
            have f3 := hfz 3
            clear hfz k17 GV RDY FIN t0 t1 t2 t3 e5
            go_upto_region 20 with (fail)
            change Code.wp _ _ _ _ (setT v17 S sn A2 c2 B2 d2)
            generalize setT v17 S sn A2 c2 B2 d2 = vz at F7 ⊢
            clear RN
            go_wp2_with fail
            go_roundw
            case rel => exact ⟨k + 1, by omega, by go_num, F7.out.1, F7.out.2.1, F7.out.2.2⟩
            case measure => simp [intOf]; omega
        · obtain rfl : k = L := by omega
          have KF : Hid (Kept noBlock w wr) := ((K3'.out.mono (T := fun i => w.heap.size ≤ i) (fun _ _ h => h.elim)).trans HK.out (fun i _ h => h.elim (fun h => MSS.out.2.1 i h) (fun h => by have := MSS.out.2.2; omega))).mono (fun i hi h => by omega)
          go_wp2
          go_ret
          exact ⟨rfl, KF.out⟩
end Go.Proofs.Ytgmjnjbmolalmaa
