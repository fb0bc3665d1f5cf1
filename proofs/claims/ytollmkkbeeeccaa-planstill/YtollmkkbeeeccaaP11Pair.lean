/-
  The contracts of plan.firstFrom and plan.Pair. No statement is proved here.
-/
import Derived.Test.YtollmkkbeeeccaaP11Srch
namespace Go.Proofs.Ytollmkkbeeeccaa
open Go.RowKit Tot

set_option maxRecDepth 100000 in
set_option maxHeartbeats 1000000 in
theorem ff_any (F : Nat → Prop) (A : Option Addr) (n c : Nat) (l : List RefV) (p : Int) (w : World) (h : Lies w F A (refCells l)) (hl : n = l.length) (hr : Rises l) (hn : n ≤ 1099511627776) :
    Calls Try.prog 29 #[.slice A n c, .int .i64 p] w fun e w' => e = .returned (.int .i64 (plcI (fromV l p))) ∧ Kept noBlock w w' := by
  obtain ⟨w1, hw1⟩ : ∃ w1, w1 = (w.alloc (.cells #[.slice A n c] 25)).alloc (.cells #[.string ⟨#[]⟩, .int .i64 0, .int .i64 p, .int .i64 p] 37) := ⟨_, rfl⟩
  have k1 : Kept noBlock w w1 := by rw [hw1]; exact (Kept.alloc _ _ _).step (Kept.alloc _ _ _)
  have b0 : w1.heap[w.heap.size]? = some (.cells #[.slice A n c] 25 (0, 0)) := by rw [hw1]; exact (Kept.alloc noBlock _ _).blk (heap_alloc_new w _) (fun h => h)
  have b1 : w1.heap[w.heap.size + 1]? = some (.cells #[.string ⟨#[]⟩, .int .i64 0, .int .i64 p, .int .i64 p] 37 (0, 0)) := by
    rw [hw1]
    have := heap_alloc_new (w.alloc (.cells #[.slice A n c] 25)) (.cells #[.string ⟨#[]⟩, .int .i64 0, .int .i64 p, .int .i64 p] 37)
    simpa using this
  obtain ⟨P, hP⟩ : ∃ P : Nat → Bool, P = fun t => behV p (l[t]?.getD noRef) := ⟨_, rfl⟩
  have hPat : ∀ t x, l[t]? = some x → P t = behV p x := fun t x hx => by rw [hP]; simp only; rw [hx]; rfl
  have H1 := Lib.hid (h.keep k1 (fun _ _ h => h))
  have SR := Lib.hid (srch_any n P w.heap.size (w.heap.size + 1) w1 hn (fun u ku t ht => by
    obtain ⟨x, hx⟩ : ∃ x, l[t]? = some x := ⟨_, List.getElem?_eq_getElem (by omega)⟩
    obtain ⟨g, o, e, _, _⟩ := (H1.out.keep ku (fun _ _ h => h)).elem (enc := RefV.cells) ref_len (by omega) hx
    rw [hPat t x hx]
    refine cl_any g o n c l p _ _ t x u ?_ hx ht ?_ (ku.blk b1 (fun h => h))
    · rw [← e]
      exact (H1.out.keep ku (fun _ _ h => h)).mono (fun _ _ => trivial)
    · rw [← e]
      exact cell_of_row _ _ _ _ _ _ (ku.blk b0 (fun h => h)))
    (fun a b hab hbn ha => by
      obtain ⟨x, hx⟩ : ∃ x, l[a]? = some x := ⟨_, List.getElem?_eq_getElem (by omega)⟩
      obtain ⟨y, hy⟩ : ∃ y, l[b]? = some y := ⟨_, List.getElem?_eq_getElem (by omega)⟩
      rw [hPat a x hx] at ha
      rw [hPat b y hy]
      exact behV_up hr p hab hx hy ha))
  have HPA := Lib.hid hPat
  have HL := Lib.hid hl
  have HR := Lib.hid hr
  have K1 := Lib.hid k1
  have B0 := Lib.hid b0
  obtain ⟨z, hz⟩ : ∃ z, z = fromV l p := ⟨_, rfl⟩
  have HZ := Lib.hid hz
  rw [← hz]
  have c0 : w1.cell? ⟨w.heap.size, 0, none⟩ = some (.slice A n c) := cell_of_row _ _ _ _ _ _ b0
  clear h hl hr k1 b0 b1 hP hPat hz
  go_enter Try.func29, Try.ntmps29
  go_upto_region 2 with (fail)
  rw [← hw1]
  clear hw1
  go_wp2_with fail
  refine SR.out.mono ?_
  rintro e w2 ⟨k, rfl, hkn, hlo, hhi, k2⟩
  have HLO : Hid (∀ (t : Nat) (x : RefV), t < k → l[t]? = some x → behV p x = false) := fun t x ht hx => by rw [← HPA.out t x hx]; exact hlo t ht
  have HHI : Hid (∀ (t : Nat) (x : RefV), k ≤ t → t < n → l[t]? = some x → behV p x = true) := fun t x h1 h2 hx => by rw [← HPA.out t x hx]; exact hhi t h1 h2
  have K2 := Lib.hid (K1.out.step k2)
  have H2 := Lib.hid (H1.out.keep k2 (fun _ _ h => h))
  have c2 : w2.cell? ⟨w.heap.size, 0, none⟩ = some (.slice A n c) := cell_of_row _ _ _ _ _ _ (k2.blk B0.out (fun h => h))
  clear hlo hhi k2 SR c0 HPA
  by_cases hkn' : k = n
  · have HE : Hid (z = none) := by unfold Hid; rw [HZ.out]; exact fromV_end HLO.out (by have := HL.out; omega)
    subst hkn'
    go_wp2
    go_ret
    rw [HE.out]
    exact ⟨rfl, K2.out⟩
  · have hb : ((k : Int) == (n : Int)) = false := by simpa using (by omega : (k : Int) ≠ (n : Int))
    obtain ⟨x, hx⟩ : ∃ x, l[k]? = some x := ⟨_, List.getElem?_eq_getElem (by have := HL.out; omega)⟩
    obtain ⟨g, o, rfl, _, cc⟩ := H2.out.elem (enc := RefV.cells) ref_len (by omega) hx
    have e2 := cc 2 _ rfl
    have hbx := HHI.out k x (by omega) (by omega) hx
    by_cases hfp : x.from_ = p
    · have hf : (x.from_ != p) = false := by simpa using hfp
      have HE : Hid (z = some k) := by unfold Hid; rw [HZ.out]; exact fromV_yes HLO.out hx hbx hfp
      have hklt : k < n := by omega
      clear hx cc hbx hfp hkn'
      go_wp2
      go_ret
      rw [HE.out]
      exact ⟨rfl, K2.out⟩
    · have hf : (x.from_ != p) = true := by simpa using hfp
      have HE : Hid (z = none) := by unfold Hid; rw [HZ.out]; exact fromV_not HR.out HLO.out hx hbx hfp
      have hklt : k < n := by omega
      clear hx cc hbx hfp hkn'
      go_wp2
      go_ret
      rw [HE.out]
      exact ⟨rfl, K2.out⟩

/-- What Pair answers. -/
def pairR : Option (RefV × RefV) → Value
  | none => .tuple #[noRef.val, noRef.val, .bool false]
  | some q => .tuple #[q.1.val, q.2.val, .bool true]
/-- A file stored at its place. -/
def setR (w : World) (R : Nat) (r : RefV) : World := (((w.setCell ⟨R, 0, none⟩ (.string r.name)).setCell ⟨R, 1, none⟩ (.int .i64 r.kind)).setCell ⟨R, 2, none⟩ (.int .i64 r.from_)).setCell ⟨R, 3, none⟩ (.int .i64 r.to_)
theorem ref_set {w : World} {R : Nat} {y0 y1 y2 y3 : Value} {r : RefV} {t : TypeId} (h : w.heap[R]? = some (.cells #[y0, y1, y2, y3] t (0, 0))) : (setR w R r).heap[R]? = some (.cells #[.string r.name, .int .i64 r.kind, .int .i64 r.from_, .int .i64 r.to_] t (0, 0)) ∧ Kept (fun i => i = R) w (setR w R r) := by
  have h0 := heap_setCell_same w R 0 _ t (.string r.name) h
  have h1 := heap_setCell_same _ R 1 _ t (.int .i64 r.kind) h0
  have h2 := heap_setCell_same _ R 2 _ t (.int .i64 r.from_) h1
  have h3 := heap_setCell_same _ R 3 _ t (.int .i64 r.to_) h2
  exact ⟨by simpa [setR] using h3, (((Kept.setCell w (by rfl) _).step (Kept.setCell _ (by rfl) _)).step (Kept.setCell _ (by rfl) _)).step (Kept.setCell _ (by rfl) _)⟩
theorem fz {w : World} {R : Nat} {cs : Array Value} {t : TypeId} (h : w.heap[R]? = some (.cells cs t (0, 0))) : w.frozen? ⟨R, 0, none⟩ = false ∧ w.frozen? ⟨R, 1, none⟩ = false ∧ w.frozen? ⟨R, 2, none⟩ = false ∧ w.frozen? ⟨R, 3, none⟩ = false :=
  ⟨frozen_of_row _ _ _ _ _ h, frozen_of_row _ _ _ _ _ h, frozen_of_row _ _ _ _ _ h, frozen_of_row _ _ _ _ _ h⟩
/-- A store of a file, at a step of a region that draws its order. -/
theorem step_storeR {w : World} {ops : Array Oper} {ty : TypeId} {pos : String} {aft : Array Edge} {p q : Nat} {act : Act} {K : Act → World → Prop} {Q : Exit → Act → World → Prop} {E : Prop} {X : Nat} {x0 x1 x2 x3 : Value} {r : RefV}
    (hp : act.tmps[p]?.getD undef = .pointer (some ⟨X, 0, none⟩)) (hv : act.tmps[q]?.getD undef = r.val) (hb : w.heap[X]? = some (.cells #[x0, x1, x2, x3] 37 (0, 0)))
    (hK : K act (setR w X r)) :
    if Region.wanted ⟨none, .store 37 (.tmp p) (.tmp q), ty, pos, aft, none⟩ (yielded ops act.tmps) = true then Oper.wp Try.prog ⟨none, .store 37 (.tmp p) (.tmp q), ty, pos, aft, none⟩ act w K Q else E := by
  rw [if_pos (by simp [Region.wanted])]
  unfold setR at hK
  unfold RefV.val at hv
  obtain ⟨d0, d1, d2, d3⟩ := ref_cells hb
  obtain ⟨f0, f1, f2, f3⟩ := fz hb
  go_simp
  exact hK
theorem two_refs {w u : World} (a b : RefV) {y0 y1 y2 y3 z0 z1 z2 z3 : Value} {t : TypeId} (h1 : u.heap[w.heap.size + 1]? = some (.cells #[y0, y1, y2, y3] t (0, 0))) (h2 : u.heap[w.heap.size + 1 + 1]? = some (.cells #[z0, z1, z2, z3] t (0, 0))) (k : Kept noBlock w u) :
    (setR (setR u (w.heap.size + 1) a) (w.heap.size + 1 + 1) b).heap[w.heap.size + 1]? = some (.cells #[.string a.name, .int .i64 a.kind, .int .i64 a.from_, .int .i64 a.to_] t (0, 0)) ∧
    (setR (setR u (w.heap.size + 1) a) (w.heap.size + 1 + 1) b).heap[w.heap.size + 1 + 1]? = some (.cells #[.string b.name, .int .i64 b.kind, .int .i64 b.from_, .int .i64 b.to_] t (0, 0)) ∧ Kept noBlock w (setR (setR u (w.heap.size + 1) a) (w.heap.size + 1 + 1) b) := by
  obtain ⟨e1, k1⟩ := ref_set (r := a) h1
  obtain ⟨e2, k2⟩ := ref_set (r := b) (k1.blk h2 (by omega))
  exact ⟨k2.blk e1 (by omega), e2, (k.trans k1 (fun i hi e => by omega)).trans k2 (fun i hi e => by omega)⟩
theorem pairS_step {l : List RefV} {j : Nat} {x : RefV} (hx : l[j]? = some x) : pairS l (l.drop j) = match fromV l x.to_ with | none => pairS l (l.drop (j + 1)) | some k => some (x, l[k]?.getD noRef) := by
  obtain ⟨h1, e⟩ := List.getElem?_eq_some_iff.1 hx
  rw [List.drop_eq_getElem_cons h1, e]
  rfl
theorem fromV_lt {l : List RefV} {p : Int} {k : Nat} (h : fromV l p = some k) : k < l.length := by
  unfold fromV at h
  rw [List.findIdx?_eq_some_iff_getElem] at h
  exact h.1

set_option maxRecDepth 100000 in
set_option maxHeartbeats 2000000 in
theorem pair_any (F : Nat → Prop) (A : Option Addr) (n c : Nat) (f : Int) (L : List RefV) (w : World) (h : Lies w F A (refCells L)) (hl : L.length = n) (hn : n ≤ 1099511627776) (hk : (ofK 1 L).length < 20) :
    Calls Try.prog 18 #[.agg #[.slice A n c, .int .i64 f]] w fun e w' => e = .returned (pairR (pairV L)) ∧ Kept noBlock w w' := by
  obtain ⟨w1, hw1⟩ : ∃ w1, w1 = ((w.alloc (.cells #[.slice A n c, .int .i64 f] 27)).alloc (.cells #[.string ⟨#[]⟩, .int .i64 0, .int .i64 0, .int .i64 0] 37)).alloc (.cells #[.string ⟨#[]⟩, .int .i64 0, .int .i64 0, .int .i64 0] 37) := ⟨_, rfl⟩
  have k1 : Kept noBlock w w1 := by rw [hw1]; exact ((Kept.alloc _ _ _).step (Kept.alloc _ _ _)).step (Kept.alloc _ _ _)
  have b0 : w1.heap[w.heap.size]? = some (.cells #[.slice A n c, .int .i64 f] 27 (0, 0)) := by rw [hw1]; exact ((Kept.alloc noBlock _ _).step (Kept.alloc noBlock _ _)).blk (heap_alloc_new w _) (fun h => h)
  have b1 : w1.heap[w.heap.size + 1]? = some (.cells #[.string ⟨#[]⟩, .int .i64 0, .int .i64 0, .int .i64 0] 37 (0, 0)) := by
    rw [hw1]
    exact (Kept.alloc noBlock _ _).blk (by have := heap_alloc_new (w.alloc (.cells #[.slice A n c, .int .i64 f] 27)) (.cells #[.string ⟨#[]⟩, .int .i64 0, .int .i64 0, .int .i64 0] 37); simpa using this) (fun h => h)
  have b2 : w1.heap[w.heap.size + 1 + 1]? = some (.cells #[.string ⟨#[]⟩, .int .i64 0, .int .i64 0, .int .i64 0] 37 (0, 0)) := by
    rw [hw1]
    have := heap_alloc_new ((w.alloc (.cells #[.slice A n c, .int .i64 f] 27)).alloc (.cells #[.string ⟨#[]⟩, .int .i64 0, .int .i64 0, .int .i64 0] 37)) (.cells #[.string ⟨#[]⟩, .int .i64 0, .int .i64 0, .int .i64 0] 37)
    simpa using this
  obtain ⟨O, hO⟩ : ∃ O, O = ordK 1 L := ⟨_, rfl⟩
  have K1 := Lib.hid k1
  have HSZ : Hid (w1.heap.size = w.heap.size + 3) := by unfold Hid; rw [hw1]; simp
  have ORD := Lib.hid (ord_any F A n c f 1 L w1 (h.keep k1 (fun _ _ h => h)) hl hn hk)
  have HRI : Hid (Rises O) := by unfold Hid; rw [hO]; exact ordV_rises _
  have HM0 : Hid (O.length < 20) := by unfold Hid; rw [hO]; unfold ordK; rw [ordV_len]; exact hk
  obtain ⟨z, hz⟩ : ∃ z, z = pairV L := ⟨_, rfl⟩
  rw [← hz]
  have HZ : Hid (z = pairS O O) := by unfold Hid; rw [hz, hO]; rfl
  obtain ⟨c0, c1⟩ := pair_cells b0
  have B1 := Lib.hid b1
  have B2 := Lib.hid b2
  rw [← hO] at ORD
  clear h hl k1 b0 b1 b2 hk hO hz
  go_enter Try.func18, Try.ntmps18
  go_upto_region 1 with (fail)
  rw [← hw1]
  clear hw1
  go_wp2_with fail
  refine ORD.out.mono ?_
  rintro e w2 ⟨A', c', rfl, o2, k2⟩
  have H := Lib.hid (Lies.of_rows (F := fun i => w1.heap.size ≤ i) o2 (fun i hi => (o2.lt i hi).1))
  have K2 := Lib.hid (K1.out.step k2)
  obtain ⟨m, hm⟩ : ∃ m, m = O.length := ⟨_, rfl⟩
  have HML : Hid (m = O.length) := hm
  rw [← hm] at HM0 ⊢
  have hm20 := HM0.out
  have B12 := Lib.hid (k2.blk B1.out (fun h => h))
  have B22 := Lib.hid (k2.blk B2.out (fun h => h))
  clear o2 k2 hm ORD c0 c1 HM0 B1 B2
  go_wp2_with fail
  go_loopw [13] (fun ix wr => ∃ j : Nat, j ≤ m ∧ ix = .int .i64 (j : Int) ∧ Hid (z = pairS O (O.drop j)) ∧ Hid (Kept noBlock w2 wr)) (fun ix _ => m - (intOf ix).toNat)
  case atStart => exact ⟨0, by omega, rfl, HZ, Kept.refl _ _⟩
  case round =>
    obtain ⟨j, hjm, rfl, HP, HK1⟩ := hrel
    by_cases hlt : j < m
    · obtain ⟨x, hx⟩ : ∃ x, O[j]? = some x := ⟨_, List.getElem?_eq_getElem (by have := HML.out; omega)⟩
      obtain ⟨g, o, rfl, hgb, cc⟩ := (H.out.keep HK1.out (fun _ _ h => h)).elem (enc := RefV.cells) ref_len (by omega) hx
      have HG := Lib.hid hgb
      have e0 := cc 0 _ rfl
      have e1 := cc 1 _ rfl
      have e2 := cc 2 _ rfl
      have e3 := cc 3 _ rfl
      rw [Nat.add_zero] at e0
      have HX := Lib.hid hx
      have ST := Lib.hid (pairS_step hx)
      clear hx cc hgb
      go_upto_region 5 with (fail)
      have k3 := Kept.alloc noBlock wr (.cells #[.string x.name, .int .i64 x.kind, .int .i64 x.from_, .int .i64 x.to_] 37)
      have b3 := heap_alloc_new wr (.cells #[.string x.name, .int .i64 x.kind, .int .i64 x.from_, .int .i64 x.to_] 37)
      obtain ⟨C, hC⟩ : ∃ C, C = wr.heap.size := ⟨_, rfl⟩
      have HC := Lib.hid hC
      rw [← hC] at b3 ⊢
      generalize wr.alloc (.cells #[.string x.name, .int .i64 x.kind, .int .i64 x.from_, .int .i64 x.to_] 37) = w3 at k3 b3 ⊢
      obtain ⟨d0, d1, d2, d3⟩ := ref_cells b3
      have K3 := Lib.hid (HK1.out.step k3)
      have HB3 := Lib.hid b3
      have FF := Lib.hid (ff_any (fun i => w1.heap.size ≤ i) (some ⟨g, o, none⟩) m c' O x.to_ w3 (H.out.keep K3.out (fun _ _ h => h)) HML.out HRI.out (by omega))
      obtain ⟨r, hr⟩ : ∃ r, r = fromV O x.to_ := ⟨_, rfl⟩
      rw [← hr] at FF ST
      have HR := Lib.hid hr
      clear e0 e1 e2 e3 k3 b3 hC hr
      go_wp2_with fail
      refine FF.out.mono ?_
      rintro e w4 ⟨rfl, k4⟩
      have K4 := Lib.hid (K3.out.step k4)
      have HB4 := Lib.hid (k4.blk HB3.out (fun h => h))
      clear d0 d1 d2 d3 k4 FF
      cases r with
      | none =>
        have HP9 : Hid (z = pairS O (O.drop (j + 1))) := by unfold Hid; rw [HP.out, ST.out]
        unfold plcI
        go_wp2
        go_roundw
        case rel => exact ⟨j + 1, by omega, by go_num, HP9, K4⟩
        case measure => simp [intOf]; omega
      | some k =>
        have hkO : k < O.length := fromV_lt HR.out.symm
        obtain ⟨y, hy⟩ : ∃ y, O[k]? = some y := ⟨_, List.getElem?_eq_getElem hkO⟩
        have HP9 : Hid (z = some (x, y)) := by
          unfold Hid
          rw [HP.out, ST.out]
          simp only
          rw [hy]
          rfl
        have hkm : k < m := by have := HML.out; omega
        have hkk : (0 : Int) ≤ (k : Int) := by omega
        have CE : Hid (∀ u, Kept (fun i => i < w1.heap.size) w4 u → (u.cell? ⟨C, 0, none⟩ = some (.string x.name) ∧ u.cell? ⟨C, 1, none⟩ = some (.int .i64 x.kind) ∧ u.cell? ⟨C, 2, none⟩ = some (.int .i64 x.from_) ∧ u.cell? ⟨C, 3, none⟩ = some (.int .i64 x.to_)) ∧
            (u.cell? ⟨g, o + k * 4, none⟩ = some (.string y.name) ∧ u.cell? ⟨g, o + k * 4 + 1, none⟩ = some (.int .i64 y.kind) ∧ u.cell? ⟨g, o + k * 4 + 2, none⟩ = some (.int .i64 y.from_) ∧ u.cell? ⟨g, o + k * 4 + 3, none⟩ = some (.int .i64 y.to_))) := fun u ku => by
          refine ⟨ref_cells (ku.blk HB4.out (fun e => by have := HC.out; have := (K2.out.step HK1.out).size; have := lt_of_blk B22.out; have := HSZ.out; have := HK1.out.size; omega)), ?_⟩
          obtain ⟨g', o', e, hg', cc⟩ := (H.out.keep K4.out (fun _ _ h => h)).elem (enc := RefV.cells) ref_len (by omega) hy
          injection e with e
          injection e with e1 e2
          subst e1; subst e2
          have hng : ¬ g < w1.heap.size := by omega
          exact ⟨ku.cell (cc 0 _ rfl) hng, ku.cell (cc 1 _ rfl) hng, ku.cell (cc 2 _ rfl) hng, ku.cell (cc 3 _ rfl) hng⟩
        have B14 := Lib.hid (K4.out.blk B12.out (fun h => h))
        have B24 := Lib.hid (K4.out.blk B22.out (fun h => h))
        have KC : Hid (Kept noBlock w4 w4.drew) := Kept.drew _ _
        unfold plcI
        simp only
        clear hy hkO
        go_upto_region 7 with (fail)
        refine wp_region_noPanic ?_
        refine wp_region_held_drew (S := fun u => (u.cell? ⟨C, 0, none⟩ = some (.string x.name) ∧ u.cell? ⟨C, 1, none⟩ = some (.int .i64 x.kind) ∧ u.cell? ⟨C, 2, none⟩ = some (.int .i64 x.from_) ∧ u.cell? ⟨C, 3, none⟩ = some (.int .i64 x.to_)) ∧ (u.cell? ⟨g, o + k * 4, none⟩ = some (.string y.name) ∧ u.cell? ⟨g, o + k * 4 + 1, none⟩ = some (.int .i64 y.kind) ∧ u.cell? ⟨g, o + k * 4 + 2, none⟩ = some (.int .i64 y.from_) ∧ u.cell? ⟨g, o + k * 4 + 3, none⟩ = some (.int .i64 y.to_))) (by kernel_rfl) (CE.out _ KC.out.to) (fun hHeld => ?_)
        refine wpAnyH_take (i := 0) (oi := ⟨some 23, Op.load 37 (Operand.tmp 7), 37, _, _, none⟩) (v := ?v0n1k1) rfl (by kernel_rfl) (by kernel_rfl) (by kernel_rfl) (fun _ _ _ h => h) (Or.inl ⟨by rfl, ?y0n1k1⟩) hHeld ?z0n1k1
        case y0n1k1 => intro w hSw; (try dsimp only at hSw); go_simp <;> rfl
        try simp only [Act.put, List.setIfInBounds_toArray, List.set_cons_zero, List.set_cons_succ]
        refine wpAnyH_take (i := 1) (oi := ⟨some 24, Op.move (Operand.tmp 5), 25, _, _, none⟩) (v := ?v1n1k2) rfl (by kernel_rfl) (by kernel_rfl) (by kernel_rfl) (fun _ _ _ h => h) (Or.inl ⟨by rfl, ?y1n1k2⟩) hHeld ?z1n1k2
        case y1n1k2 => intro w hSw; (try dsimp only at hSw); go_simp <;> rfl
        try simp only [Act.put, List.setIfInBounds_toArray, List.set_cons_zero, List.set_cons_succ]
        refine wpAnyH_take (i := 2) (oi := ⟨some 25, Op.move (Operand.tmp 8), 3, _, _, none⟩) (v := ?v2n1k3) rfl (by kernel_rfl) (by kernel_rfl) (by kernel_rfl) (fun _ _ _ h => h) (Or.inl ⟨by rfl, ?y2n1k3⟩) hHeld ?z2n1k3
        case y2n1k3 => intro w hSw; (try dsimp only at hSw); go_simp <;> rfl
        try simp only [Act.put, List.setIfInBounds_toArray, List.set_cons_zero, List.set_cons_succ]
        refine wpAnyH_take (i := 3) (oi := ⟨some 26, Op.indexAddr 25 (Operand.tmp 24) (Operand.tmp 25), 0, _, _, none⟩) (v := ?v3n1k4) rfl (by kernel_rfl) (by kernel_rfl) (by kernel_rfl) (fun _ _ _ h => h) (Or.inl ⟨by rfl, ?y3n1k4⟩) hHeld ?z3n1k4
        case y3n1k4 => intro w hSw; (try dsimp only at hSw); go_simp <;> rfl
        try simp only [Act.put, List.setIfInBounds_toArray, List.set_cons_zero, List.set_cons_succ]
        refine wpAnyH_take (i := 4) (oi := ⟨some 27, Op.load 37 (Operand.tmp 26), 37, _, _, none⟩) (v := ?v4n1k5) rfl (by kernel_rfl) (by kernel_rfl) (by kernel_rfl) (fun _ _ _ h => h) (Or.inl ⟨by rfl, ?y4n1k5⟩) hHeld ?z4n1k5
        case y4n1k5 => intro w hSw; (try dsimp only at hSw); go_simp <;> rfl
        try simp only [Act.put, List.setIfInBounds_toArray, List.set_cons_zero, List.set_cons_succ]
        refine wpAnyH_ready (rs := [5]) (by kernel_rfl) (by simp) ?_
        refine AllReadyH.cons (o := ⟨none, Op.store 37 (Operand.tmp 2) (Operand.tmp 23), 0, _, _, none⟩) rfl (fun K hK => ?_) AllReadyH.nil
        have hb1 := KC.out.blk B14.out (fun h => h)
        obtain ⟨hz, kz⟩ := ref_set (r := x) hb1
        have KZ : Hid (Kept (fun i => i < w1.heap.size) w4 _) := KC.out.to.step (kz.mono (fun i _ e => by have := HSZ.out; omega))
        refine step_storeR rfl rfl hb1 ?_
        clear hb1 hz kz
        refine hK.out _ _ (CE.out _ KZ.out) (fun hHeld => ?_)
        clear hK K
        try simp only [Act.put, List.setIfInBounds_toArray, List.set_cons_zero, List.set_cons_succ]
        refine wpAnyH_ready (rs := [6]) (by kernel_rfl) (by simp) ?_
        refine AllReadyH.cons (o := ⟨none, Op.store 37 (Operand.tmp 3) (Operand.tmp 27), 0, _, _, none⟩) rfl (fun K hK => ?_) AllReadyH.nil
        have hb1 := KC.out.blk B14.out (fun h => h)
        obtain ⟨hz, kz⟩ := ref_set (r := x) hb1
        have hb2 := kz.blk (KC.out.blk B24.out (fun h => h)) (show ¬ (w.heap.size + 1 + 1 = w.heap.size + 1) by omega)
        obtain ⟨hz2, kz2⟩ := ref_set (r := y) hb2
        have KZ2 : Hid (Kept (fun i => i < w1.heap.size) w4 _) := KZ.out.step (kz2.mono (fun i _ e => by have := HSZ.out; omega))
        refine step_storeR rfl rfl hb2 ?_
        clear hb1 hz kz hb2 hz2 kz2
        refine hK.out _ _ (CE.out _ KZ2.out) (fun hHeld => ?_)
        clear hK K
        try simp only [Act.put, List.setIfInBounds_toArray, List.set_cons_zero, List.set_cons_succ]
        refine wpAnyH_take (i := 7) (oi := ⟨some 4, Op.assign (Operand.const (Value.bool true)), 4, _, _, none⟩) (v := ?v7n1k6) rfl (by kernel_rfl) (by kernel_rfl) (by kernel_rfl) (fun _ _ _ h => h) (Or.inl ⟨by rfl, ?y7n1k6⟩) hHeld ?z7n1k6
        case y7n1k6 => intro w hSw; (try dsimp only at hSw); go_simp <;> rfl
        try simp only [Act.put, List.setIfInBounds_toArray, List.set_cons_zero, List.set_cons_succ]
        refine wpAnyH_done (by kernel_rfl) ?_ _
        refine NoPanic.normal ?_
        clear hHeld
        go_wp2
        obtain ⟨hz1, hz2, kz⟩ := two_refs x y (KC.out.blk B14.out (fun h => h)) (KC.out.blk B24.out (fun h => h)) ((K2.out.step K4.out).step KC.out)
        generalize setR (setR w4.drew (w.heap.size + 1) x) (w.heap.size + 1 + 1) y = v9 at hz1 hz2 kz ⊢
        obtain ⟨x0, x1, x2, x3⟩ := ref_cells hz1
        obtain ⟨y0, y1, y2, y3⟩ := ref_cells hz2
        refine bodyPost_ret (v := .tuple #[.agg #[.string x.name, .int .i64 x.kind, .int .i64 x.from_, .int .i64 x.to_], .agg #[.string y.name, .int .i64 y.kind, .int .i64 y.from_, .int .i64 y.to_], .bool true]) (by simp [results, Try.results18, go_sem, Try.isAgg37, Try.sizeOf37, x0, x1, x2, x3, y0, y1, y2, y3]) rfl ?_
        rw [HP9.out]
        exact ⟨rfl, kz⟩
    · obtain rfl : j = m := by omega
      have hd : O.drop j = [] := List.drop_eq_nil_of_le (by have := HML.out; omega)
      rw [hd] at HP
      have HP9 : Hid (z = none) := HP.out
      clear hd HP
      have hb1 := HK1.out.blk B12.out (fun h => h)
      have hb2 := HK1.out.blk B22.out (fun h => h)
      obtain ⟨f0, f1, f2, f3⟩ := fz hb1
      obtain ⟨q0, q1, q2, q3⟩ := fz hb2
      obtain ⟨x0, x1, x2, x3⟩ := ref_cells hb1
      obtain ⟨y0, y1, y2, y3⟩ := ref_cells hb2
      clear hb1 hb2
      go_wp2
      change bodyPost _ _ _ _ _ (setR (setR wr (w.heap.size + 1) noRef) (w.heap.size + 1 + 1) noRef)
      obtain ⟨hz1, hz2, kz⟩ := two_refs noRef noRef (HK1.out.blk B12.out (fun h => h)) (HK1.out.blk B22.out (fun h => h)) (K2.out.step HK1.out)
      generalize setR (setR wr (w.heap.size + 1) noRef) (w.heap.size + 1 + 1) noRef = v9 at hz1 hz2 kz ⊢
      unfold noRef at hz1 hz2
      simp only at hz1 hz2
      obtain ⟨x0, x1, x2, x3⟩ := ref_cells hz1
      obtain ⟨y0, y1, y2, y3⟩ := ref_cells hz2
      refine bodyPost_ret (v := .tuple #[.agg #[.string ⟨#[]⟩, .int .i64 0, .int .i64 0, .int .i64 0], .agg #[.string ⟨#[]⟩, .int .i64 0, .int .i64 0, .int .i64 0], .bool false]) (by simp [results, Try.results18, go_sem, Try.isAgg37, Try.sizeOf37, x0, x1, x2, x3, y0, y1, y2, y3]) rfl ?_
      rw [HP9.out]
      exact ⟨rfl, kz⟩
end Go.Proofs.Ytollmkkbeeeccaa
