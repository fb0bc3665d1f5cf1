/-
  SortedMerge: what it does with whatever deeds. No statement is proved here.
-/
import Derived.Test.YtohanlhfbfodlaaL5Sit
import Derived.IntWalk
namespace Go.Proofs.Ytohanlhfbfodlaa
open Go.RowKit Go.Shelf
attribute [local go_sem] Oper.semAt_some

/-- The last key so far. -/
def lastOf (pre : List (Int × Int)) : Int := match pre.getLast? with | some p => p.1 | none => -1000
theorem lastOf_snoc (pre : List (Int × Int)) (p : Int × Int) : lastOf (pre ++ [p]) = p.1 := by simp [lastOf]
theorem lastOf_lt {pre rest : List (Int × Int)} {p : Int × Int} (hu : Srt.Up (pre ++ p :: rest)) (hs : -1000 < p.1) : lastOf pre < p.1 := by
  unfold lastOf
  cases h : pre.getLast? with
  | none => exact hs
  | some q =>
    have hq := List.mem_of_getLast? h
    have := (List.pairwise_append.1 hu).2.2 q hq p (by simp)
    simpa [Tot.lt] using this

/-- The law's boxes. -/
def mb (B5 B6 B7 B8 B9 B10 B11 x y st : Nat) (r : Bool) (n la se : Int) : List Box :=
  [(B11, .int .i64 se, 3), (B10, .int .i64 la, 3), (B9, .int .i64 n, 3), (B8, .pointer (some ⟨y, 0, none⟩), 24), (B7, .pointer (some ⟨x, 0, none⟩), 24), (B6, .bool r, 4), (B5, .int .u8 (st : Int), 5)]
section
variable {w W : World} {B5 B6 B7 B8 B9 B10 B11 x y st m0 : Nat} {r : Bool} {n la se : Int} {Lx Ly : List (Int × Int)} {Ds : List Nat} {F G : Nat → Prop}
theorem ms_seen (u : Int) (h : Sit w (mb B5 B6 B7 B8 B9 B10 B11 x y st r n la se) x y Lx Ly Ds F G W) : KeepsFrom m0 W (W.setCell ⟨B11, 0, none⟩ (.int .i64 u)) ∧ Spares II.UU W (W.setCell ⟨B11, 0, none⟩ (.int .i64 u)) ∧ Sit w (mb B5 B6 B7 B8 B9 B10 B11 x y st r n la u) x y Lx Ly Ds F G (W.setCell ⟨B11, 0, none⟩ (.int .i64 u)) :=
  Sit.put [] (mb B5 B6 B7 B8 B9 B10 B11 x y st r n la se).tail B11 (.int .i64 se) (.int .i64 u) 3 h
theorem ms_last (u : Int) (h : Sit w (mb B5 B6 B7 B8 B9 B10 B11 x y st r n la se) x y Lx Ly Ds F G W) : KeepsFrom m0 W (W.setCell ⟨B10, 0, none⟩ (.int .i64 u)) ∧ Spares II.UU W (W.setCell ⟨B10, 0, none⟩ (.int .i64 u)) ∧ Sit w (mb B5 B6 B7 B8 B9 B10 B11 x y st r n u se) x y Lx Ly Ds F G (W.setCell ⟨B10, 0, none⟩ (.int .i64 u)) :=
  Sit.put [(B11, .int .i64 se, 3)] (mb B5 B6 B7 B8 B9 B10 B11 x y st r n la se).tail.tail B10 (.int .i64 la) (.int .i64 u) 3 h
theorem ms_num (u : Int) (h : Sit w (mb B5 B6 B7 B8 B9 B10 B11 x y st r n la se) x y Lx Ly Ds F G W) : KeepsFrom m0 W (W.setCell ⟨B9, 0, none⟩ (.int .i64 u)) ∧ Spares II.UU W (W.setCell ⟨B9, 0, none⟩ (.int .i64 u)) ∧ Sit w (mb B5 B6 B7 B8 B9 B10 B11 x y st r u la se) x y Lx Ly Ds F G (W.setCell ⟨B9, 0, none⟩ (.int .i64 u)) :=
  Sit.put [(B11, .int .i64 se, 3), (B10, .int .i64 la, 3)] (mb B5 B6 B7 B8 B9 B10 B11 x y st r n la se).tail.tail.tail B9 (.int .i64 n) (.int .i64 u) 3 h
theorem ms_res (u : Bool) (h : Sit w (mb B5 B6 B7 B8 B9 B10 B11 x y st r n la se) x y Lx Ly Ds F G W) : KeepsFrom m0 W (W.setCell ⟨B6, 0, none⟩ (.bool u)) ∧ Spares II.UU W (W.setCell ⟨B6, 0, none⟩ (.bool u)) ∧ Sit w (mb B5 B6 B7 B8 B9 B10 B11 x y st u n la se) x y Lx Ly Ds F G (W.setCell ⟨B6, 0, none⟩ (.bool u)) :=
  Sit.put [(B11, .int .i64 se, 3), (B10, .int .i64 la, 3), (B9, .int .i64 n, 3), (B8, .pointer (some ⟨y, 0, none⟩), 24), (B7, .pointer (some ⟨x, 0, none⟩), 24)] [(B5, .int .u8 (st : Int), 5)] B6 (.bool r) (.bool u) 4 h
end

set_option maxRecDepth 100000 in
set_option maxHeartbeats 4000000 in
theorem merge_walk (F F2 : Nat → Prop) (a : Option Addr) (n c : Nat) (xs : List ActV) (b : Option Addr) (n2 c2 : Nat) (ys : List ActV) (st : Nat) (w : World) (h : Lies w F a (actCells xs)) (hx : ∀ x ∈ xs, x.fit) (hl : xs.length = n) (hc : n ≤ c)
    (h2 : Lies w F2 b (actCells ys)) (hy : ∀ x ∈ ys, x.fit) (hl2 : ys.length = n2) (hc2 : n2 ≤ c2) (hst : st ≤ 255) :
    Calls Try.prog 5 #[.slice a n c, .slice b n2 c2, .int .u8 (st : Int)] w fun e w' => e = .returned (.bool true) ∧ Kept noBlock w w' := by
  have OFX := Lib.hid (fun W (kW : Kept noBlock w W) => of_any F a n c xs W (h.keep kW (fun _ _ h => h)) hx hl hc)
  have OFY := Lib.hid (fun W (kW : Kept noBlock w W) => of_any F2 b n2 c2 ys W (h2.keep kW (fun _ _ h => h)) hy hl2 hc2)
  have hsx : (ofL (xs.take 60)).length ≤ 60 := by have := ofL_len (xs.take 60); have := List.length_take_le 60 xs; omega
  have hsy : (ofL (ys.take 60)).length ≤ 60 := by have := ofL_len (ys.take 60); have := List.length_take_le 60 ys; omega
  have hmx : Small (ofL (xs.take 60)) := ofL_small (fun x hx' => hx x (List.mem_of_mem_take hx'))
  have hmy : Small (ofL (ys.take 60)) := ofL_small (fun x hx' => hy x (List.mem_of_mem_take hx'))
  obtain ⟨Lx, hLx⟩ : ∃ Lx, Lx = ofL (xs.take 60) := ⟨_, rfl⟩
  obtain ⟨Ly, hLy⟩ : ∃ Ly, Ly = ofL (ys.take 60) := ⟨_, rfl⟩
  have hux : Srt.Up Lx := by rw [hLx]; exact ofL_up _
  have huy : Srt.Up Ly := by rw [hLy]; exact ofL_up _
  rw [← hLx] at OFX hsx hmx
  rw [← hLy] at OFY hsy hmy
  obtain ⟨M, hM⟩ : ∃ M, M = Srt.mrg Lx Ly := ⟨_, rfl⟩
  have hum : Srt.Up M := by rw [hM]; exact Srt.up_mrg hux huy
  have hlm : M.length ≤ 120 := by have := Srt.mrg_len Lx Ly; rw [hM]; omega
  have HLEN := Lib.hid (Srt.mrg_len Lx Ly)
  have HLK : Hid (∀ k v, (k, v) ∈ M → ((Srt.look Ly k).or (Srt.look Lx k) = some v ∧ -1000 < k)) := Lib.hid (fun k v hm => by
    have h1 := Srt.look_of_mem hum hm
    have h0 := h1
    rw [hM, Srt.look_mrg hux huy] at h1
    refine ⟨h1, ?_⟩
    have hm2 := hm
    rw [hM] at hm2
    rcases (Srt.mem_mrg hux huy (k, v)).1 hm2 with h3 | ⟨h3, _⟩
    · have := (hmy _ h3).1; simp at this; omega
    · have := (hmx _ h3).1; simp at this; omega)
  have HCNT : Hid (M.length = Ly.length + (Lx.filter fun p => !Srt.has Ly p.1).length) := Lib.hid (by rw [hM]; exact mrg_len_eq hux huy)
  have HUM := Lib.hid hum
  have HM := Lib.hid hM
  clear h hx hl hLx hux hc h2 hy hl2 hLy huy hc2 hmx hmy hum hM
  refine (callsIn_wide (n := 3)).1 ?_
  refine callsIn_of_wp_marks Try.func5 rfl trivial ?_ rfl
  simp only [Try.ntmps5, List.size_toArray, List.length_cons, List.length_nil, Nat.reduceAdd, Nat.reduceSub, Array.replicate_succ, Array.replicate_zero, List.push_toArray, List.append_toArray, List.nil_append, List.cons_append]
  refine wpIn_wide.2 ?_
  go_wp2_with fail
  have a5 := heap_alloc2_old w (.cells #[.int .u8 (st : Int)] 5) (.cells #[.bool false] 4)
  have a6 := heap_alloc2_new w (.cells #[.int .u8 (st : Int)] 5) (.cells #[.bool false] 4)
  have k6 : Kept noBlock w ((w.alloc (.cells #[.int .u8 (st : Int)] 5)).alloc (.cells #[.bool false] 4)) := (Kept.alloc _ _ _).step (Kept.alloc _ _ _)
  have s6 : ((w.alloc (.cells #[.int .u8 (st : Int)] 5)).alloc (.cells #[.bool false] 4)).heap.size = w.heap.size + 1 + 1 := by simp
  obtain ⟨B6, hB6⟩ : ∃ B6, B6 = w.heap.size + 1 := ⟨_, rfl⟩
  obtain ⟨B5, hB5⟩ : ∃ B5, B5 = w.heap.size := ⟨_, rfl⟩
  rw [← hB5] at a5
  rw [← hB6] at a6
  rw [← hB6, ← hB5]
  have HB5 := Lib.hid hB5
  have HB6 := Lib.hid hB6
  clear hB5 hB6
  generalize ((w.alloc (.cells #[.int .u8 (st : Int)] 5)).alloc (.cells #[.bool false] 4)) = w0 at a5 a6 k6 s6 ⊢
  refine (awake_any w0).mono ?_
  rintro e w1 ⟨rfl, k1⟩
  have A5 := Lib.hid (k1.blk a5 (fun h => h))
  have A6 := Lib.hid (k1.blk a6 (fun h => h))
  have K1 := Lib.hid (k6.step k1)
  have hs1 : w.heap.size + 1 + 1 ≤ w1.heap.size := by have := k1.size; omega
  clear a5 a6 k6 k1 s6
  go_wp2_with fail
  refine (OFX.out w1 K1.out).mono ?_
  rintro e w2 ⟨x, rfl, o2, k2⟩
  have O2 := Lib.hid o2; clear o2
  have K2 := Lib.hid k2; clear k2
  go_wp2_with fail
  refine (OFY.out w2 (K1.out.step K2.out)).mono ?_
  rintro e w3 ⟨y, rfl, o3, k3⟩
  obtain ⟨FF, GG, t3⟩ : Two w w3 x y Lx Ly [B6, B5] := Two.of K1.out O2.out K2.out o3 k3 (by have := HB5.out; have := HB6.out; intro e he; simp at he; omega)
  have s3 : Sit w [(B6, .bool false, 4), (B5, .int .u8 (st : Int), 5)] x y Lx Ly [] FF GG w3 := by
    have h5 := HB5.out
    have h6 := HB6.out
    refine ⟨by simp; omega, ?_, ?_, ?_, t3, fun _ h => by cases h⟩
    · intro p hp; simp at hp; rcases hp with rfl | rfl <;> simp <;> omega
    · intro p hp; simp at hp; rcases hp with rfl | rfl <;> (unfold Plain; dsimp only; decide)
    · intro p hp; simp at hp
      rcases hp with rfl | rfl
      · exact k3.blk (K2.out.blk A6.out (fun h => h)) (fun h => h)
      · exact k3.blk (K2.out.blk A5.out (fun h => h)) (fun h => h)
  have S3 := Lib.hid s3
  clear t3 s3 o3 k3 O2 K2 K1 A5 A6 OFX OFY hs1 HB5 HB6
  go_wp2_with fail
  have s4 := ((((S3.out.alloc (.pointer (some ⟨x, 0, none⟩)) 24 (by unfold Plain; decide)).alloc (.pointer (some ⟨y, 0, none⟩)) 24 (by unfold Plain; decide)).alloc (.int .i64 0) 3 (by unfold Plain; decide)).alloc (.int .i64 (-1000)) 3 (by unfold Plain; decide)).alloc (.int .i64 0) 3 (by unfold Plain; decide)
  simp only [World.size_alloc] at s4
  obtain ⟨B11, hB11⟩ : ∃ B11, B11 = w3.heap.size + 1 + 1 + 1 + 1 := ⟨_, rfl⟩
  obtain ⟨B10, hB10⟩ : ∃ B10, B10 = w3.heap.size + 1 + 1 + 1 := ⟨_, rfl⟩
  obtain ⟨B9, hB9⟩ : ∃ B9, B9 = w3.heap.size + 1 + 1 := ⟨_, rfl⟩
  obtain ⟨B8, hB8⟩ : ∃ B8, B8 = w3.heap.size + 1 := ⟨_, rfl⟩
  obtain ⟨B7, hB7⟩ : ∃ B7, B7 = w3.heap.size := ⟨_, rfl⟩
  rw [← hB11, ← hB10, ← hB9, ← hB8, ← hB7] at s4
  rw [← hB11, ← hB10, ← hB9, ← hB8, ← hB7]
  generalize (((((w3.alloc (.cells #[.pointer (some ⟨x, 0, none⟩)] 24)).alloc (.cells #[.pointer (some ⟨y, 0, none⟩)] 24)).alloc (.cells #[.int .i64 0] 3)).alloc (.cells #[.int .i64 (-1000)] 3)).alloc (.cells #[.int .i64 0] 3)) = w4 at s4 ⊢
  have S4 : Hid (Sit w (mb B5 B6 B7 B8 B9 B10 B11 x y st false 0 (-1000) 0) x y Lx Ly [] FF GG w4.drew) := Lib.hid (s4.kept (Kept.drew _ _))
  clear s4 S3 hB11 hB10 hB9 hB8 hB7
  have c7 : w4.drew.cell? ⟨B7, 0, none⟩ = some (.pointer (some ⟨x, 0, none⟩)) := S4.out.cell (t := 24) (by simp [mb])
  have c8 : w4.drew.cell? ⟨B8, 0, none⟩ = some (.pointer (some ⟨y, 0, none⟩)) := S4.out.cell (t := 24) (by simp [mb])
  refine wp_region_noPanic ?_
  refine wp_region_held_drew (S := fun w' => w'.cell? ⟨B7, 0, none⟩ = some (.pointer (some ⟨x, 0, none⟩)) ∧ w'.cell? ⟨B8, 0, none⟩ = some (.pointer (some ⟨y, 0, none⟩))) (by kernel_rfl) ⟨c7, c8⟩ (fun hHeld => ?_)
  refine wpAnyH_take (i := 0) (oi := ⟨some 25, Op.load 24 (Operand.tmp 7), 24, _, _, none⟩) (v := ?v0n1k1) rfl (by kernel_rfl) (by kernel_rfl) (by kernel_rfl) (fun _ _ _ h => h) (Or.inl ⟨by rfl, ?y0n1k1⟩) hHeld ?z0n1k1
  case y0n1k1 => intro w hSw; (try dsimp only at hSw); go_simp <;> rfl
  try simp only [Act.put, List.setIfInBounds_toArray, List.set_cons_zero, List.set_cons_succ]
  refine wpAnyH_take (i := 2) (oi := ⟨some 27, Op.load 24 (Operand.tmp 8), 24, _, _, none⟩) (v := ?v2n1k2) rfl (by kernel_rfl) (by kernel_rfl) (by kernel_rfl) (fun _ _ _ h => h) (Or.inl ⟨by rfl, ?y2n1k2⟩) hHeld ?z2n1k2
  case y2n1k2 => intro w hSw; (try dsimp only at hSw); go_simp <;> rfl
  try simp only [Act.put, List.setIfInBounds_toArray, List.set_cons_zero, List.set_cons_succ]
  refine wpAnyH_ready (rs := [1]) (by kernel_rfl) (by simp) ?_
  refine AllReadyH.cons (o := ⟨some 26, Op.call { callee := Callee.value (Operand.func 20), args := #[Operand.tmp 25], argTypes := #[24] }, 50, _, _, none⟩) rfl (fun K hK => ?_) AllReadyH.nil
  go_simp
  refine (II.all_any x _).mono ?_
  rintro e wa ⟨rfl, ba, ka⟩
  have BA := Lib.hid ba
  have SA := Lib.hid (S4.out.kept ka)
  have c7a : wa.cell? ⟨B7, 0, none⟩ = some (.pointer (some ⟨x, 0, none⟩)) := SA.out.cell (t := 24) (by simp [mb])
  have c8a : wa.cell? ⟨B8, 0, none⟩ = some (.pointer (some ⟨y, 0, none⟩)) := SA.out.cell (t := 24) (by simp [mb])
  clear S4 ba ka c7 c8
  dsimp only
  generalize w4.drew.heap.size = b1 at BA ⊢
  refine hK.out _ _ ⟨c7a, c8a⟩ (fun hHeld => ?_)
  clear hK K
  try simp only [Act.put, List.setIfInBounds_toArray, List.set_cons_zero, List.set_cons_succ]
  refine wpAnyH_ready (rs := [3]) (by kernel_rfl) (by simp) ?_
  refine AllReadyH.cons (o := ⟨some 28, Op.call { callee := Callee.value (Operand.func 20), args := #[Operand.tmp 27], argTypes := #[24] }, 50, _, _, none⟩) rfl (fun K hK => ?_) AllReadyH.nil
  go_simp
  refine (II.all_any y _).mono ?_
  rintro e wb ⟨rfl, bb, kb⟩
  have BB := Lib.hid bb
  have BA2 := Lib.hid (kb.blk BA.out (fun h => h))
  have SB := Lib.hid (SA.out.kept kb)
  have c7b : wb.cell? ⟨B7, 0, none⟩ = some (.pointer (some ⟨x, 0, none⟩)) := SB.out.cell (t := 24) (by simp [mb])
  have c8b : wb.cell? ⟨B8, 0, none⟩ = some (.pointer (some ⟨y, 0, none⟩)) := SB.out.cell (t := 24) (by simp [mb])
  clear SA BA bb kb c7a c8a
  dsimp only
  generalize wa.heap.size = b2 at BB ⊢
  refine hK.out _ _ ⟨c7b, c8b⟩ (fun hHeld => ?_)
  clear hK K
  try simp only [Act.put, List.setIfInBounds_toArray, List.set_cons_zero, List.set_cons_succ]
  refine wpAnyH_ready (rs := [4]) (by kernel_rfl) (by simp) ?_
  refine AllReadyH.cons (o := ⟨some 29, Op.call { callee := Callee.value (Operand.func 23), args := #[Operand.tmp 26, Operand.tmp 28], argTypes := #[50, 50] }, 50, _, _, none⟩) rfl (fun K hK => ?_) AllReadyH.nil
  go_simp
  refine (II.merge_any _ _ _ _ _).mono ?_
  rintro e wc ⟨rfl, h1, h2, kc⟩
  have SC := Lib.hid (SB.out.kept kc)
  have HR := Lib.hid (merge_of SC.out.two.1 SC.out.two.2.1 (kc.blk BA2.out (fun h => h)) (kc.blk BB.out (fun h => h)) h1 h2 (by omega))
  have c7c : wc.cell? ⟨B7, 0, none⟩ = some (.pointer (some ⟨x, 0, none⟩)) := SC.out.cell (t := 24) (by simp [mb])
  have c8c : wc.cell? ⟨B8, 0, none⟩ = some (.pointer (some ⟨y, 0, none⟩)) := SC.out.cell (t := 24) (by simp [mb])
  clear SB BA2 BB h1 h2 kc c7b c8b
  dsimp only
  generalize wb.heap.size = b3 at HR ⊢
  refine hK.out _ _ ⟨c7c, c8c⟩ (fun hHeld => ?_)
  clear hK K
  try simp only [Act.put, List.setIfInBounds_toArray, List.set_cons_zero, List.set_cons_succ]
  refine wpAnyH_done (by kernel_rfl) ?_ _
  refine NoPanic.normal ?_
  rw [← HM.out] at HR
  have hwT := SC.out.two.two.world.size
  have HFF := Lib.hid (show ∀ i, FF i → i < wc.heap.size from SC.out.two.1.lt)
  have HGG := Lib.hid (show ∀ i, GG i → i < wc.heap.size from SC.out.two.2.1.lt)
  have HNO : Hid (∀ D ∈ ([] : List Nat), D < wc.heap.size) := Lib.hid (fun _ h => by cases h)
  clear hHeld c7c c8c
  go_wp2_with fail
  refine (wpIn_wide (n := 3)).1 ?_
  refine wpIn_runs_to rfl (enters_of Try.func39 (by kernel_rfl) rfl) HR.out (Kept.refl _ _) (fun _ => rfl) (fun p => [(12, II.ek p.1), (13, II.ev p.2)]) (fun pre W => Hid (Sit w (mb B5 B6 B7 B8 B9 B10 B11 x y st false (pre.length : Nat) (lastOf pre) 0) x y Lx Ly [] FF GG W)) (fun _ _ _ => False)
    (fun s A B h k => Lib.hid (h.out.abide k HFF.out HGG.out hwT HNO.out)) (fun _ _ _ _ h _ => h) SC ?assign ?body ?done ?stop
  case assign =>
    intro l p W K hK
    dsimp only [II.enc]
    simp only [landed, List.foldl_cons, List.foldl_nil, List.zip_toArray, List.zip_cons_cons, List.zip_nil_right, II.enc, List.foldl_toArray, List.setIfInBounds_toArray, List.set_cons_zero, List.set_cons_succ] at hK
    gi_wp2
    exact hK
  case body =>
    rintro l pre p rest W hL hI
    simp only [landed, List.foldl_cons, List.foldl_nil, List.zip_toArray, List.zip_cons_cons, List.zip_nil_right, II.enc, List.foldl_toArray, List.setIfInBounds_toArray, List.set_cons_zero, List.set_cons_succ]
    obtain ⟨pk, pv⟩ := p
    have hpm : (pk, pv) ∈ M := by rw [hL]; simp
    have hpre : pre.length < M.length := by rw [hL]; simp
    obtain ⟨hor, hks⟩ := HLK.out pk pv hpm
    have hlt : lastOf pre < pk := lastOf_lt (p := (pk, pv)) (by rw [← hL]; exact HUM.out) hks
    obtain ⟨q, hq⟩ : ∃ q, q = pre.length := ⟨_, rfl⟩
    obtain ⟨la, hla⟩ : ∃ la, la = lastOf pre := ⟨_, rfl⟩
    have hq2 : q < 9223372036854775807 := by omega
    have HI : Hid (Sit w (mb B5 B6 B7 B8 B9 B10 B11 x y st false (q : Nat) la 0) x y Lx Ly [] FF GG W) := by rw [hq, hla]; exact hI
    have HQ : Hid (((pre ++ [(pk, pv)]).length : Int) = (q : Int) + 1 ∧ lastOf (pre ++ [(pk, pv)]) = pk) := Lib.hid ⟨by simp [hq], lastOf_snoc _ _⟩
    rw [← hla] at hlt
    have hnle : ¬ (pk ≤ la) := by omega
    have c8 : W.cell? ⟨B8, 0, none⟩ = some (.pointer (some ⟨y, 0, none⟩)) := HI.out.cell (t := 24) (by simp [mb])
    have gy := HI.out.two.two.swap.get pk
    have gx := Lib.hid (fun W' (kW : Kept noBlock W W') => (HI.out.two.kept kW).two.get pk)
    have FIN : Hid (∀ w7, Kept noBlock W w7 → (w7.cell? ⟨B10, 0, none⟩ = some (.int .i64 la) ∧ w7.frozen? ⟨B10, 0, none⟩ = false ∧ (w7.setCell ⟨B10, 0, none⟩ (.int .i64 pk)).cell? ⟨B9, 0, none⟩ = some (.int .i64 (q : Int)) ∧ (w7.setCell ⟨B10, 0, none⟩ (.int .i64 pk)).frozen? ⟨B9, 0, none⟩ = false ∧
        KeepsFrom wc.heap.size W ((w7.setCell ⟨B10, 0, none⟩ (.int .i64 pk)).setCell ⟨B9, 0, none⟩ (.int .i64 ((q : Int) + 1))) ∧ Spares II.UU W ((w7.setCell ⟨B10, 0, none⟩ (.int .i64 pk)).setCell ⟨B9, 0, none⟩ (.int .i64 ((q : Int) + 1))) ∧
        Sit w (mb B5 B6 B7 B8 B9 B10 B11 x y st false ((q : Int) + 1) pk 0) x y Lx Ly [] FF GG ((w7.setCell ⟨B10, 0, none⟩ (.int .i64 pk)).setCell ⟨B9, 0, none⟩ (.int .i64 ((q : Int) + 1))))) := Lib.hid (fun w7 k7 => by
      have S7 := HI.out.kept k7
      have p1 := ms_last (m0 := wc.heap.size) pk S7
      have p2 := ms_num (m0 := wc.heap.size) ((q : Int) + 1) p1.2.2
      exact ⟨S7.cell (t := 3) (by simp [mb]), S7.froz (t := 3) (v := .int .i64 la) (by simp [mb]), p1.2.2.cell (t := 3) (by simp [mb]), p1.2.2.froz (t := 3) (v := .int .i64 (q : Int)) (by simp [mb]), ((keepsFrom_kept k7 (fun _ _ h => h.elim)).trans p1.1).trans p2.1, ((Spares.of_kept k7).trans p1.2.1).trans p2.2.1, p2.2.2⟩)
    unfold II.ek II.ev
    dsimp only
    clear hpm hpre hL hq hla hks hI
    cases hh : Srt.has Ly pk with
    | true =>
      obtain ⟨u, hu⟩ := (Srt.has_iff _ _).1 hh
      rw [hu] at hor gy
      have huv : u = pv := by simpa using hor
      subst huv
      rw [hh, Option.getD_some] at gy
      have GY := Lib.hid gy
      clear hh hu hor gy HI gx
      gi_wp2_with fail
      refine ⟨trivial, ?_⟩
      refine (CallsIn.inRound l (callsIn_wide.2 GY.out)).mono ?_
      rintro e w7 ⟨rfl, k7⟩
      obtain ⟨c10, f10, c9, f9, r1, r2, r3⟩ := FIN.out w7 k7
      have R1 := Lib.hid r1
      have R2 := Lib.hid r2
      have R3 := Lib.hid r3
      clear FIN GY k7 r1 r2 r3 c8
      gi_wp2
      exact ⟨R1.out, R2.out, Lib.hid (by rw [HQ.out.1, HQ.out.2]; exact R3.out)⟩
    | false =>
      have hn := (Srt.has_false _ _).1 hh
      rw [hn, Option.none_or] at hor
      rw [hh] at gy
      generalize (Srt.look Ly pk).getD 0 = zz at gy
      have GY := Lib.hid gy
      have GX := Lib.hid (fun W' kW => by have := gx.out W' kW; rw [hor, (Srt.has_iff _ _).2 ⟨_, hor⟩, Option.getD_some] at this; exact this)
      have S8 := Lib.hid (fun W' (kW : Kept noBlock W W') => (HI.out.kept kW).cell (t := 24) (b := B7) (v := .pointer (some ⟨x, 0, none⟩)) (by simp [mb]))
      clear hh hn hor gy HI gx
      gi_wp2_with fail
      refine ⟨trivial, ?_⟩
      refine (CallsIn.inRound l (callsIn_wide.2 GY.out)).mono ?_
      rintro e w6 ⟨rfl, k6⟩
      have c7 := S8.out w6 k6
      have K6 := Lib.hid k6
      have GX2 := Lib.hid (GX.out w6 k6)
      clear GY k6 c8 S8 GX
      gi_wp2_with fail
      refine ⟨trivial, ?_⟩
      refine (CallsIn.inRound l (callsIn_wide.2 GX2.out)).mono ?_
      rintro e w7 ⟨rfl, k7⟩
      obtain ⟨c10, f10, c9, f9, r1, r2, r3⟩ := FIN.out w7 (K6.out.step k7)
      have R1 := Lib.hid r1
      have R2 := Lib.hid r2
      have R3 := Lib.hid r3
      clear FIN GX2 k7 r1 r2 r3 c7 K6
      gi_wp2
      exact ⟨R1.out, R2.out, Lib.hid (by rw [HQ.out.1, HQ.out.2]; exact R3.out)⟩
  case done =>
    intro D1 W1 hD1 hI hK
    have J1 : Hid (Sit w (mb B5 B6 B7 B8 B9 B10 B11 x y st false (M.length : Nat) (lastOf M) 0) x y Lx Ly [D1] FF GG W1) := Lib.hid (hI.out.more hK)
    have hDw : w.heap.size ≤ D1 := Nat.le_trans hwT hD1
    clear hI hK SC HR hwT HFF HGG HNO hD1
    obtain ⟨la, hla⟩ : ∃ la, la = lastOf M := ⟨_, rfl⟩
    rw [← hla] at J1
    clear hla
    have c7 : W1.cell? ⟨B7, 0, none⟩ = some (.pointer (some ⟨x, 0, none⟩)) := J1.out.cell (t := 24) (by simp [mb])
    go_wp2_with fail
    refine (II.all_any x _).mono ?_
    rintro e wd ⟨rfl, bd, kd⟩
    have SD : Hid (Sit w (mb B5 B6 B7 B8 B9 B10 B11 x y st false ((M.length : Int) - ((([] : List (Int × Int)).filter fun p => !Srt.has Ly p.1).length : Nat)) la 0) x y Lx Ly [D1] FF GG wd) := Lib.hid (by have := J1.out.kept kd; simpa using this)
    have HR := Lib.hid (II.all1_runs _ FF x Lx wd bd SD.out.two.1)
    have hwT := SD.out.two.two.world.size
    have HFF := Lib.hid (show ∀ i, FF i → i < wd.heap.size from SD.out.two.1.lt)
    have HGG := Lib.hid (show ∀ i, GG i → i < wd.heap.size from SD.out.two.2.1.lt)
    have HNO : Hid (∀ D ∈ [D1], D < wd.heap.size) := Lib.hid (fun D h => lt_of_blk (SD.out.defs D h))
    clear J1 bd kd c7
    generalize W1.heap.size = b4 at HR ⊢
    go_wp2_with fail
    refine (wpIn_wide (n := 3)).1 ?_
    refine wpIn_runs_to rfl (enters_of Try.func34 (by kernel_rfl) rfl) HR.out (Kept.refl _ _) (fun _ => rfl) (fun p => [(16, II.ek p.1)]) (fun pre W => Hid (Sit w (mb B5 B6 B7 B8 B9 B10 B11 x y st false ((M.length : Int) - ((pre.filter fun p => !Srt.has Ly p.1).length : Nat)) la 0) x y Lx Ly [D1] FF GG W)) (fun _ _ _ => False)
      (fun s A B h k => Lib.hid (h.out.abide k HFF.out HGG.out hwT HNO.out)) (fun _ _ _ _ h _ => h) SD ?assign2 ?body2 ?done2 ?stop2
    case assign2 =>
      intro l p W K hK
      dsimp only [II.enc]
      simp only [landed, List.foldl_cons, List.foldl_nil, List.zip_toArray, List.zip_cons_cons, List.zip_nil_right, II.enc, List.foldl_toArray, List.setIfInBounds_toArray, List.set_cons_zero, List.set_cons_succ] at hK
      gi_wp2
      exact hK
    case body2 =>
      rintro l pre p rest W hL hI
      simp only [landed, List.foldl_cons, List.foldl_nil, List.zip_toArray, List.zip_cons_cons, List.zip_nil_right, II.enc, List.foldl_toArray, List.setIfInBounds_toArray, List.set_cons_zero, List.set_cons_succ]
      obtain ⟨pk, pv⟩ := p
      have hfl : (pre.filter fun p => !Srt.has Ly p.1).length ≤ pre.length := List.length_filter_le _ _
      have hpre : pre.length < Lx.length := by rw [hL]; simp
      obtain ⟨q, hq⟩ : ∃ q : Int, q = (M.length : Int) - ((pre.filter fun p => !Srt.has Ly p.1).length : Nat) := ⟨_, rfl⟩
      have hq2 : q ≤ 120 := by omega
      have hq3 : -60 ≤ q := by omega
      have HI : Hid (Sit w (mb B5 B6 B7 B8 B9 B10 B11 x y st false q la 0) x y Lx Ly [D1] FF GG W) := by rw [hq]; exact hI
      have c8 : W.cell? ⟨B8, 0, none⟩ = some (.pointer (some ⟨y, 0, none⟩)) := HI.out.cell (t := 24) (by simp [mb])
      have gy := HI.out.two.two.swap.get pk
      generalize (Srt.look Ly pk).getD 0 = zz at gy
      unfold II.ek II.ev
      dsimp only
      cases hh : Srt.has Ly pk with
      | true =>
        have HQ : Hid ((M.length : Int) - (((pre ++ [(pk, pv)]).filter fun p => !Srt.has Ly p.1).length : Nat) = q) := Lib.hid (by rw [hq]; simp [hh])
        rw [hh] at gy
        have GY := Lib.hid gy
        clear hh gy hq hL hpre hfl hI
        gi_wp2_with fail
        refine ⟨trivial, ?_⟩
        refine (CallsIn.inRound l (callsIn_wide.2 GY.out)).mono ?_
        rintro e w7 ⟨rfl, k7⟩
        have R1 := Lib.hid (keepsFrom_kept (B := wd.heap.size) k7 (fun _ _ h => h.elim))
        have R2 := Lib.hid (Spares.of_kept (U := II.UU) k7)
        have R3 := Lib.hid (HI.out.kept k7)
        clear GY k7 c8 HI
        gi_wp2
        exact ⟨R1.out, R2.out, Lib.hid (by rw [HQ.out]; exact R3.out)⟩
      | false =>
        have HQ : Hid ((M.length : Int) - (((pre ++ [(pk, pv)]).filter fun p => !Srt.has Ly p.1).length : Nat) = q - 1) := Lib.hid (by rw [hq]; simp [hh]; omega)
        rw [hh] at gy
        have GY := Lib.hid gy
        clear hh gy hq hL hpre hfl hI
        gi_wp2_with fail
        refine ⟨trivial, ?_⟩
        refine (CallsIn.inRound l (callsIn_wide.2 GY.out)).mono ?_
        rintro e w7 ⟨rfl, k7⟩
        have S7 := HI.out.kept k7
        have p1 := ms_num (m0 := wd.heap.size) (q - 1) S7
        have c9 : w7.cell? ⟨B9, 0, none⟩ = some (.int .i64 q) := S7.cell (t := 3) (by simp [mb])
        have f9 : w7.frozen? ⟨B9, 0, none⟩ = false := S7.froz (t := 3) (v := .int .i64 q) (by simp [mb])
        have R1 := Lib.hid ((keepsFrom_kept (B := wd.heap.size) k7 (fun _ _ h => h.elim)).trans p1.1)
        have R2 := Lib.hid ((Spares.of_kept (U := II.UU) k7).trans p1.2.1)
        have R3 := Lib.hid p1.2.2
        clear GY k7 c8 HI S7 p1
        gi_wp2
        exact ⟨R1.out, R2.out, Lib.hid (by rw [HQ.out]; exact R3.out)⟩
    case done2 =>
      intro D2 W2 hD2 hI hK
      have hn : (M.length : Int) - ((Lx.filter fun p => !Srt.has Ly p.1).length : Nat) = (Ly.length : Nat) := by have := HCNT.out; omega
      have J2 : Hid (Sit w (mb B5 B6 B7 B8 B9 B10 B11 x y st false (Ly.length : Nat) la 0) x y Lx Ly [D2, D1] FF GG W2.drew) := Lib.hid (by have := (hI.out.more hK).kept (Kept.drew _ _); rw [hn] at this; exact this)
      have hDw2 : w.heap.size ≤ D2 := Nat.le_trans hwT hD2
      have hDD : D1 < D2 := Nat.lt_of_lt_of_le (HNO.out D1 (by simp)) hD2
      clear hI hK SD HR hwT HFF HGG HNO hD2 hn
      obtain ⟨ly, hly⟩ : ∃ ly, ly = Ly.length := ⟨_, rfl⟩
      have HLY := Lib.hid hly
      rw [← hly] at J2 hsy
      clear hly
      have c7 : W2.drew.cell? ⟨B7, 0, none⟩ = some (.pointer (some ⟨x, 0, none⟩)) := J2.out.cell (t := 24) (by simp [mb])
      have c8 : W2.drew.cell? ⟨B8, 0, none⟩ = some (.pointer (some ⟨y, 0, none⟩)) := J2.out.cell (t := 24) (by simp [mb])
      go_upto_region 20 with (fail)
      refine wp_region_noPanic ?_
      refine wp_region_held_drew (S := fun w' => w'.cell? ⟨B7, 0, none⟩ = some (.pointer (some ⟨x, 0, none⟩)) ∧ w'.cell? ⟨B8, 0, none⟩ = some (.pointer (some ⟨y, 0, none⟩))) (by kernel_rfl) ⟨c7, c8⟩ (fun hHeld => ?_)
      refine wpAnyH_take (i := 0) (oi := ⟨some 75, Op.load 24 (Operand.tmp 7), 24, _, _, none⟩) (v := ?v0n2k1) rfl (by kernel_rfl) (by kernel_rfl) (by kernel_rfl) (fun _ _ _ h => h) (Or.inl ⟨by rfl, ?y0n2k1⟩) hHeld ?z0n2k1
      case y0n2k1 => intro w hSw; (try dsimp only at hSw); go_simp <;> rfl
      try simp only [Act.put, List.setIfInBounds_toArray, List.set_cons_zero, List.set_cons_succ]
      refine wpAnyH_take (i := 2) (oi := ⟨some 77, Op.load 24 (Operand.tmp 8), 24, _, _, none⟩) (v := ?v2n2k2) rfl (by kernel_rfl) (by kernel_rfl) (by kernel_rfl) (fun _ _ _ h => h) (Or.inl ⟨by rfl, ?y2n2k2⟩) hHeld ?z2n2k2
      case y2n2k2 => intro w hSw; (try dsimp only at hSw); go_simp <;> rfl
      try simp only [Act.put, List.setIfInBounds_toArray, List.set_cons_zero, List.set_cons_succ]
      refine wpAnyH_ready (rs := [1]) (by kernel_rfl) (by simp) ?_
      refine AllReadyH.cons (o := ⟨some 76, Op.call { callee := Callee.value (Operand.func 20), args := #[Operand.tmp 75], argTypes := #[24] }, 50, _, _, none⟩) rfl (fun K hK => ?_) AllReadyH.nil
      go_simp
      refine (II.all_any x _).mono ?_
      rintro e we ⟨rfl, ba, ka⟩
      have BA := Lib.hid ba
      have SA := Lib.hid (J2.out.kept ka)
      have c7a : we.cell? ⟨B7, 0, none⟩ = some (.pointer (some ⟨x, 0, none⟩)) := SA.out.cell (t := 24) (by simp [mb])
      have c8a : we.cell? ⟨B8, 0, none⟩ = some (.pointer (some ⟨y, 0, none⟩)) := SA.out.cell (t := 24) (by simp [mb])
      clear J2 ba ka c7 c8
      dsimp only
      generalize W2.drew.heap.size = b5 at BA ⊢
      refine hK.out _ _ ⟨c7a, c8a⟩ (fun hHeld => ?_)
      clear hK K
      try simp only [Act.put, List.setIfInBounds_toArray, List.set_cons_zero, List.set_cons_succ]
      refine wpAnyH_ready (rs := [3]) (by kernel_rfl) (by simp) ?_
      refine AllReadyH.cons (o := ⟨some 78, Op.call { callee := Callee.value (Operand.func 20), args := #[Operand.tmp 77], argTypes := #[24] }, 50, _, _, none⟩) rfl (fun K hK => ?_) AllReadyH.nil
      go_simp
      refine (II.all_any y _).mono ?_
      rintro e wf ⟨rfl, bb, kb⟩
      have BB := Lib.hid bb
      have BA2 := Lib.hid (kb.blk BA.out (fun h => h))
      have SB := Lib.hid (SA.out.kept kb)
      have c7b : wf.cell? ⟨B7, 0, none⟩ = some (.pointer (some ⟨x, 0, none⟩)) := SB.out.cell (t := 24) (by simp [mb])
      have c8b : wf.cell? ⟨B8, 0, none⟩ = some (.pointer (some ⟨y, 0, none⟩)) := SB.out.cell (t := 24) (by simp [mb])
      clear SA BA bb kb c7a c8a
      dsimp only
      generalize we.heap.size = b6 at BB ⊢
      refine hK.out _ _ ⟨c7b, c8b⟩ (fun hHeld => ?_)
      clear hK K
      try simp only [Act.put, List.setIfInBounds_toArray, List.set_cons_zero, List.set_cons_succ]
      refine wpAnyH_ready (rs := [4]) (by kernel_rfl) (by simp) ?_
      refine AllReadyH.cons (o := ⟨some 79, Op.call { callee := Callee.value (Operand.func 23), args := #[Operand.tmp 76, Operand.tmp 78], argTypes := #[50, 50] }, 50, _, _, none⟩) rfl (fun K hK => ?_) AllReadyH.nil
      go_simp
      refine (II.merge_any _ _ _ _ _).mono ?_
      rintro e wg ⟨rfl, h1, h2, kc⟩
      have SG := Lib.hid (SB.out.kept kc)
      have HR := Lib.hid (merge_of SG.out.two.1 SG.out.two.2.1 (kc.blk BA2.out (fun h => h)) (kc.blk BB.out (fun h => h)) h1 h2 (by have := HLY.out; omega))
      have c7c : wg.cell? ⟨B7, 0, none⟩ = some (.pointer (some ⟨x, 0, none⟩)) := SG.out.cell (t := 24) (by simp [mb])
      have c8c : wg.cell? ⟨B8, 0, none⟩ = some (.pointer (some ⟨y, 0, none⟩)) := SG.out.cell (t := 24) (by simp [mb])
      clear SB BA2 BB h1 h2 kc c7b c8b
      dsimp only
      generalize wf.heap.size = b7 at HR ⊢
      refine hK.out _ _ ⟨c7c, c8c⟩ (fun hHeld => ?_)
      clear hK K
      try simp only [Act.put, List.setIfInBounds_toArray, List.set_cons_zero, List.set_cons_succ]
      refine wpAnyH_done (by kernel_rfl) ?_ _
      refine NoPanic.normal ?_
      rw [← HM.out] at HR
      have hwT := SG.out.two.two.world.size
      have HFF := Lib.hid (show ∀ i, FF i → i < wg.heap.size from SG.out.two.1.lt)
      have HGG := Lib.hid (show ∀ i, GG i → i < wg.heap.size from SG.out.two.2.1.lt)
      have HNO : Hid (∀ D ∈ [D2, D1], D < wg.heap.size) := Lib.hid (fun D h => lt_of_blk (SG.out.defs D h))
      clear hHeld c7c c8c
      obtain ⟨sm, hsm⟩ : ∃ sm, sm = st % 70 := ⟨_, rfl⟩
      have qs1 : ((st : Int).tmod 70) = (sm : Int) := by rw [hsm, Int.tmod_eq_emod_of_nonneg (by omega)]; omega
      have hsm2 : sm < 70 := by omega
      clear hsm
      go_wp2_with fail
      refine (wpIn_wide (n := 3)).1 ?_
      refine wpIn_runs_to rfl (enters_of Try.func39 (by kernel_rfl) rfl) HR.out (Kept.refl _ _) (fun _ => rfl) (fun p => []) (fun pre W => Hid (pre.length ≤ sm ∧ Sit w (mb B5 B6 B7 B8 B9 B10 B11 x y st false (ly : Nat) la (pre.length : Nat)) x y Lx Ly [D2, D1] FF GG W)) (fun cd pre W => Hid (cd = .exit 4 ∧ Sit w (mb B5 B6 B7 B8 B9 B10 B11 x y st false (ly : Nat) la ((sm : Int) + 1)) x y Lx Ly [D2, D1] FF GG W))
        (fun s A B h k => Lib.hid ⟨h.out.1, h.out.2.abide k HFF.out HGG.out hwT HNO.out⟩) (fun _ _ _ _ h k => Lib.hid ⟨h.out.1, h.out.2.abide k HFF.out HGG.out hwT HNO.out⟩) (Lib.hid ⟨Nat.zero_le _, SG.out⟩) ?assign3 ?body3 ?done3 ?stop3
      case assign3 =>
        intro l p W K hK
        dsimp only [II.enc]
        simp only [landed, List.foldl_cons, List.foldl_nil, List.zip_toArray, List.zip_cons_cons, List.zip_nil_right, II.enc, List.foldl_toArray, List.setIfInBounds_toArray, List.set_cons_zero, List.set_cons_succ] at hK
        gi_wp2
        simp only [List.foldl_cons, List.foldl_nil, List.zip_toArray, List.zip_cons_cons, List.zip_nil_right, List.foldl_toArray, List.setIfInBounds_toArray, List.set_cons_zero, List.set_cons_succ]
        exact hK
      case body3 =>
        rintro l pre p rest W hL hI
        simp only [landed, List.foldl_cons, List.foldl_nil, List.zip_toArray, List.zip_cons_cons, List.zip_nil_right, II.enc, List.foldl_toArray, List.setIfInBounds_toArray, List.set_cons_zero, List.set_cons_succ]
        obtain ⟨pk, pv⟩ := p
        obtain ⟨hqs, hI2⟩ := hI.out
        obtain ⟨q, hq⟩ : ∃ q, q = pre.length := ⟨_, rfl⟩
        rw [← hq] at hqs hI2
        have HQ : Hid ((pre ++ [(pk, pv)]).length = q + 1) := Lib.hid (by simp [hq])
        have p1 := ms_seen (m0 := wg.heap.size) ((q : Int) + 1) hI2
        have c11 : W.cell? ⟨B11, 0, none⟩ = some (.int .i64 (q : Int)) := hI2.cell (t := 3) (by simp [mb])
        have f11 : W.frozen? ⟨B11, 0, none⟩ = false := hI2.froz (t := 3) (v := .int .i64 (q : Int)) (by simp [mb])
        have d11 : (W.setCell ⟨B11, 0, none⟩ (.int .i64 ((q : Int) + 1))).cell? ⟨B11, 0, none⟩ = some (.int .i64 ((q : Int) + 1)) := p1.2.2.cell (t := 3) (by simp [mb])
        have d5 : (W.setCell ⟨B11, 0, none⟩ (.int .i64 ((q : Int) + 1))).cell? ⟨B5, 0, none⟩ = some (.int .u8 (st : Int)) := p1.2.2.cell (t := 5) (by simp [mb])
        have hq2 : q < 9223372036854775807 := by omega
        have P1 := Lib.hid p1
        unfold II.ek II.ev
        dsimp only
        clear hI hI2 hL hq p1
        by_cases hlt : q + 1 ≤ sm
        · have hle : (q : Int) + 1 ≤ sm := by omega
          have hnl : ¬ ((sm : Int) < (q : Int) + 1) := by omega
          gi_wp2
          exact ⟨P1.out.1, P1.out.2.1, Lib.hid ⟨by rw [HQ.out]; exact hlt, by rw [HQ.out]; exact P1.out.2.2⟩⟩
        · have hle : ¬ ((q : Int) + 1 ≤ sm) := by omega
          have hnl : (sm : Int) < (q : Int) + 1 := by omega
          have HQS : Hid ((sm : Int) + 1 = (q : Int) + 1) := Lib.hid (by omega)
          gi_wp2
          exact ⟨P1.out.1, P1.out.2.1, Lib.hid ⟨rfl, by rw [HQS.out]; exact P1.out.2.2⟩⟩
      case done3 =>
        intro D3 W3 hD3 hI hK
        obtain ⟨hle, hI2⟩ := hI.out
        obtain ⟨se, hse⟩ : ∃ se : Int, se = (M.length : Nat) := ⟨_, rfl⟩
        have hSE : Sit w (mb B5 B6 B7 B8 B9 B10 B11 x y st false (ly : Nat) la se) x y Lx Ly [D2, D1] FF GG W3 := by rw [hse]; exact hI2
        have hs1 : se ≤ (sm : Int) + 1 := by omega
        clear hI hI2 hse hle
        have HNN := Lib.hid HNO.out
        have hDw3 : w.heap.size ≤ D3 := Nat.le_trans hwT hD3
        have hDD3 : D2 < D3 := Nat.lt_of_lt_of_le (HNO.out D2 (by simp)) hD3
        have j3 : Sit w (mb B5 B6 B7 B8 B9 B10 B11 x y st false (ly : Nat) la se) x y Lx Ly [D3, D2, D1] FF GG W3.drew := (hSE.more hK).kept (Kept.drew _ _)
        have Q := Lib.hid j3.two.two.swap.size
        rw [← HLY.out] at Q
        have j7 : Sit w (mb B5 B6 B7 B8 B9 B10 B11 x y st true (ly : Nat) la se) x y Lx Ly [D3, D2, D1] FF GG (W3.setCell ⟨B6, 0, none⟩ (.bool true)).drew := (ms_res (m0 := 0) true (hSE.more hK)).2.2.kept (Kept.drew _ _)
        have c9 : W3.drew.cell? ⟨B9, 0, none⟩ = some (.int .i64 (ly : Int)) := j3.cell (t := 3) (by simp [mb])
        have c8 : W3.drew.cell? ⟨B8, 0, none⟩ = some (.pointer (some ⟨y, 0, none⟩)) := j3.cell (t := 24) (by simp [mb])
        have c11 : W3.drew.cell? ⟨B11, 0, none⟩ = some (.int .i64 se) := j3.cell (t := 3) (by simp [mb])
        have c5 : W3.drew.cell? ⟨B5, 0, none⟩ = some (.int .u8 (st : Int)) := j3.cell (t := 5) (by simp [mb])
        have c6 : W3.drew.cell? ⟨B6, 0, none⟩ = some (.bool false) := j3.cell (t := 4) (by simp [mb])
        have f6 : W3.drew.frozen? ⟨B6, 0, none⟩ = false := j3.froz (t := 4) (v := .bool false) (by simp [mb])
        have c9s : (W3.setCell ⟨B6, 0, none⟩ (.bool true)).drew.cell? ⟨B9, 0, none⟩ = some (.int .i64 (ly : Int)) := j7.cell (t := 3) (by simp [mb])
        have c8s : (W3.setCell ⟨B6, 0, none⟩ (.bool true)).drew.cell? ⟨B8, 0, none⟩ = some (.pointer (some ⟨y, 0, none⟩)) := j7.cell (t := 24) (by simp [mb])
        have c11s : (W3.setCell ⟨B6, 0, none⟩ (.bool true)).drew.cell? ⟨B11, 0, none⟩ = some (.int .i64 se) := j7.cell (t := 3) (by simp [mb])
        have c5s : (W3.setCell ⟨B6, 0, none⟩ (.bool true)).drew.cell? ⟨B5, 0, none⟩ = some (.int .u8 (st : Int)) := j7.cell (t := 5) (by simp [mb])
        have r7 : (W3.setCell ⟨B6, 0, none⟩ (.bool true)).drew.heap[B6]? = some (.cells #[.bool true] 4 (0, 0)) := j7.box (B6, .bool true, 4) (by simp [mb])
        have x3 := j7.defs D3 (by simp)
        have x2 : ((W3.setCell ⟨B6, 0, none⟩ (.bool true)).drew.putObj D3 (.deferred none)).heap[D2]? = some (.deferred (some [])) := (World.putObj_heap_other (by omega)).trans (j7.defs D2 (by simp))
        have x1 : (((W3.setCell ⟨B6, 0, none⟩ (.bool true)).drew.putObj D3 (.deferred none)).putObj D2 (.deferred none)).heap[D1]? = some (.deferred (some [])) := (World.putObj_heap_other (by omega)).trans ((World.putObj_heap_other (by omega)).trans (j7.defs D1 (by simp)))
        have stp : Abide II.TT w.heap.size (W3.setCell ⟨B6, 0, none⟩ (.bool true)).drew ((((W3.setCell ⟨B6, 0, none⟩ (.bool true)).drew.putObj D3 (.deferred none)).putObj D2 (.deferred none)).putObj D1 (.deferred none)) :=
          ((Abide.putObj _ hDw3 x3 rfl).trans (Abide.putObj _ hDw2 x2 rfl)).trans (Abide.putObj _ hDw x1 rfl)
        have FIN := Lib.hid (Abide.kept j7.two.two.world stp (Nat.le_refl _))
        have R8 := Lib.hid (stp.blk r7 (.inr (by unfold II.TT; decide)))
        have X3 := Lib.hid x3
        have X2 := Lib.hid x2
        have X1 := Lib.hid x1
        have hws : IntKind.i64.wrap (sm : Int) = (sm : Int) := by rw [IntKind.wrap_i64]; omega
        have hwr : IntKind.i64.wrap ((sm : Int) + 1) = (sm : Int) + 1 := by rw [IntKind.wrap_i64]; omega
        have hnl : ¬ ((sm : Int) + 1 < se) := by omega
        clear j3 j7 stp r7 x3 x2 x1 hSE hK HNN SG HR
        go_upto_region 23 with (fail)
        refine wp_region_noPanic ?_
        refine wp_region_held_drew (S := fun w' => w'.cell? ⟨B9, 0, none⟩ = some (.int .i64 (ly : Int)) ∧ w'.cell? ⟨B8, 0, none⟩ = some (.pointer (some ⟨y, 0, none⟩)) ∧ w'.cell? ⟨B11, 0, none⟩ = some (.int .i64 se) ∧ w'.cell? ⟨B5, 0, none⟩ = some (.int .u8 (st : Int))) (by kernel_rfl) ⟨c9, c8, c11, c5⟩ (fun hHeld => ?_)
        refine wpAnyH_take (i := 0) (oi := ⟨some 89, Op.load 3 (Operand.tmp 9), 3, _, _, none⟩) (v := ?v0n3k1) rfl (by kernel_rfl) (by kernel_rfl) (by kernel_rfl) (fun _ _ _ h => h) (Or.inl ⟨by rfl, ?y0n3k1⟩) hHeld ?z0n3k1
        case y0n3k1 => intro w hSw; (try dsimp only at hSw); go_simp <;> rfl
        try simp only [Act.put, List.setIfInBounds_toArray, List.set_cons_zero, List.set_cons_succ]
        refine wpAnyH_take (i := 1) (oi := ⟨some 90, Op.load 24 (Operand.tmp 8), 24, _, _, none⟩) (v := ?v1n3k2) rfl (by kernel_rfl) (by kernel_rfl) (by kernel_rfl) (fun _ _ _ h => h) (Or.inl ⟨by rfl, ?y1n3k2⟩) hHeld ?z1n3k2
        case y1n3k2 => intro w hSw; (try dsimp only at hSw); go_simp <;> rfl
        try simp only [Act.put, List.setIfInBounds_toArray, List.set_cons_zero, List.set_cons_succ]
        refine wpAnyH_ready (rs := [2]) (by kernel_rfl) (by simp) ?_
        refine AllReadyH.cons (o := ⟨some 91, Op.call { callee := Callee.value (Operand.func 17), args := #[Operand.tmp 90], argTypes := #[24] }, 3, _, _, none⟩) rfl (fun K hK => ?_) AllReadyH.nil
        go_simp
        refine Q.out.mono ?_
        rintro e w8 ⟨rfl, rfl⟩
        dsimp only
        refine hK.out _ _ ⟨c9, c8, c11, c5⟩ (fun hHeld => ?_)
        clear hK K
        try simp only [Act.put, List.setIfInBounds_toArray, List.set_cons_zero, List.set_cons_succ]
        refine wpAnyH_take (i := 3) (oi := ⟨some 92, Op.binOp BinOp.eql 3 (Operand.tmp 89) (Operand.tmp 91) 3, 4, _, _, none⟩) (v := ?v3n3k3) rfl (by kernel_rfl) (by kernel_rfl) (by kernel_rfl) (fun _ _ _ h => h) (Or.inl ⟨by rfl, ?y3n3k3⟩) hHeld ?z3n3k3
        case y3n3k3 => intro w hSw; (try dsimp only at hSw); go_simp <;> rfl
        try simp only [Act.put, List.setIfInBounds_toArray, List.set_cons_zero, List.set_cons_succ]
        refine wpAnyH_take (i := 4) (oi := ⟨some 93, Op.move (Operand.tmp 92), 4, _, _, none⟩) (v := ?v4n3k4) rfl (by kernel_rfl) (by kernel_rfl) (by kernel_rfl) (fun _ _ _ h => h) (Or.inl ⟨by rfl, ?y4n3k4⟩) hHeld ?z4n3k4
        case y4n3k4 => intro w hSw; (try dsimp only at hSw); go_simp <;> rfl
        try simp only [Act.put, List.setIfInBounds_toArray, List.set_cons_zero, List.set_cons_succ]
        refine wpAnyH_take (i := 5) (oi := ⟨some 94, Op.load 3 (Operand.tmp 11), 3, _, _, some (4, true)⟩) (v := ?v5n3k5) rfl (by kernel_rfl) (by kernel_rfl) (by kernel_rfl) (fun _ _ _ h => h) (Or.inl ⟨by rfl, ?y5n3k5⟩) hHeld ?z5n3k5
        case y5n3k5 => intro w hSw; (try dsimp only at hSw); go_simp <;> rfl
        try simp only [Act.put, List.setIfInBounds_toArray, List.set_cons_zero, List.set_cons_succ]
        refine wpAnyH_take (i := 6) (oi := ⟨some 95, Op.load 5 (Operand.tmp 5), 5, _, _, some (4, true)⟩) (v := ?v6n3k6) rfl (by kernel_rfl) (by kernel_rfl) (by kernel_rfl) (fun _ _ _ h => h) (Or.inl ⟨by rfl, ?y6n3k6⟩) hHeld ?z6n3k6
        case y6n3k6 => intro w hSw; (try dsimp only at hSw); go_simp <;> rfl
        try simp only [Act.put, List.setIfInBounds_toArray, List.set_cons_zero, List.set_cons_succ]
        refine wpAnyH_take (i := 7) (oi := ⟨some 96, Op.binOp BinOp.rem 5 (Operand.tmp 95) (Operand.const (Value.int IntKind.u8 70)) 5, 5, _, _, some (4, true)⟩) (v := ?v7n3k7) rfl (by kernel_rfl) (by kernel_rfl) (by kernel_rfl) (fun _ _ _ h => h) (Or.inl ⟨by rfl, ?y7n3k7⟩) hHeld ?z7n3k7
        case y7n3k7 => intro w hSw; (try dsimp only at hSw); go_simp <;> rfl
        try simp only [Act.put, List.setIfInBounds_toArray, List.set_cons_zero, List.set_cons_succ]
        refine wpAnyH_take (i := 8) (oi := ⟨some 97, Op.convert 5 3 (Operand.tmp 96), 3, _, _, some (4, true)⟩) (v := ?v8n3k8) rfl (by kernel_rfl) (by kernel_rfl) (by kernel_rfl) (fun _ _ _ h => h) (Or.inl ⟨by rfl, ?y8n3k8⟩) hHeld ?z8n3k8
        case y8n3k8 => intro w hSw; (try dsimp only at hSw); go_simp <;> rfl
        try simp only [Act.put, List.setIfInBounds_toArray, List.set_cons_zero, List.set_cons_succ]
        refine wpAnyH_take (i := 9) (oi := ⟨some 98, Op.binOp BinOp.add 3 (Operand.tmp 97) (Operand.const (Value.int IntKind.i64 1)) 3, 3, _, _, some (4, true)⟩) (v := ?v9n3k9) rfl (by kernel_rfl) (by kernel_rfl) (by kernel_rfl) (fun _ _ _ h => h) (Or.inl ⟨by rfl, ?y9n3k9⟩) hHeld ?z9n3k9
        case y9n3k9 => intro w hSw; (try dsimp only at hSw); go_simp <;> rfl
        try simp only [Act.put, List.setIfInBounds_toArray, List.set_cons_zero, List.set_cons_succ]
        refine wpAnyH_take (i := 10) (oi := ⟨some 99, Op.binOp BinOp.leq 3 (Operand.tmp 94) (Operand.tmp 98) 3, 4, _, _, some (4, true)⟩) (v := ?v10n3k10) rfl (by kernel_rfl) (by kernel_rfl) (by kernel_rfl) (fun _ _ _ h => h) (Or.inl ⟨by rfl, ?y10n3k10⟩) hHeld ?z10n3k10
        case y10n3k10 => intro w hSw; (try dsimp only at hSw); go_simp <;> rfl
        try simp only [Act.put, List.setIfInBounds_toArray, List.set_cons_zero, List.set_cons_succ]
        refine wpAnyH_take (i := 11) (oi := ⟨some 100, Op.pick (Operand.tmp 93) (Operand.tmp 99) (Operand.const (Value.bool false)), 4, _, _, none⟩) (v := ?v11n3k11) rfl (by kernel_rfl) (by kernel_rfl) (by kernel_rfl) (fun _ _ _ h => h) (Or.inl ⟨by rfl, ?y11n3k11⟩) hHeld ?z11n3k11
        case y11n3k11 => intro w hSw; (try dsimp only at hSw); go_simp <;> rfl
        try simp only [Act.put, List.setIfInBounds_toArray, List.set_cons_zero, List.set_cons_succ]
        refine wpAnyH_ready (rs := [12]) (by kernel_rfl) (by simp) ?_
        refine AllReadyH.cons (o := ⟨none, Op.store 4 (Operand.tmp 6) (Operand.tmp 100), 0, _, _, none⟩) rfl (fun K hK => ?_) AllReadyH.nil
        go_simp
        refine hK.out _ _ ⟨c9s, c8s, c11s, c5s⟩ (fun hHeld => ?_)
        clear hK K
        try simp only [Act.put, List.setIfInBounds_toArray, List.set_cons_zero, List.set_cons_succ]
        refine wpAnyH_done (by kernel_rfl) ?_ _
        refine NoPanic.normal ?_
        clear hHeld c9 c8 c11 c5 c6 f6 c9s c8s c11s c5s Q
        go_wp2
        refine ⟨by simp, .inl ⟨_, _, rfl, run_takeDeferred X3.out, ?_⟩⟩
        refine ⟨by simp, .inl ⟨_, _, rfl, run_takeDeferred X2.out, ?_⟩⟩
        refine ⟨by simp, .inl ⟨_, _, rfl, run_takeDeferred X1.out, ?_⟩⟩
        exact ⟨_, results_box rfl _ _ B6 (.bool true) rfl (cell_of_row _ _ _ _ _ _ R8.out), rfl, FIN.out⟩
      case stop3 =>
        rintro D3 cd pre W3 hD3 _ h hK
        obtain ⟨rfl, hI⟩ := h.out
        obtain ⟨se, hse⟩ : ∃ se : Int, se = (sm : Int) + 1 := ⟨_, rfl⟩
        have hSE : Sit w (mb B5 B6 B7 B8 B9 B10 B11 x y st false (ly : Nat) la se) x y Lx Ly [D2, D1] FF GG W3 := by rw [hse]; exact hI
        have hs1 : se ≤ (sm : Int) + 1 := by omega
        clear hI hse h
        have HNN := Lib.hid HNO.out
        have hDw3 : w.heap.size ≤ D3 := Nat.le_trans hwT hD3
        have hDD3 : D2 < D3 := Nat.lt_of_lt_of_le (HNO.out D2 (by simp)) hD3
        have j3 : Sit w (mb B5 B6 B7 B8 B9 B10 B11 x y st false (ly : Nat) la se) x y Lx Ly [D3, D2, D1] FF GG W3.drew := (hSE.more hK).kept (Kept.drew _ _)
        have Q := Lib.hid j3.two.two.swap.size
        rw [← HLY.out] at Q
        have j7 : Sit w (mb B5 B6 B7 B8 B9 B10 B11 x y st true (ly : Nat) la se) x y Lx Ly [D3, D2, D1] FF GG (W3.setCell ⟨B6, 0, none⟩ (.bool true)).drew := (ms_res (m0 := 0) true (hSE.more hK)).2.2.kept (Kept.drew _ _)
        have c9 : W3.drew.cell? ⟨B9, 0, none⟩ = some (.int .i64 (ly : Int)) := j3.cell (t := 3) (by simp [mb])
        have c8 : W3.drew.cell? ⟨B8, 0, none⟩ = some (.pointer (some ⟨y, 0, none⟩)) := j3.cell (t := 24) (by simp [mb])
        have c11 : W3.drew.cell? ⟨B11, 0, none⟩ = some (.int .i64 se) := j3.cell (t := 3) (by simp [mb])
        have c5 : W3.drew.cell? ⟨B5, 0, none⟩ = some (.int .u8 (st : Int)) := j3.cell (t := 5) (by simp [mb])
        have c6 : W3.drew.cell? ⟨B6, 0, none⟩ = some (.bool false) := j3.cell (t := 4) (by simp [mb])
        have f6 : W3.drew.frozen? ⟨B6, 0, none⟩ = false := j3.froz (t := 4) (v := .bool false) (by simp [mb])
        have c9s : (W3.setCell ⟨B6, 0, none⟩ (.bool true)).drew.cell? ⟨B9, 0, none⟩ = some (.int .i64 (ly : Int)) := j7.cell (t := 3) (by simp [mb])
        have c8s : (W3.setCell ⟨B6, 0, none⟩ (.bool true)).drew.cell? ⟨B8, 0, none⟩ = some (.pointer (some ⟨y, 0, none⟩)) := j7.cell (t := 24) (by simp [mb])
        have c11s : (W3.setCell ⟨B6, 0, none⟩ (.bool true)).drew.cell? ⟨B11, 0, none⟩ = some (.int .i64 se) := j7.cell (t := 3) (by simp [mb])
        have c5s : (W3.setCell ⟨B6, 0, none⟩ (.bool true)).drew.cell? ⟨B5, 0, none⟩ = some (.int .u8 (st : Int)) := j7.cell (t := 5) (by simp [mb])
        have r7 : (W3.setCell ⟨B6, 0, none⟩ (.bool true)).drew.heap[B6]? = some (.cells #[.bool true] 4 (0, 0)) := j7.box (B6, .bool true, 4) (by simp [mb])
        have x3 := j7.defs D3 (by simp)
        have x2 : ((W3.setCell ⟨B6, 0, none⟩ (.bool true)).drew.putObj D3 (.deferred none)).heap[D2]? = some (.deferred (some [])) := (World.putObj_heap_other (by omega)).trans (j7.defs D2 (by simp))
        have x1 : (((W3.setCell ⟨B6, 0, none⟩ (.bool true)).drew.putObj D3 (.deferred none)).putObj D2 (.deferred none)).heap[D1]? = some (.deferred (some [])) := (World.putObj_heap_other (by omega)).trans ((World.putObj_heap_other (by omega)).trans (j7.defs D1 (by simp)))
        have stp : Abide II.TT w.heap.size (W3.setCell ⟨B6, 0, none⟩ (.bool true)).drew ((((W3.setCell ⟨B6, 0, none⟩ (.bool true)).drew.putObj D3 (.deferred none)).putObj D2 (.deferred none)).putObj D1 (.deferred none)) :=
          ((Abide.putObj _ hDw3 x3 rfl).trans (Abide.putObj _ hDw2 x2 rfl)).trans (Abide.putObj _ hDw x1 rfl)
        have FIN := Lib.hid (Abide.kept j7.two.two.world stp (Nat.le_refl _))
        have R8 := Lib.hid (stp.blk r7 (.inr (by unfold II.TT; decide)))
        have X3 := Lib.hid x3
        have X2 := Lib.hid x2
        have X1 := Lib.hid x1
        have hws : IntKind.i64.wrap (sm : Int) = (sm : Int) := by rw [IntKind.wrap_i64]; omega
        have hwr : IntKind.i64.wrap ((sm : Int) + 1) = (sm : Int) + 1 := by rw [IntKind.wrap_i64]; omega
        have hnl : ¬ ((sm : Int) + 1 < se) := by omega
        clear j3 j7 stp r7 x3 x2 x1 hSE hK HNN SG HR
        gi_wp2_with fail
        go_upto_region 23 with (fail)
        refine wp_region_noPanic ?_
        refine wp_region_held_drew (S := fun w' => w'.cell? ⟨B9, 0, none⟩ = some (.int .i64 (ly : Int)) ∧ w'.cell? ⟨B8, 0, none⟩ = some (.pointer (some ⟨y, 0, none⟩)) ∧ w'.cell? ⟨B11, 0, none⟩ = some (.int .i64 se) ∧ w'.cell? ⟨B5, 0, none⟩ = some (.int .u8 (st : Int))) (by kernel_rfl) ⟨c9, c8, c11, c5⟩ (fun hHeld => ?_)
        refine wpAnyH_take (i := 0) (oi := ⟨some 89, Op.load 3 (Operand.tmp 9), 3, _, _, none⟩) (v := ?v0n4k1) rfl (by kernel_rfl) (by kernel_rfl) (by kernel_rfl) (fun _ _ _ h => h) (Or.inl ⟨by rfl, ?y0n4k1⟩) hHeld ?z0n4k1
        case y0n4k1 => intro w hSw; (try dsimp only at hSw); go_simp <;> rfl
        try simp only [Act.put, List.setIfInBounds_toArray, List.set_cons_zero, List.set_cons_succ]
        refine wpAnyH_take (i := 1) (oi := ⟨some 90, Op.load 24 (Operand.tmp 8), 24, _, _, none⟩) (v := ?v1n4k2) rfl (by kernel_rfl) (by kernel_rfl) (by kernel_rfl) (fun _ _ _ h => h) (Or.inl ⟨by rfl, ?y1n4k2⟩) hHeld ?z1n4k2
        case y1n4k2 => intro w hSw; (try dsimp only at hSw); go_simp <;> rfl
        try simp only [Act.put, List.setIfInBounds_toArray, List.set_cons_zero, List.set_cons_succ]
        refine wpAnyH_ready (rs := [2]) (by kernel_rfl) (by simp) ?_
        refine AllReadyH.cons (o := ⟨some 91, Op.call { callee := Callee.value (Operand.func 17), args := #[Operand.tmp 90], argTypes := #[24] }, 3, _, _, none⟩) rfl (fun K hK => ?_) AllReadyH.nil
        go_simp
        refine Q.out.mono ?_
        rintro e w8 ⟨rfl, rfl⟩
        dsimp only
        refine hK.out _ _ ⟨c9, c8, c11, c5⟩ (fun hHeld => ?_)
        clear hK K
        try simp only [Act.put, List.setIfInBounds_toArray, List.set_cons_zero, List.set_cons_succ]
        refine wpAnyH_take (i := 3) (oi := ⟨some 92, Op.binOp BinOp.eql 3 (Operand.tmp 89) (Operand.tmp 91) 3, 4, _, _, none⟩) (v := ?v3n4k3) rfl (by kernel_rfl) (by kernel_rfl) (by kernel_rfl) (fun _ _ _ h => h) (Or.inl ⟨by rfl, ?y3n4k3⟩) hHeld ?z3n4k3
        case y3n4k3 => intro w hSw; (try dsimp only at hSw); go_simp <;> rfl
        try simp only [Act.put, List.setIfInBounds_toArray, List.set_cons_zero, List.set_cons_succ]
        refine wpAnyH_take (i := 4) (oi := ⟨some 93, Op.move (Operand.tmp 92), 4, _, _, none⟩) (v := ?v4n4k4) rfl (by kernel_rfl) (by kernel_rfl) (by kernel_rfl) (fun _ _ _ h => h) (Or.inl ⟨by rfl, ?y4n4k4⟩) hHeld ?z4n4k4
        case y4n4k4 => intro w hSw; (try dsimp only at hSw); go_simp <;> rfl
        try simp only [Act.put, List.setIfInBounds_toArray, List.set_cons_zero, List.set_cons_succ]
        refine wpAnyH_take (i := 5) (oi := ⟨some 94, Op.load 3 (Operand.tmp 11), 3, _, _, some (4, true)⟩) (v := ?v5n4k5) rfl (by kernel_rfl) (by kernel_rfl) (by kernel_rfl) (fun _ _ _ h => h) (Or.inl ⟨by rfl, ?y5n4k5⟩) hHeld ?z5n4k5
        case y5n4k5 => intro w hSw; (try dsimp only at hSw); go_simp <;> rfl
        try simp only [Act.put, List.setIfInBounds_toArray, List.set_cons_zero, List.set_cons_succ]
        refine wpAnyH_take (i := 6) (oi := ⟨some 95, Op.load 5 (Operand.tmp 5), 5, _, _, some (4, true)⟩) (v := ?v6n4k6) rfl (by kernel_rfl) (by kernel_rfl) (by kernel_rfl) (fun _ _ _ h => h) (Or.inl ⟨by rfl, ?y6n4k6⟩) hHeld ?z6n4k6
        case y6n4k6 => intro w hSw; (try dsimp only at hSw); go_simp <;> rfl
        try simp only [Act.put, List.setIfInBounds_toArray, List.set_cons_zero, List.set_cons_succ]
        refine wpAnyH_take (i := 7) (oi := ⟨some 96, Op.binOp BinOp.rem 5 (Operand.tmp 95) (Operand.const (Value.int IntKind.u8 70)) 5, 5, _, _, some (4, true)⟩) (v := ?v7n4k7) rfl (by kernel_rfl) (by kernel_rfl) (by kernel_rfl) (fun _ _ _ h => h) (Or.inl ⟨by rfl, ?y7n4k7⟩) hHeld ?z7n4k7
        case y7n4k7 => intro w hSw; (try dsimp only at hSw); go_simp <;> rfl
        try simp only [Act.put, List.setIfInBounds_toArray, List.set_cons_zero, List.set_cons_succ]
        refine wpAnyH_take (i := 8) (oi := ⟨some 97, Op.convert 5 3 (Operand.tmp 96), 3, _, _, some (4, true)⟩) (v := ?v8n4k8) rfl (by kernel_rfl) (by kernel_rfl) (by kernel_rfl) (fun _ _ _ h => h) (Or.inl ⟨by rfl, ?y8n4k8⟩) hHeld ?z8n4k8
        case y8n4k8 => intro w hSw; (try dsimp only at hSw); go_simp <;> rfl
        try simp only [Act.put, List.setIfInBounds_toArray, List.set_cons_zero, List.set_cons_succ]
        refine wpAnyH_take (i := 9) (oi := ⟨some 98, Op.binOp BinOp.add 3 (Operand.tmp 97) (Operand.const (Value.int IntKind.i64 1)) 3, 3, _, _, some (4, true)⟩) (v := ?v9n4k9) rfl (by kernel_rfl) (by kernel_rfl) (by kernel_rfl) (fun _ _ _ h => h) (Or.inl ⟨by rfl, ?y9n4k9⟩) hHeld ?z9n4k9
        case y9n4k9 => intro w hSw; (try dsimp only at hSw); go_simp <;> rfl
        try simp only [Act.put, List.setIfInBounds_toArray, List.set_cons_zero, List.set_cons_succ]
        refine wpAnyH_take (i := 10) (oi := ⟨some 99, Op.binOp BinOp.leq 3 (Operand.tmp 94) (Operand.tmp 98) 3, 4, _, _, some (4, true)⟩) (v := ?v10n4k10) rfl (by kernel_rfl) (by kernel_rfl) (by kernel_rfl) (fun _ _ _ h => h) (Or.inl ⟨by rfl, ?y10n4k10⟩) hHeld ?z10n4k10
        case y10n4k10 => intro w hSw; (try dsimp only at hSw); go_simp <;> rfl
        try simp only [Act.put, List.setIfInBounds_toArray, List.set_cons_zero, List.set_cons_succ]
        refine wpAnyH_take (i := 11) (oi := ⟨some 100, Op.pick (Operand.tmp 93) (Operand.tmp 99) (Operand.const (Value.bool false)), 4, _, _, none⟩) (v := ?v11n4k11) rfl (by kernel_rfl) (by kernel_rfl) (by kernel_rfl) (fun _ _ _ h => h) (Or.inl ⟨by rfl, ?y11n4k11⟩) hHeld ?z11n4k11
        case y11n4k11 => intro w hSw; (try dsimp only at hSw); go_simp <;> rfl
        try simp only [Act.put, List.setIfInBounds_toArray, List.set_cons_zero, List.set_cons_succ]
        refine wpAnyH_ready (rs := [12]) (by kernel_rfl) (by simp) ?_
        refine AllReadyH.cons (o := ⟨none, Op.store 4 (Operand.tmp 6) (Operand.tmp 100), 0, _, _, none⟩) rfl (fun K hK => ?_) AllReadyH.nil
        go_simp
        refine hK.out _ _ ⟨c9s, c8s, c11s, c5s⟩ (fun hHeld => ?_)
        clear hK K
        try simp only [Act.put, List.setIfInBounds_toArray, List.set_cons_zero, List.set_cons_succ]
        refine wpAnyH_done (by kernel_rfl) ?_ _
        refine NoPanic.normal ?_
        clear hHeld c9 c8 c11 c5 c6 f6 c9s c8s c11s c5s Q
        go_wp2
        refine ⟨by simp, .inl ⟨_, _, rfl, run_takeDeferred X3.out, ?_⟩⟩
        refine ⟨by simp, .inl ⟨_, _, rfl, run_takeDeferred X2.out, ?_⟩⟩
        refine ⟨by simp, .inl ⟨_, _, rfl, run_takeDeferred X1.out, ?_⟩⟩
        exact ⟨_, results_box rfl _ _ B6 (.bool true) rfl (cell_of_row _ _ _ _ _ _ R8.out), rfl, FIN.out⟩
    case stop2 =>
      rintro D c pre W _ _ h _
      exact h.elim
  case stop =>
    rintro D c pre W _ _ h _
    exact h.elim
end Go.Proofs.Ytohanlhfbfodlaa
