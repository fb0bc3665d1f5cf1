/-
  The model's methods, seventh part: restart. No statement is proved here.
-/
import Derived.Test.YtdcccjkondjhbaaDone
namespace Go.Proofs.Ytdcccjkondjhbaa
open Go.RowKit Go.Maps

theorem Chg.ns_mem {x : Chg} {s : List UInt8} (h : s ∈ x.ns) : s = x.frm ∨ s = x.to_ := by
  unfold Chg.ns at h
  cases hx : x.file with
  | none => rw [hx] at h; simp at h; exact .inl h
  | some f =>
    rw [hx] at h
    simp only at h
    split at h
    · simp at h; exact .inl h
    · simpa using h
theorem still_re (N : Dir) (g : Nat → Nat) (left : Lit → Bool) : Dir.still (N.re g) left = (Dir.still N left).re g := by
  unfold Dir.still Dir.re
  rw [List.filter_map]
  rfl
/-- A file that has come already. -/
theorem under_same {S : St} {N : Dir} {b : Nat} {left : Lit → Bool} {s : List UInt8} {f : Nat} (hnd : N.Pairwise fun p q => p.1 ≠ q.1) (hm : (s, f) ∈ N) (hc : Dir.came N left f = true) :
    S.under N b (fun z => left z && !z.sameKey (.string s)) = S.under N b left := by
  have e : ∀ i, Dir.came N (fun z => left z && !z.sameKey (.string s)) i = Dir.came N left i := fun i => by
    rw [came_step hnd hm]
    by_cases h : f = i
    · subst h; rw [hc]; rfl
    · have : (f == i) = false := by simpa using h
      rw [this, Bool.or_false]
  unfold St.under
  simp only [e]
theorem under_fl_some {S : St} {N : Dir} {b : Nat} {left : Lit → Bool} {f : Nat} (h : (S.fl f).isSome = true) : ((S.under N b left).fl f).isSome = true := by
  unfold St.under
  simp only
  split
  · simpa using h
  · exact h
theorem under_safe {S : St} {N : Dir} {b : Nat} {left : Lit → Bool} (o : Ok S) {f : Nat} {l : Fl} (h : (S.under N b left).fl f = some l) : l.safe ≤ l.data.length ∧ l.data.length ≤ 1000000000 := by
  have hv := o.vol_le
  unfold St.under at h
  simp only at h
  split at h
  · cases hf : S.fl f with
    | none => rw [hf] at h; cases h
    | some l0 =>
      rw [hf] at h
      simp at h
      have h1 := o.fl_len f l0 hf
      have h2 := l0.back_le b
      have h3 := l0.back_len b h1.2
      subst h
      omega
  · have h1 := o.fl_len f l h
    omega
/-- The model behind a restart. -/
theorem MdR.back {w w3 : World} {G K : Nat → Prop} {m : Nat} {S S' : St} {g : Nat → Nat} {stop : Int} {mn mk b : Nat} {A A' : Option Addr} {c c' : Nat} {xs ys : List Value} {N : Dir} (h : MdR w G m S g K stop mn mk A c A' c' xs ys) (k : Kept G w w3)
    (hb : w3.heap[m]? = some (.cells (mcells S stop mn mk A c A' c') 31 (0, 0))) (hk : Nm w3 (some mk) (N.re g)) (hn : Nm w3 (some b) (N.re g)) (hbw : w.heap.size ≤ b) (hf : ∀ f l, K f → S'.fl f = some l → w3.heap[g f]? = some (.cells #[.string (str l.data), .int .i64 l.safe] 48 (0, 0)))
    (h1 : S'.cur = N) (h2 : S'.safe = N) (h3 : S'.pend = []) (h4 : S'.room = S.room) (h5 : S'.calls = S.calls) (h6 : S'.down = false) (h7 : S'.armed = false) (hK : ∀ p ∈ N, K p.2) (hkf : ∀ f, K f → (S'.fl f).isSome = true) (ok : Ok S') :
    Md (((((w3.setCell ⟨m, 0, none⟩ (.map (some b))).setCell ⟨m, 2, none⟩ (.slice none 0 0)).setCell ⟨m, 3, none⟩ (.slice none 0 0)).setCell ⟨m, 6, none⟩ (.bool false)).setCell ⟨m, 5, none⟩ (.int .i64 (-1)))
      (fun i => G i ∨ fresh w (((((w3.setCell ⟨m, 0, none⟩ (.map (some b))).setCell ⟨m, 2, none⟩ (.slice none 0 0)).setCell ⟨m, 3, none⟩ (.slice none 0 0)).setCell ⟨m, 6, none⟩ (.bool false)).setCell ⟨m, 5, none⟩ (.int .i64 (-1))) i) m S' g K ∧
    Kept G w (((((w3.setCell ⟨m, 0, none⟩ (.map (some b))).setCell ⟨m, 2, none⟩ (.slice none 0 0)).setCell ⟨m, 3, none⟩ (.slice none 0 0)).setCell ⟨m, 6, none⟩ (.bool false)).setCell ⟨m, 5, none⟩ (.int .i64 (-1))) := by
  have b4 := heap_setCell_same _ m 5 _ 31 (.int .i64 (-1)) (heap_setCell_same _ m 6 _ 31 (.bool false) (heap_setCell_same _ m 3 _ 31 (.slice none 0 0) (heap_setCell_same _ m 2 _ 31 (.slice none 0 0) (heap_setCell_same w3 m 0 _ 31 (.map (some b)) hb))))
  have k4 : Kept (fun i => i = m) w3 (((((w3.setCell ⟨m, 0, none⟩ (.map (some b))).setCell ⟨m, 2, none⟩ (.slice none 0 0)).setCell ⟨m, 3, none⟩ (.slice none 0 0)).setCell ⟨m, 6, none⟩ (.bool false)).setCell ⟨m, 5, none⟩ (.int .i64 (-1))) :=
    ((((Kept.setCell (S := fun i => i = m) w3 (by rfl) _).step (Kept.setCell _ (by rfl) _)).step (Kept.setCell _ (by rfl) _)).step (Kept.setCell _ (by rfl) _)).step (Kept.setCell _ (by rfl) _)
  have hsz : (((((w3.setCell ⟨m, 0, none⟩ (.map (some b))).setCell ⟨m, 2, none⟩ (.slice none 0 0)).setCell ⟨m, 3, none⟩ (.slice none 0 0)).setCell ⟨m, 6, none⟩ (.bool false)).setCell ⟨m, 5, none⟩ (.int .i64 (-1))).heap.size = w3.heap.size := by simp [World.setCell]
  generalize ((((w3.setCell ⟨m, 0, none⟩ (.map (some b))).setCell ⟨m, 2, none⟩ (.slice none 0 0)).setCell ⟨m, 3, none⟩ (.slice none 0 0)).setCell ⟨m, 6, none⟩ (.bool false)).setCell ⟨m, 5, none⟩ (.int .i64 (-1)) = W at b4 k4 hsz ⊢
  have hnl := hn.lt
  refine ⟨⟨-1, b, mk, none, 0, none, 0, [], [], ?_⟩, k.trans k4 (fun i _ e => e ▸ h.gm)⟩
  exact {
    blk := by rw [b4]; simp only [mcells, h3, h4, h5, h6, List.length_nil]; rfl
    now := by rw [h1]; exact hn.keep k4 fun x hx e => by injection hx with hx; subst hx; exact hn.ne hb e
    kept := by rw [h2]; exact hk.keep k4 fun x hx e => by injection hx with hx; subst hx; exact hk.ne hb e
    ne := fun e => by have := h.kept.lt; omega
    wait := by rw [h3]; exact World.ownsRow_nil _ _ _ _
    files := by rw [h3]; exact World.ownsRow_nil _ _ _ _
    rows := fun i x hx => by rw [h3] at hx; simp at hx
    fil := fun f l hK hl => k4.blk (hf f l hK hl) (blk_ne (hf f l hK hl) hb (by decide))
    inj := h.inj
    kfl := hkf
    kcur := by rw [h1]; exact hK
    ksafe := by rw [h2]; exact hK
    kpend := fun x hx => by rw [h3] at hx; simp at hx
    gm := .inl h.gm
    gn := .inr ⟨hbw, by rw [hsz]; exact hnl⟩
    gk := .inl h.gk
    gA := fun i hi => by cases hi
    gA' := fun i hi => by cases hi
    gfil := fun f hK => .inl (h.gfil f hK)
    lt := fun i hi => by
      rcases hi with h9 | h9
      · rw [hsz]; exact Nat.lt_of_lt_of_le (h.lt i h9) k.size
      · exact h9.2
    stp := fun _ => by rw [h7]; rfl
    lo := by omega
    hi := by omega
    arm := fun h9 => by rw [h7] at h9; cases h9
    ok := ok }

set_option maxRecDepth 100000 in
set_option maxHeartbeats 8000000 in
theorem mrestart_any (G K : Nat → Prop) (m : Nat) (S : St) (g : Nat → Nat) (names bytes : Int) (w : World) (h : Md w G m S g K) (hn1 : -1000 ≤ names) (hn2 : names ≤ 1000) (hy1 : -1000 ≤ bytes) (hy2 : bytes ≤ 1000) (hok : Ok (S.restart names bytes)) :
    Calls Try.prog 8 #[.pointer (some ⟨m, 0, none⟩), .int .i64 names, .int .i64 bytes] w fun e w' => e = .returned (.tuple #[]) ∧ Md w' (fun i => G i ∨ fresh w w' i) m (S.restart names bytes) g K ∧ Kept G w w' := by
  obtain ⟨stop, mn, mk, A, c, A', c', xs, ys, h⟩ := h
  have hmb := h.blk
  unfold mcells at hmb
  obtain ⟨pn, hpn⟩ : ∃ pn, pn = S.pend.length := ⟨_, rfl⟩
  rw [← hpn] at hmb
  have hpb : pn ≤ 1000000 := by have h1 := h.ok.safe_len; have h2 := h.ok.calls_le; omega
  have hcap1 : pn ≤ c := by have h9 := h.wait; rw [← hpn] at h9; obtain ⟨_, _, e, hle⟩ := own_form h9; injection e with _ _ e; omega
  have hcap2 : pn ≤ c' := by have h9 := h.files; rw [← hpn] at h9; obtain ⟨_, _, e, hle⟩ := own_form h9; injection e with _ _ e; omega
  have hmk : Hid (m ≠ mk) := Lib.hid fun e => h.kept.ne h.blk e.symm
  have HPN := Lib.hid hpn; clear hpn
  have HMB := Lib.hid hmb; clear hmb
  have H := Lib.hid h
  have h0 : Hid (Nm w (some mk) ((Dir.after S.safe (S.pend.take 0)).re g)) := Lib.hid h.kept
  have hsl : Hid (S.safe.length ≤ 1000000) := Lib.hid (by have h1 := h.ok.safe_len; have h2 := h.ok.calls_le; omega)
  have HOK := Lib.hid hok
  have hkNN : Hid (∀ k, ∀ p ∈ Dir.after S.safe (S.pend.take k), K p.2) := Lib.hid fun k => Dir.after_fl (I := K) _ h.ksafe (fun x hx f hf => h.kpend x (List.mem_of_mem_take hx) f hf)
  clear h hok
  go_enter Try.func8, Try.ntmps8
  go_wp2
  go_loopw [6] (fun v wr => ∃ k : Nat, k ≤ pn ∧ (k = 0 ∨ (k : Int) ≤ names) ∧ v = .int .i64 (k : Int) ∧ Hid (Nm wr (some mk) ((Dir.after S.safe (S.pend.take k)).re g)) ∧ Kept (fun i => i = mk) w wr) (fun v _ => pn - (intOf v).toNat)
  case atStart => exact ⟨0, by omega, .inl rfl, rfl, h0, Kept.refl _ _⟩
  case round =>
    obtain ⟨k, hk, hkn, rfl, HK, kk⟩ := hrel
    have hmr := kk.blk HMB.out hmk.out
    have r2 : wr.cell? ⟨m, 2, none⟩ = some (.slice A pn c) := cell_of_row _ _ _ _ _ _ hmr
    clear hmr
    by_cases hlt : k < pn
    · by_cases hlt2 : (k : Int) < names
      · have hdec1 : decide ((k : Int) < (pn : Int)) = true := by simp; omega
        have hdec2 : decide ((k : Int) < names) = true := by simp; omega
        obtain ⟨x, hx⟩ : ∃ x, S.pend[k]? = some x := ⟨S.pend[k]'(by rw [← HPN.out]; exact hlt), List.getElem?_eq_getElem _⟩
        obtain ⟨v, u, hv, hu, b1, b2, rfl, q1, l1, rfl, q2, l2⟩ := H.out.rows k x hx
        obtain ⟨n, hn⟩ : ∃ n, n = x.ns.length := ⟨_, rfl⟩
        have hn2' : n ≤ 2 := by have := x.ns_le; omega
        have hfl : x.fs.length = n := by rw [x.fs_len, hn]
        rw [← hn] at hv hu
        obtain ⟨zs, hzs⟩ : ∃ zs, zs = x.ns.zip (x.fs.map (·.map g)) := ⟨_, rfl⟩
        have hzl : zs.length = n := by rw [hzs]; simp; omega
        obtain ⟨wb, wo, rfl, _, hwc⟩ := (own_lies H.out.wait).norm (by intro e; rw [e] at hv; cases hv)
        obtain ⟨fb, fo, rfl, _, hfc⟩ := (own_lies H.out.files).norm (by intro e; rw [e] at hu; cases hu)
        have hwbk : ¬ wb = mk := fun e => row_map_ne H.out.wait H.out.kept (by rw [← e]; rfl)
        have hfbk : ¬ fb = mk := fun e => row_map_ne H.out.files H.out.kept (by rw [← e]; rfl)
        have hb1k : ¬ b1 = mk := fun e => H.out.kept.ne q1 e.symm
        have hb2k : ¬ b2 = mk := fun e => H.out.kept.ne q2 e.symm
        have c1 : w.cell? ⟨wb, wo + k, none⟩ = some (.slice (some ⟨b1, 0, none⟩) n n) := hwc k _ hv
        have c2 : w.cell? ⟨fb, fo + k, none⟩ = some (.slice (some ⟨b2, 0, none⟩) n n) := hfc k _ hu
        have r1 : wr.cell? ⟨wb, wo + k, none⟩ = some (.slice (some ⟨b1, 0, none⟩) n n) := kk.cell c1 hwbk
        have Q1 := Lib.hid q1
        have Q2 := Lib.hid q2
        have HN := Lib.hid hn
        have HFL := Lib.hid hfl
        have HZ := Lib.hid hzs
        have HZL := Lib.hid hzl
        have C2 := Lib.hid c2
        have HXK := Lib.hid hx
        have hne : Hid (¬ fb = mk ∧ ¬ b1 = mk ∧ ¬ b2 = mk) := Lib.hid ⟨hfbk, hb1k, hb2k⟩
        obtain ⟨N0, hN0⟩ : ∃ N0, N0 = (Dir.after S.safe (S.pend.take k)).re g := ⟨_, rfl⟩
        have hN0l : Hid (N0.length + 2 < 1000000000) := by
          show _ < _
          rw [hN0, Dir.re_len]
          have h1 := Dir.after_len (S.pend.take k) S.safe
          rw [List.length_take] at h1
          have := hsl.out
          omega
        rw [← hN0] at HK
        have HN0 := Lib.hid hN0
        have HNMX := Lib.hid (H.out.ok.pend_name x (List.mem_of_getElem? hx))
        have hK0 : Hid (Nm wr (some mk) (N0.sets (zs.take 0))) := HK
        clear hx hv hu q1 q2 hn hfl hzs hzl hwc hfc hwbk hfbk hb1k hb2k c1 c2 hN0 l1 l2
        go_wp2
        go_loopw [34] (fun v w2 => ∃ i : Nat, i ≤ n ∧ v = .int .i64 (i : Int) ∧ Hid (Nm w2 (some mk) (N0.sets (zs.take i))) ∧ Kept (fun i => i = mk) w w2) (fun v _ => n - (intOf v).toNat)
        case atStart => exact ⟨0, by omega, rfl, hK0, kk⟩
        case round =>
          obtain ⟨i, hi, rfl, HI, ki⟩ := hrel
          by_cases hil : i < n
          · have hdec3 : decide ((i : Int) < (n : Int)) = true := by simp; omega
            obtain ⟨s, hs⟩ : ∃ s, x.ns[i]? = some s := ⟨x.ns[i]'(by rw [← HN.out]; exact hil), List.getElem?_eq_getElem _⟩
            obtain ⟨o, ho⟩ : ∃ o, x.fs[i]? = some o := ⟨x.fs[i]'(by rw [HFL.out]; exact hil), List.getElem?_eq_getElem _⟩
            obtain ⟨pv, hpv⟩ : ∃ pv, ptrOf (o.map g) = .pointer pv := ⟨_, rfl⟩
            have p1 : wr.cell? ⟨b1, i, none⟩ = some (.string (str s)) := ki.cell (lit_cell Q1.out (by rw [List.getElem?_map, hs]; rfl)) hne.out.2.1
            have p2 : wr.cell? ⟨fb, fo + k, none⟩ = some (.slice (some ⟨b2, 0, none⟩) n n) := ki.cell C2.out hne.out.1
            have p3 : wr.cell? ⟨b2, i, none⟩ = some (.pointer pv) := ki.cell (lit_cell Q2.out (by rw [List.getElem?_map, ho, ← hpv]; rfl)) hne.out.2.2
            have hmi := ki.blk HMB.out hmk.out
            have p4 : wr.cell? ⟨m, 1, none⟩ = some (.map (some mk)) := cell_of_row _ _ _ _ _ _ hmi
            have p5 : wr.cell? ⟨m, 3, none⟩ = some (.slice (some ⟨fb, fo, none⟩) pn c') := cell_of_row _ _ _ _ _ _ hmi
            have hz : zs[i]? = some (s, o.map g) := by
              rw [HZ.out, List.getElem?_zip_eq_some]
              exact ⟨hs, by rw [List.getElem?_map, ho]; rfl⟩
            have hsn : s.length ≤ maxLen := by
              rcases Chg.ns_mem (List.mem_of_getElem? hs) with e | e
              · rw [e]; exact HNMX.out.1
              · rw [e]; exact HNMX.out.2
            have hsz : Hid ((N0.sets (zs.take i)).length < maxLen) := by
              have h1 := Dir.sets_len (zs.take i) N0
              rw [List.length_take] at h1
              have := hN0l.out
              show _ < _
              unfold maxLen
              omega
            have HZK := Lib.hid hz
            have hset := set_any mk (N0.sets (zs.take i)) s (o.map g) wr.drew (HI.out.keep (Kept.drew noBlock wr) (fun _ _ h => h)) hsn hsz.out
            rw [hpv] at hset
            have KI := Lib.hid ki
            clear hs ho hpv hz hdec3 hmi ki
            go_upto_region 6 with (fail)
            refine wp_region_noPanic ?_
            refine wp_region_held_drew (S := fun w' => w'.cell? ⟨m, 1, none⟩ = some (.map (some mk)) ∧ w'.cell? ⟨m, 3, none⟩ = some (.slice (some ⟨fb, fo, none⟩) pn c') ∧ w'.cell? ⟨fb, fo + k, none⟩ = some (.slice (some ⟨b2, 0, none⟩) n n) ∧ w'.cell? ⟨b2, i, none⟩ = some (.pointer pv)) (by kernel_rfl) ⟨p4, p5, p2, p3⟩ (fun hHeld => ?_)
            refine wpAnyH_take (i := 0) (oi := ⟨some 39, Op.move (Operand.tmp 0), 26, _, _, none⟩) (v := ?v0n1k1) rfl (by kernel_rfl) (by kernel_rfl) (by kernel_rfl) (fun _ _ _ h => h) (Or.inl ⟨by rfl, ?y0n1k1⟩) hHeld ?z0n1k1
            case y0n1k1 => intro w hSw; (try dsimp only at hSw); go_simp <;> rfl
            try simp only [Act.put, List.setIfInBounds_toArray, List.set_cons_zero, List.set_cons_succ]
            refine wpAnyH_take (i := 1) (oi := ⟨some 40, Op.nilCheck (Operand.tmp 39), 0, _, _, none⟩) (v := ?v1n1k2) rfl (by kernel_rfl) (by kernel_rfl) (by kernel_rfl) (fun _ _ _ h => h) (Or.inl ⟨by rfl, ?y1n1k2⟩) hHeld ?z1n1k2
            case y1n1k2 => intro w hSw; (try dsimp only at hSw); go_simp <;> rfl
            try simp only [Act.put, List.setIfInBounds_toArray, List.set_cons_zero, List.set_cons_succ]
            refine wpAnyH_take (i := 2) (oi := ⟨some 41, Op.fieldAddr 31 (Operand.tmp 40) 1, 0, _, _, none⟩) (v := ?v2n1k3) rfl (by kernel_rfl) (by kernel_rfl) (by kernel_rfl) (fun _ _ _ h => h) (Or.inl ⟨by rfl, ?y2n1k3⟩) hHeld ?z2n1k3
            case y2n1k3 => intro w hSw; (try dsimp only at hSw); go_simp <;> rfl
            try simp only [Act.put, List.setIfInBounds_toArray, List.set_cons_zero, List.set_cons_succ]
            refine wpAnyH_take (i := 3) (oi := ⟨some 42, Op.load 27 (Operand.tmp 41), 27, _, _, none⟩) (v := ?v3n1k4) rfl (by kernel_rfl) (by kernel_rfl) (by kernel_rfl) (fun _ _ _ h => h) (Or.inl ⟨by rfl, ?y3n1k4⟩) hHeld ?z3n1k4
            case y3n1k4 => intro w hSw; (try dsimp only at hSw); go_simp <;> rfl
            try simp only [Act.put, List.setIfInBounds_toArray, List.set_cons_zero, List.set_cons_succ]
            refine wpAnyH_take (i := 4) (oi := ⟨some 43, Op.move (Operand.tmp 8), 9, _, _, none⟩) (v := ?v4n1k5) rfl (by kernel_rfl) (by kernel_rfl) (by kernel_rfl) (fun _ _ _ h => h) (Or.inl ⟨by rfl, ?y4n1k5⟩) hHeld ?z4n1k5
            case y4n1k5 => intro w hSw; (try dsimp only at hSw); go_simp <;> rfl
            try simp only [Act.put, List.setIfInBounds_toArray, List.set_cons_zero, List.set_cons_succ]
            refine wpAnyH_take (i := 5) (oi := ⟨some 44, Op.move (Operand.tmp 0), 26, _, _, none⟩) (v := ?v5n1k6) rfl (by kernel_rfl) (by kernel_rfl) (by kernel_rfl) (fun _ _ _ h => h) (Or.inl ⟨by rfl, ?y5n1k6⟩) hHeld ?z5n1k6
            case y5n1k6 => intro w hSw; (try dsimp only at hSw); go_simp <;> rfl
            try simp only [Act.put, List.setIfInBounds_toArray, List.set_cons_zero, List.set_cons_succ]
            refine wpAnyH_take (i := 6) (oi := ⟨some 45, Op.nilCheck (Operand.tmp 44), 0, _, _, none⟩) (v := ?v6n1k7) rfl (by kernel_rfl) (by kernel_rfl) (by kernel_rfl) (fun _ _ _ h => h) (Or.inl ⟨by rfl, ?y6n1k7⟩) hHeld ?z6n1k7
            case y6n1k7 => intro w hSw; (try dsimp only at hSw); go_simp <;> rfl
            try simp only [Act.put, List.setIfInBounds_toArray, List.set_cons_zero, List.set_cons_succ]
            refine wpAnyH_take (i := 7) (oi := ⟨some 46, Op.fieldAddr 31 (Operand.tmp 45) 3, 0, _, _, none⟩) (v := ?v7n1k8) rfl (by kernel_rfl) (by kernel_rfl) (by kernel_rfl) (fun _ _ _ h => h) (Or.inl ⟨by rfl, ?y7n1k8⟩) hHeld ?z7n1k8
            case y7n1k8 => intro w hSw; (try dsimp only at hSw); go_simp <;> rfl
            try simp only [Act.put, List.setIfInBounds_toArray, List.set_cons_zero, List.set_cons_succ]
            refine wpAnyH_take (i := 8) (oi := ⟨some 47, Op.load 29 (Operand.tmp 46), 29, _, _, none⟩) (v := ?v8n1k9) rfl (by kernel_rfl) (by kernel_rfl) (by kernel_rfl) (fun _ _ _ h => h) (Or.inl ⟨by rfl, ?y8n1k9⟩) hHeld ?z8n1k9
            case y8n1k9 => intro w hSw; (try dsimp only at hSw); go_simp <;> rfl
            try simp only [Act.put, List.setIfInBounds_toArray, List.set_cons_zero, List.set_cons_succ]
            refine wpAnyH_take (i := 9) (oi := ⟨some 48, Op.move (Operand.tmp 6), 3, _, _, none⟩) (v := ?v9n1k10) rfl (by kernel_rfl) (by kernel_rfl) (by kernel_rfl) (fun _ _ _ h => h) (Or.inl ⟨by rfl, ?y9n1k10⟩) hHeld ?z9n1k10
            case y9n1k10 => intro w hSw; (try dsimp only at hSw); go_simp <;> rfl
            try simp only [Act.put, List.setIfInBounds_toArray, List.set_cons_zero, List.set_cons_succ]
            refine wpAnyH_take (i := 10) (oi := ⟨some 49, Op.indexAddr 29 (Operand.tmp 47) (Operand.tmp 48), 0, _, _, none⟩) (v := ?v10n1k11) rfl (by kernel_rfl) (by kernel_rfl) (by kernel_rfl) (fun _ _ _ h => h) (Or.inl ⟨by rfl, ?y10n1k11⟩) hHeld ?z10n1k11
            case y10n1k11 => intro w hSw; (try dsimp only at hSw); go_simp <;> rfl
            try simp only [Act.put, List.setIfInBounds_toArray, List.set_cons_zero, List.set_cons_succ]
            refine wpAnyH_take (i := 11) (oi := ⟨some 50, Op.load 63 (Operand.tmp 49), 63, _, _, none⟩) (v := ?v11n1k12) rfl (by kernel_rfl) (by kernel_rfl) (by kernel_rfl) (fun _ _ _ h => h) (Or.inl ⟨by rfl, ?y11n1k12⟩) hHeld ?z11n1k12
            case y11n1k12 => intro w hSw; (try dsimp only at hSw); go_simp <;> rfl
            try simp only [Act.put, List.setIfInBounds_toArray, List.set_cons_zero, List.set_cons_succ]
            refine wpAnyH_take (i := 12) (oi := ⟨some 51, Op.move (Operand.tmp 7), 3, _, _, none⟩) (v := ?v12n1k13) rfl (by kernel_rfl) (by kernel_rfl) (by kernel_rfl) (fun _ _ _ h => h) (Or.inl ⟨by rfl, ?y12n1k13⟩) hHeld ?z12n1k13
            case y12n1k13 => intro w hSw; (try dsimp only at hSw); go_simp <;> rfl
            try simp only [Act.put, List.setIfInBounds_toArray, List.set_cons_zero, List.set_cons_succ]
            refine wpAnyH_take (i := 13) (oi := ⟨some 52, Op.indexAddr 63 (Operand.tmp 50) (Operand.tmp 51), 0, _, _, none⟩) (v := ?v13n1k14) rfl (by kernel_rfl) (by kernel_rfl) (by kernel_rfl) (fun _ _ _ h => h) (Or.inl ⟨by rfl, ?y13n1k14⟩) hHeld ?z13n1k14
            case y13n1k14 => intro w hSw; (try dsimp only at hSw); go_simp <;> rfl
            try simp only [Act.put, List.setIfInBounds_toArray, List.set_cons_zero, List.set_cons_succ]
            refine wpAnyH_take (i := 14) (oi := ⟨some 53, Op.load 44 (Operand.tmp 52), 44, _, _, none⟩) (v := ?v14n1k15) rfl (by kernel_rfl) (by kernel_rfl) (by kernel_rfl) (fun _ _ _ h => h) (Or.inl ⟨by rfl, ?y14n1k15⟩) hHeld ?z14n1k15
            case y14n1k15 => intro w hSw; (try dsimp only at hSw); go_simp <;> rfl
            try simp only [Act.put, List.setIfInBounds_toArray, List.set_cons_zero, List.set_cons_succ]
            refine wpAnyH_ready (rs := [15]) (by kernel_rfl) (by simp) ?_
            refine AllReadyH.cons (o := ⟨some 54, Op.call { callee := Callee.value (Operand.func 22), args := #[Operand.tmp 42, Operand.tmp 43, Operand.tmp 53], argTypes := #[27, 9, 44] }, 0, _, _, none⟩) rfl (fun K hK => ?_) AllReadyH.nil
            go_simp
            refine hset.mono ?_
            rintro e w5 ⟨rfl, hN5, k5⟩
            dsimp only
            refine hK.out _ _ ⟨k5.cell p4 hmk.out, k5.cell p5 hmk.out, k5.cell p2 hne.out.1, k5.cell p3 hne.out.2.2⟩ (fun hHeld => ?_)
            clear hK K
            try simp only [Act.put, List.setIfInBounds_toArray, List.set_cons_zero, List.set_cons_succ]
            refine wpAnyH_done (by kernel_rfl) ?_ _
            refine NoPanic.normal ?_
            have HN5 := Lib.hid hN5
            have K5 := Lib.hid (KI.out.step ((Kept.drew (fun i => i = mk) wr).step k5))
            clear hN5 k5 hset p1 p2 p3 p4 p5 hHeld
            go_wp2
            go_roundw
            case rel =>
              refine ⟨i + 1, by omega, by go_num, ?_, K5.out⟩
              rw [take_snoc zs i _ HZK.out, Dir.sets_snoc]
              exact HN5
            case measure => simp [intOf]; omega
          · obtain rfl : i = n := by omega
            rw [List.take_of_length_le (by rw [HZL.out]; exact Nat.le_refl _), HZ.out, HN0.out, Chg.sets_re, ← Dir.after_snoc, ← take_snoc S.pend k x HXK.out] at HI
            have KI := Lib.hid ki
            clear ki
            go_wp2
            go_roundw
            case rel => exact ⟨k + 1, by omega, .inr (by omega), by go_num, HI, KI.out⟩
            case measure => simp [intOf]; omega
      · have hdec1 : decide ((k : Int) < (pn : Int)) = true := by simp; omega
        have hdec2 : decide ((k : Int) < names) = false := by simp; omega
        have htk : S.names names.toNat = Dir.after S.safe (S.pend.take k) := by
          unfold St.names
          rw [show names.toNat = k by omega]
        obtain ⟨NN, hNN⟩ : ∃ NN, NN = Dir.after S.safe (S.pend.take k) := ⟨_, rfl⟩
        have HKN : Hid (∀ p ∈ NN, K p.2) := Lib.hid (by rw [hNN]; exact hkNN.out k)
        have HNL : Hid ((NN.re g).length < 1000000000) := by
          show _ < _
          rw [Dir.re_len, hNN]
          have h1 := Dir.after_len (S.pend.take k) S.safe
          rw [List.length_take] at h1
          have := hsl.out
          omega
        rw [← hNN] at HK htk
        have HTK := Lib.hid htk
        have HND : Hid (NN.Pairwise fun p q => p.1 ≠ q.1) := Lib.hid (by
          have h9 := HK.out.nodup
          unfold Dir.re at h9
          rw [List.pairwise_map] at h9
          exact h9)
        have hmr := kk.blk HMB.out hmk.out
        have kD := Kept.alloc noBlock wr (.map #[] 0)
        have s1 : (wr.alloc (.map #[] 0)).cell? ⟨m, 1, none⟩ = some (.map (some mk)) := cell_of_row _ _ _ _ _ _ (kD.blk hmr (fun h => h))
        have HNd := Lib.hid (HK.out.keep kD (fun _ _ h => h))
        have hDn := heap_alloc_new wr (.map #[] 0)
        obtain ⟨o, ho⟩ : ∃ o, o = wr.heap.size := ⟨_, rfl⟩
        have hwo : w.heap.size ≤ o := by rw [ho]; exact kk.size
        have hmko : mk < o := by rw [ho]; exact HK.out.lt
        have hDn' : (wr.alloc (.map #[] 0)).heap[o]? = some (.map #[] 0) := by rw [ho]; exact hDn
        have HDn := Lib.hid hDn'
        have hosz : (wr.alloc (.map #[] 0)).heap.size = o + 1 := by rw [ho]; simp
        have KD := Lib.hid (show Kept (fun i => i = mk ∨ ∃ f, K f ∧ i = g f) w (wr.alloc (.map #[] 0)) from (kk.mono (fun _ _ h => .inl h)).trans kD (fun _ _ h => h.elim))
        have hF0 : Hid (∀ f l, K f → S.fl f = some l → (wr.alloc (.map #[] 0)).heap[g f]? = some (.cells #[.string (str l.data), .int .i64 l.safe] 48 (0, 0))) :=
          Lib.hid fun f l hK hl => kD.blk (kk.blk (H.out.fil f l hK hl) (fun e => H.out.kept.ne (H.out.fil f l hK hl) e.symm)) (fun h => h)
        have hmm := @run_makeMap Try.prog
        have HO := Lib.hid ho
        clear hNN htk hmr kD hDn hDn' kk HK ho
        go_wp2_with (at_range; refine wpList_mrange rfl _ 27 44 rfl Try.underlying27 mk (NN.re g) rfl HNd.out ?_)
        rw [← HO.out]
        generalize wr.alloc (.map #[] 0) = wD at s1 HNd HDn KD hF0 hosz ⊢
        intro w1 left0 hrg0 hst0 k1 hs1
        have HR0 := Lib.hid hrg0
        have hcame0 : ∀ f, Dir.came NN left0 f = false := came_all (by
          have h9 := hst0
          rw [still_re] at h9
          unfold Dir.still at h9 ⊢
          rw [List.filter_eq_self]
          intro p hp
          have h8 := congrArg List.length h9
          rw [Dir.re_len, Dir.re_len] at h8
          exact (List.filter_eq_self.1 (List.filter_sublist.eq_of_length h8)) p hp)
        have hu0 : (S.under NN bytes.toNat left0).fl = S.fl := by
          unfold St.under
          simp only [hcame0, Bool.false_eq_true, if_false]
        have hF1 : Hid (∀ f l, K f → (S.under NN bytes.toNat left0).fl f = some l → w1.heap[g f]? = some (.cells #[.string (str l.data), .int .i64 l.safe] 48 (0, 0))) := Lib.hid fun f l hK hl => k1.blk (hF0.out f l hK (by rw [← hu0]; exact hl)) (fun h => h)
        have HD1 := Lib.hid (k1.blk HDn.out (fun h => h))
        have KW1 := Lib.hid (KD.out.trans k1 (fun _ _ h => h.elim))
        clear hrg0 hst0 k1 hs1 hcame0 hu0 s1 hmm hosz
        go_wp2
        go_loopw [62] (fun _ wr => ∃ (left : Lit → Bool) (cnt : Nat) (es : Array MapEntry) (clock : Nat), Hid (Rng wr mk (o + 1) (NN.re g) left cnt) ∧ Hid (wr.heap[o]? = some (.map es clock)) ∧ Hid (∀ e ∈ es.toList, e.val = .bool true ∧ ∃ f, K f ∧ e.key = ptrB (g f) ∧ Dir.came NN left f = true) ∧ Hid (∀ f l, K f → (S.under NN bytes.toNat left).fl f = some l → wr.heap[g f]? = some (.cells #[.string (str l.data), .int .i64 l.safe] 48 (0, 0))) ∧ Hid (Kept (fun i => i = mk ∨ ∃ f, K f ∧ i = g f) w wr)) (fun _ wr => wr.rangeLeft mk (o + 1))
        case atStart => exact ⟨left0, (NN.re g).length, #[], 0, HR0, HD1, Lib.hid (fun e he => by simp at he), hF1, KW1⟩
        case round =>
          obtain ⟨left, cnt, es, clock, HR, HD, HE, HFi, KW⟩ := hrel
          go_wp2_with (at_next; refine wpList_mnext rfl _ rfl mk (o + 1) (NN.re g) left cnt rfl HR.out ?_ ?_)
          · intro hdone
            have hst : Dir.still NN left = [] := by
              rw [still_re] at hdone
              unfold Dir.re at hdone
              simpa using hdone
            have hufl : ∀ f, (S.restart names bytes).fl f = (S.under NN bytes.toNat left).fl f := fun f => by
              unfold St.restart St.under
              rw [HTK.out]
              simp only [came_none hst]
            have hGl : ∀ f, K f → g f ≠ m := fun f hf => by
              obtain ⟨l, hfl⟩ := Option.isSome_iff_exists.1 (H.out.kfl f hf)
              exact blk_ne (H.out.fil f l hf hfl) H.out.blk (by decide)
            have hmw := KW.out.blk HMB.out (fun h9 => h9.elim hmk.out (fun ⟨f, hf, e⟩ => hGl f hf e.symm))
            have s1 : wr.cell? ⟨m, 1, none⟩ = some (.map (some mk)) := cell_of_row _ _ _ _ _ _ hmw
            have HMW := Lib.hid hmw
            have HUF := Lib.hid hufl
            have hwsz : Hid (w.heap.size ≤ wr.heap.size) := Lib.hid KW.out.size
            clear hdone hst hufl hGl hmw
            go_wp2_with fail
            refine (copied_any mk (NN.re g) wr HR.out.nm HNL.out).mono ?_
            rintro e w3 ⟨b', rfl, hN3, k3, hb3⟩
            have hm3 := k3.blk HMW.out (fun h => h)
            have z0 : w3.cell? ⟨m, 0, none⟩ = some (.map (some mn)) := cell_of_row _ _ _ _ _ _ hm3
            have z2 : w3.cell? ⟨m, 2, none⟩ = some (.slice A pn c) := cell_of_row _ _ _ _ _ _ hm3
            have z3 : w3.cell? ⟨m, 3, none⟩ = some (.slice A' pn c') := cell_of_row _ _ _ _ _ _ hm3
            have z5 : w3.cell? ⟨m, 5, none⟩ = some (.int .i64 stop) := cell_of_row _ _ _ _ _ _ hm3
            have z6 : w3.cell? ⟨m, 6, none⟩ = some (.bool S.down) := cell_of_row _ _ _ _ _ _ hm3
            have zf0 : w3.frozen? ⟨m, 0, none⟩ = false := frozen_of_row _ _ _ _ _ hm3
            have zf2 : w3.frozen? ⟨m, 2, none⟩ = false := frozen_of_row _ _ _ _ _ hm3
            have zf3 : w3.frozen? ⟨m, 3, none⟩ = false := frozen_of_row _ _ _ _ _ hm3
            have zf5 : w3.frozen? ⟨m, 5, none⟩ = false := frozen_of_row _ _ _ _ _ hm3
            have zf6 : w3.frozen? ⟨m, 6, none⟩ = false := frozen_of_row _ _ _ _ _ hm3
            have kG : Kept G w w3 := (KW.out.trans k3 (fun _ _ h => h.elim)).mono (fun i _ h9 => h9.elim (fun e => e ▸ H.out.gk) (fun ⟨f, hf, e⟩ => e ▸ H.out.gfil f hf))
            have R := Lib.hid (H.out.back (S' := S.restart names bytes) (N := NN) kG (by rw [hm3, HPN.out]; rfl) (HR.out.nm.keep k3 (fun _ _ h => h)) hN3 (Nat.le_trans hwsz.out hb3) (fun f l hK hl => k3.blk (HFi.out f l hK (by rw [← HUF.out f]; exact hl)) (fun h => h)) HTK.out HTK.out rfl rfl rfl rfl rfl HKN.out
              (fun f hK => by rw [HUF.out f]; exact under_fl_some (H.out.kfl f hK)) HOK.out)
            clear hm3 hN3 k3 hb3 kG s1
            go_wp2
            go_end0
            exact ⟨rfl, R.out.1, R.out.2⟩
          · intro s gf w2 cnt2 hmem hl hsl2 hrg2 hlt2 k2 hsz2 hen
            obtain ⟨q, hq, hqe⟩ := (Dir.mem_re NN g (s, gf)).1 hmem
            obtain ⟨qs, f⟩ := q
            have hqs : qs = s := by injection hqe
            have hgf : g f = gf := by injection hqe
            subst hqs
            have hKf : K f := HKN.out _ hq
            obtain ⟨l, hfl⟩ := Option.isSome_iff_exists.1 (under_fl_some (N := NN) (b := bytes.toNat) (left := left) (H.out.kfl f hKf))
            have hos := under_safe H.out.ok hfl
            have hGl : ∀ f, K f → g f < w.heap.size := fun f hf => H.out.lt _ (H.out.gfil f hf)
            have hF2 : ∀ f l, K f → (S.under NN bytes.toNat left).fl f = some l → w2.heap[g f]? = some (.cells #[.string (str l.data), .int .i64 l.safe] 48 (0, 0)) := fun f l hK hl => k2.blk (HFi.out f l hK hl) (fun e => by have := hGl f hK; omega)
            have hcell : ∀ f, K f → isCells w2 (g f) := fun f hK => by
              obtain ⟨l, hfl⟩ := Option.isSome_iff_exists.1 (under_fl_some (N := NN) (b := bytes.toNat) (left := left) (H.out.kfl f hK))
              exact ⟨_, _, hF2 f l hK hfl⟩
            have hD2 := k2.blk HD.out (fun e => by omega)
            have hP2 : Ptrs w2 es.toList := fun e he => by
              obtain ⟨h1, f', hK', h2, _⟩ := HE.out e he
              exact ⟨h1, _, h2, hcell f' hK'⟩
            have hci := hcell f hKf
            rw [hgf] at hci
            have KW2 := Lib.hid (show Kept (fun i => i = mk ∨ ∃ f, K f ∧ i = g f) w w2 from KW.out.trans k2 (fun i hi e => by omega))
            have HM3 := Lib.hid (show wr.rangeLeft mk (o + 1) = cnt from World.ranges.left_eq HR.out)
            have HM2 := Lib.hid (show w2.rangeLeft mk (o + 1) = cnt2 from World.ranges.left_eq hrg2)
            have HR2 := Lib.hid hrg2
            have HF2 := Lib.hid hF2
            have HD2 := Lib.hid hD2
            have HP2 := Lib.hid hP2
            have HCI := Lib.hid hci
            have HQ := Lib.hid hq
            have HGF := Lib.hid hgf
            have HFL := Lib.hid hfl
            have HOS := Lib.hid hos
            have HKF := Lib.hid hKf
            have HGL := Lib.hid hGl
            clear hmem hl hrg2 k2 hsz2 hqe hq hgf hKf hfl hos hF2 hcell hD2 hP2 hci hGl
            go_wp2_with (at_lookup; refine wpList_came rfl _ _ rfl o es clock rfl HD2.out HP2.out gf HCI.out rfl ?_ ?_)
            · intro hyes
              obtain ⟨e, he, hke⟩ := hyes.out
              obtain ⟨_, f', hK', hk', hc'⟩ := HE.out e (by simpa using he)
              have hff : f' = f := by
                rw [hk'] at hke
                simp only [ptrB, Value.pointer.injEq, Option.some.injEq, Addr.mk.injEq, and_true] at hke
                exact H.out.inj f' f hK' HKF.out (by rw [HGF.out]; exact hke)
              subst hff
              have hsame := under_same (S := S) (b := bytes.toNat) HND.out HQ.out hc'
              have HF3 := HF2
              rw [← hsame] at HF3
              have HE3 : Hid (∀ e ∈ es.toList, e.val = .bool true ∧ ∃ f, K f ∧ e.key = ptrB (g f) ∧ Dir.came NN (fun z => left z && !z.sameKey (.string qs)) f = true) := Lib.hid fun e he => by
                obtain ⟨h1, f2, h2, h3, h4⟩ := HE.out e he
                refine ⟨h1, f2, h2, h3, ?_⟩
                rw [came_step HND.out HQ.out, h4]
                rfl
              clear hsame hke hk' hc' he hyes
              go_wp2
              go_roundw
              case rel => exact ⟨_, cnt2, es, clock, HR2, HD2, HE3, HF3, KW2⟩
              case measure => rw [HM2.out, HM3.out]; exact hlt2
            · intro hno
              have HNO : Hid (∀ e ∈ es.toList, e.key ≠ ptrB gf) := Lib.hid fun e he => hno.out e (by simpa using he)
              have hfb := HF2.out f l HKF.out HFL.out
              rw [HGF.out] at hfb
              obtain ⟨ll, hll⟩ : ∃ ll, l.data.length = ll := ⟨_, rfl⟩
              obtain ⟨sf, hsf⟩ : ∃ sf, l.safe = sf := ⟨_, rfl⟩
              rw [hsf] at hfb
              have hsz : (str l.data).size = ll := by rw [str_size, hll]
              have hos := HOS.out
              rw [hll, hsf] at hos
              obtain ⟨t1, ht1⟩ : ∃ t1 : Int, t1 = min bytes (ll : Int) := ⟨_, rfl⟩
              obtain ⟨t2, ht2⟩ : ∃ t2 : Nat, t2 = (max 0 t1).toNat := ⟨_, rfl⟩
              obtain ⟨nw, hnw⟩ : ∃ nw : Nat, nw = min ll (sf + t2) := ⟨_, rfl⟩
              have e1 : (if (ll : Int) < bytes then (ll : Int) else bytes) = t1 := by split <;> omega
              have e1' : min bytes (ll : Int) = t1 := by omega
              have e2 : (if (0 : Int) < t1 then t1 else 0) = (t2 : Int) := by split <;> omega
              have e2' : max 0 t1 = (t2 : Int) := by omega
              have e3 : (if (sf : Int) + (t2 : Int) < (ll : Int) then (sf : Int) + (t2 : Int) else (ll : Int)) = (nw : Int) := by split <;> omega
              have e3' : min (ll : Int) ((sf : Int) + (t2 : Int)) = (nw : Int) := by omega
              have ht2b : t2 ≤ 1000000000 := by omega
              have hnwl : nw ≤ ll := by omega
              have e4 : IntKind.i64.wrap ((sf : Int) + (t2 : Int)) = (sf : Int) + (t2 : Int) := wrap_small (by omega) (by omega)
              have hback : l.back bytes.toNat = ⟨l.data.take nw, nw⟩ := by
                have h9 : l.safe + min bytes.toNat (l.data.length - l.safe) = nw := by rw [hll, hsf]; omega
                unfold Fl.back
                rw [h9]
              have hexs : ((str l.data).extract 0 nw).size = nw := by
                rw [str_extract, str_size, List.length_take, hll]
                omega
              have q0 : w2.cell? ⟨gf, 0, none⟩ = some (.string (str l.data)) := cell_of_row _ _ _ _ _ _ hfb
              have q1 : w2.cell? ⟨gf, 1, none⟩ = some (.int .i64 (sf : Int)) := cell_of_row _ _ _ _ _ _ hfb
              have HBK := Lib.hid hback
              have HFB := Lib.hid hfb
              clear hno hll hsf ht1 ht2 hnw hback hfb
              go_upto_region 13 with (fail)
              refine wp_region_noPanic ?_
              refine wp_region_any_drew (by kernel_rfl) ?_
              refine wpAny_tail (S := fun w' => w'.cell? ⟨gf, 0, none⟩ = some (.string (str l.data)) ∧ w'.cell? ⟨gf, 1, none⟩ = some (.int .i64 (sf : Int))) 27 27 ⟨q0, q1⟩ (fun hHeld => ?_)
              refine wpAnyT_take (i := 0) (oi := ⟨some 70, Op.move (Operand.tmp 11), 44, _, _, none⟩) (v := ?v0n2k1) rfl (by kernel_rfl) (by kernel_rfl) (by kernel_rfl) (fun _ _ _ h => h) (Or.inl ⟨by rfl, ?y0n2k1⟩) hHeld ?z0n2k1
              case y0n2k1 => intro w hSw; (try dsimp only at hSw); go_simp <;> rfl
              try simp only [Act.put, List.setIfInBounds_toArray, List.set_cons_zero, List.set_cons_succ]
              refine wpAnyT_take (i := 1) (oi := ⟨some 71, Op.move (Operand.tmp 11), 44, _, _, none⟩) (v := ?v1n2k2) rfl (by kernel_rfl) (by kernel_rfl) (by kernel_rfl) (fun _ _ _ h => h) (Or.inl ⟨by rfl, ?y1n2k2⟩) hHeld ?z1n2k2
              case y1n2k2 => intro w hSw; (try dsimp only at hSw); go_simp <;> rfl
              try simp only [Act.put, List.setIfInBounds_toArray, List.set_cons_zero, List.set_cons_succ]
              refine wpAnyT_take (i := 2) (oi := ⟨some 72, Op.nilCheck (Operand.tmp 71), 0, _, _, none⟩) (v := ?v2n2k3) rfl (by kernel_rfl) (by kernel_rfl) (by kernel_rfl) (fun _ _ _ h => h) (Or.inl ⟨by rfl, ?y2n2k3⟩) hHeld ?z2n2k3
              case y2n2k3 => intro w hSw; (try dsimp only at hSw); go_simp <;> rfl
              try simp only [Act.put, List.setIfInBounds_toArray, List.set_cons_zero, List.set_cons_succ]
              refine wpAnyT_take (i := 3) (oi := ⟨some 73, Op.fieldAddr 48 (Operand.tmp 72) 0, 0, _, _, none⟩) (v := ?v3n2k4) rfl (by kernel_rfl) (by kernel_rfl) (by kernel_rfl) (fun _ _ _ h => h) (Or.inl ⟨by rfl, ?y3n2k4⟩) hHeld ?z3n2k4
              case y3n2k4 => intro w hSw; (try dsimp only at hSw); go_simp <;> rfl
              try simp only [Act.put, List.setIfInBounds_toArray, List.set_cons_zero, List.set_cons_succ]
              refine wpAnyT_take (i := 4) (oi := ⟨some 74, Op.load 9 (Operand.tmp 73), 9, _, _, none⟩) (v := ?v4n2k5) rfl (by kernel_rfl) (by kernel_rfl) (by kernel_rfl) (fun _ _ _ h => h) (Or.inl ⟨by rfl, ?y4n2k5⟩) hHeld ?z4n2k5
              case y4n2k5 => intro w hSw; (try dsimp only at hSw); go_simp <;> rfl
              try simp only [Act.put, List.setIfInBounds_toArray, List.set_cons_zero, List.set_cons_succ]
              refine wpAnyT_take (i := 5) (oi := ⟨some 75, Op.move (Operand.tmp 11), 44, _, _, none⟩) (v := ?v5n2k6) rfl (by kernel_rfl) (by kernel_rfl) (by kernel_rfl) (fun _ _ _ h => h) (Or.inl ⟨by rfl, ?y5n2k6⟩) hHeld ?z5n2k6
              case y5n2k6 => intro w hSw; (try dsimp only at hSw); go_simp <;> rfl
              try simp only [Act.put, List.setIfInBounds_toArray, List.set_cons_zero, List.set_cons_succ]
              refine wpAnyT_take (i := 6) (oi := ⟨some 76, Op.nilCheck (Operand.tmp 75), 0, _, _, none⟩) (v := ?v6n2k7) rfl (by kernel_rfl) (by kernel_rfl) (by kernel_rfl) (fun _ _ _ h => h) (Or.inl ⟨by rfl, ?y6n2k7⟩) hHeld ?z6n2k7
              case y6n2k7 => intro w hSw; (try dsimp only at hSw); go_simp <;> rfl
              try simp only [Act.put, List.setIfInBounds_toArray, List.set_cons_zero, List.set_cons_succ]
              refine wpAnyT_take (i := 7) (oi := ⟨some 77, Op.fieldAddr 48 (Operand.tmp 76) 0, 0, _, _, none⟩) (v := ?v7n2k8) rfl (by kernel_rfl) (by kernel_rfl) (by kernel_rfl) (fun _ _ _ h => h) (Or.inl ⟨by rfl, ?y7n2k8⟩) hHeld ?z7n2k8
              case y7n2k8 => intro w hSw; (try dsimp only at hSw); go_simp <;> rfl
              try simp only [Act.put, List.setIfInBounds_toArray, List.set_cons_zero, List.set_cons_succ]
              refine wpAnyT_take (i := 8) (oi := ⟨some 78, Op.load 9 (Operand.tmp 77), 9, _, _, none⟩) (v := ?v8n2k9) rfl (by kernel_rfl) (by kernel_rfl) (by kernel_rfl) (fun _ _ _ h => h) (Or.inl ⟨by rfl, ?y8n2k9⟩) hHeld ?z8n2k9
              case y8n2k9 => intro w hSw; (try dsimp only at hSw); go_simp <;> rfl
              try simp only [Act.put, List.setIfInBounds_toArray, List.set_cons_zero, List.set_cons_succ]
              refine wpAnyT_take (i := 9) (oi := ⟨some 79, Op.call { callee := Callee.builtin Builtin.len, args := #[Operand.tmp 78], argTypes := #[9] }, 3, _, _, none⟩) (v := ?v9n2k10) rfl (by kernel_rfl) (by kernel_rfl) (by kernel_rfl) (fun _ _ _ h => h) (Or.inl ⟨by rfl, ?y9n2k10⟩) hHeld ?z9n2k10
              case y9n2k10 => intro w hSw; (try dsimp only at hSw); go_simp <;> rfl
              try simp only [Act.put, List.setIfInBounds_toArray, List.set_cons_zero, List.set_cons_succ]
              refine wpAnyT_take (i := 10) (oi := ⟨some 80, Op.move (Operand.tmp 11), 44, _, _, none⟩) (v := ?v10n2k11) rfl (by kernel_rfl) (by kernel_rfl) (by kernel_rfl) (fun _ _ _ h => h) (Or.inl ⟨by rfl, ?y10n2k11⟩) hHeld ?z10n2k11
              case y10n2k11 => intro w hSw; (try dsimp only at hSw); go_simp <;> rfl
              try simp only [Act.put, List.setIfInBounds_toArray, List.set_cons_zero, List.set_cons_succ]
              refine wpAnyT_take (i := 11) (oi := ⟨some 81, Op.nilCheck (Operand.tmp 80), 0, _, _, none⟩) (v := ?v11n2k12) rfl (by kernel_rfl) (by kernel_rfl) (by kernel_rfl) (fun _ _ _ h => h) (Or.inl ⟨by rfl, ?y11n2k12⟩) hHeld ?z11n2k12
              case y11n2k12 => intro w hSw; (try dsimp only at hSw); go_simp <;> rfl
              try simp only [Act.put, List.setIfInBounds_toArray, List.set_cons_zero, List.set_cons_succ]
              refine wpAnyT_take (i := 12) (oi := ⟨some 82, Op.fieldAddr 48 (Operand.tmp 81) 1, 0, _, _, none⟩) (v := ?v12n2k13) rfl (by kernel_rfl) (by kernel_rfl) (by kernel_rfl) (fun _ _ _ h => h) (Or.inl ⟨by rfl, ?y12n2k13⟩) hHeld ?z12n2k13
              case y12n2k13 => intro w hSw; (try dsimp only at hSw); go_simp <;> rfl
              try simp only [Act.put, List.setIfInBounds_toArray, List.set_cons_zero, List.set_cons_succ]
              refine wpAnyT_take (i := 13) (oi := ⟨some 83, Op.load 3 (Operand.tmp 82), 3, _, _, none⟩) (v := ?v13n2k14) rfl (by kernel_rfl) (by kernel_rfl) (by kernel_rfl) (fun _ _ _ h => h) (Or.inl ⟨by rfl, ?y13n2k14⟩) hHeld ?z13n2k14
              case y13n2k14 => intro w hSw; (try dsimp only at hSw); go_simp <;> rfl
              try simp only [Act.put, List.setIfInBounds_toArray, List.set_cons_zero, List.set_cons_succ]
              refine wpAnyT_take (i := 14) (oi := ⟨some 84, Op.move (Operand.tmp 2), 3, _, _, none⟩) (v := ?v14n2k15) rfl (by kernel_rfl) (by kernel_rfl) (by kernel_rfl) (fun _ _ _ h => h) (Or.inl ⟨by rfl, ?y14n2k15⟩) hHeld ?z14n2k15
              case y14n2k15 => intro w hSw; (try dsimp only at hSw); go_simp <;> rfl
              try simp only [Act.put, List.setIfInBounds_toArray, List.set_cons_zero, List.set_cons_succ]
              refine wpAnyT_take (i := 15) (oi := ⟨some 85, Op.move (Operand.tmp 11), 44, _, _, none⟩) (v := ?v15n2k16) rfl (by kernel_rfl) (by kernel_rfl) (by kernel_rfl) (fun _ _ _ h => h) (Or.inl ⟨by rfl, ?y15n2k16⟩) hHeld ?z15n2k16
              case y15n2k16 => intro w hSw; (try dsimp only at hSw); go_simp <;> rfl
              try simp only [Act.put, List.setIfInBounds_toArray, List.set_cons_zero, List.set_cons_succ]
              refine wpAnyT_take (i := 16) (oi := ⟨some 86, Op.nilCheck (Operand.tmp 85), 0, _, _, none⟩) (v := ?v16n2k17) rfl (by kernel_rfl) (by kernel_rfl) (by kernel_rfl) (fun _ _ _ h => h) (Or.inl ⟨by rfl, ?y16n2k17⟩) hHeld ?z16n2k17
              case y16n2k17 => intro w hSw; (try dsimp only at hSw); go_simp <;> rfl
              try simp only [Act.put, List.setIfInBounds_toArray, List.set_cons_zero, List.set_cons_succ]
              refine wpAnyT_take (i := 17) (oi := ⟨some 87, Op.fieldAddr 48 (Operand.tmp 86) 0, 0, _, _, none⟩) (v := ?v17n2k18) rfl (by kernel_rfl) (by kernel_rfl) (by kernel_rfl) (fun _ _ _ h => h) (Or.inl ⟨by rfl, ?y17n2k18⟩) hHeld ?z17n2k18
              case y17n2k18 => intro w hSw; (try dsimp only at hSw); go_simp <;> rfl
              try simp only [Act.put, List.setIfInBounds_toArray, List.set_cons_zero, List.set_cons_succ]
              refine wpAnyT_take (i := 18) (oi := ⟨some 88, Op.load 9 (Operand.tmp 87), 9, _, _, none⟩) (v := ?v18n2k19) rfl (by kernel_rfl) (by kernel_rfl) (by kernel_rfl) (fun _ _ _ h => h) (Or.inl ⟨by rfl, ?y18n2k19⟩) hHeld ?z18n2k19
              case y18n2k19 => intro w hSw; (try dsimp only at hSw); go_simp <;> rfl
              try simp only [Act.put, List.setIfInBounds_toArray, List.set_cons_zero, List.set_cons_succ]
              refine wpAnyT_take (i := 19) (oi := ⟨some 89, Op.call { callee := Callee.builtin Builtin.len, args := #[Operand.tmp 88], argTypes := #[9] }, 3, _, _, none⟩) (v := ?v19n2k20) rfl (by kernel_rfl) (by kernel_rfl) (by kernel_rfl) (fun _ _ _ h => h) (Or.inl ⟨by rfl, ?y19n2k20⟩) hHeld ?z19n2k20
              case y19n2k20 => intro w hSw; (try dsimp only at hSw); go_simp <;> rfl
              try simp only [Act.put, List.setIfInBounds_toArray, List.set_cons_zero, List.set_cons_succ]
              refine wpAnyT_take (i := 20) (oi := ⟨some 90, Op.call { callee := Callee.builtin Builtin.min, args := #[Operand.tmp 84, Operand.tmp 89], argTypes := #[3, 3] }, 3, _, _, none⟩) (v := ?v20n2k21) rfl (by kernel_rfl) (by kernel_rfl) (by kernel_rfl) (fun _ _ _ h => h) (Or.inl ⟨by rfl, ?y20n2k21⟩) hHeld ?z20n2k21
              case y20n2k21 => intro w hSw; (try dsimp only at hSw); go_simp <;> rfl
              try simp only [Act.put, List.setIfInBounds_toArray, List.set_cons_zero, List.set_cons_succ]
              refine wpAnyT_take (i := 21) (oi := ⟨some 91, Op.call { callee := Callee.builtin Builtin.max, args := #[Operand.const (Value.int IntKind.i64 0), Operand.tmp 90], argTypes := #[3, 3] }, 3, _, _, none⟩) (v := ?v21n2k22) rfl (by kernel_rfl) (by kernel_rfl) (by kernel_rfl) (fun _ _ _ h => h) (Or.inl ⟨by rfl, ?y21n2k22⟩) hHeld ?z21n2k22
              case y21n2k22 => intro w hSw; (try dsimp only at hSw); go_simp <;> rfl
              try simp only [Act.put, List.setIfInBounds_toArray, List.set_cons_zero, List.set_cons_succ]
              refine wpAnyT_take (i := 22) (oi := ⟨some 92, Op.binOp BinOp.add 3 (Operand.tmp 83) (Operand.tmp 91) 3, 3, _, _, none⟩) (v := ?v22n2k23) rfl (by kernel_rfl) (by kernel_rfl) (by kernel_rfl) (fun _ _ _ h => h) (Or.inl ⟨by rfl, ?y22n2k23⟩) hHeld ?z22n2k23
              case y22n2k23 => intro w hSw; (try dsimp only at hSw); go_simp <;> rfl
              try simp only [Act.put, List.setIfInBounds_toArray, List.set_cons_zero, List.set_cons_succ]
              refine wpAnyT_take (i := 23) (oi := ⟨some 93, Op.call { callee := Callee.builtin Builtin.min, args := #[Operand.tmp 79, Operand.tmp 92], argTypes := #[3, 3] }, 3, _, _, none⟩) (v := ?v23n2k24) rfl (by kernel_rfl) (by kernel_rfl) (by kernel_rfl) (fun _ _ _ h => h) (Or.inl ⟨by rfl, ?y23n2k24⟩) hHeld ?z23n2k24
              case y23n2k24 => intro w hSw; (try dsimp only at hSw); go_simp <;> rfl
              try simp only [Act.put, List.setIfInBounds_toArray, List.set_cons_zero, List.set_cons_succ]
              refine wpAnyT_take (i := 24) (oi := ⟨some 94, Op.slice 9 (Operand.tmp 74) none (some (Operand.tmp 93)) none, 9, _, _, none⟩) (v := ?v24n2k25) rfl (by kernel_rfl) (by kernel_rfl) (by kernel_rfl) (fun _ _ _ h => h) (Or.inl ⟨by rfl, ?y24n2k25⟩) hHeld ?z24n2k25
              case y24n2k25 => intro w hSw; (try dsimp only at hSw); go_simp <;> rfl
              try simp only [Act.put, List.setIfInBounds_toArray, List.set_cons_zero, List.set_cons_succ]
              refine wpAnyT_take (i := 25) (oi := ⟨some 95, Op.nilCheck (Operand.tmp 70), 0, _, _, none⟩) (v := ?v25n2k26) rfl (by kernel_rfl) (by kernel_rfl) (by kernel_rfl) (fun _ _ _ h => h) (Or.inl ⟨by rfl, ?y25n2k26⟩) hHeld ?z25n2k26
              case y25n2k26 => intro w hSw; (try dsimp only at hSw); go_simp <;> rfl
              try simp only [Act.put, List.setIfInBounds_toArray, List.set_cons_zero, List.set_cons_succ]
              refine wpAnyT_take (i := 26) (oi := ⟨some 96, Op.fieldAddr 48 (Operand.tmp 95) 0, 0, _, _, none⟩) (v := ?v26n2k27) rfl (by kernel_rfl) (by kernel_rfl) (by kernel_rfl) (fun _ _ _ h => h) (Or.inl ⟨by rfl, ?y26n2k27⟩) hHeld ?z26n2k27
              case y26n2k27 => intro w hSw; (try dsimp only at hSw); go_simp <;> rfl
              try simp only [Act.put, List.setIfInBounds_toArray, List.set_cons_zero, List.set_cons_succ]
              refine wpAnyT_done (by kernel_rfl) ?_
              simp only [List.drop_succ_cons, List.drop_zero]
              have kd := Kept.drew (fun i => i = gf) w2
              have hfbd := (Kept.drew noBlock w2).blk HFB.out (fun h => h)
              clear hHeld q0 q1 e1 e1' e2 e2' e3 e3' e4
              generalize w2.drew = w3 at hfbd kd ⊢
              have y0 : w3.cell? ⟨gf, 0, none⟩ = some (.string (str l.data)) := cell_of_row _ _ _ _ _ _ hfbd
              have yf0 : w3.frozen? ⟨gf, 0, none⟩ = false := frozen_of_row _ _ _ _ _ hfbd
              go_wp2_with fail
              refine NoPanic.normal ?_
              have k4 : Kept (fun i => i = gf) w2 (w3.setCell ⟨gf, 0, none⟩ (.string ((str l.data).extract 0 nw))) := kd.step (Kept.setCell w3 (by rfl) _)
              have b4 := heap_setCell_same w3 gf 0 _ 48 (.string ((str l.data).extract 0 nw)) hfbd
              clear hfbd kd y0 yf0
              generalize w3.setCell ⟨gf, 0, none⟩ (.string ((str l.data).extract 0 nw)) = w4 at k4 b4 ⊢
              have x0 : w4.cell? ⟨gf, 0, none⟩ = some (.string ((str l.data).extract 0 nw)) := cell_of_row _ _ _ _ _ _ b4
              have x1 : w4.cell? ⟨gf, 1, none⟩ = some (.int .i64 (sf : Int)) := cell_of_row _ _ _ _ _ _ b4
              have xf1 : w4.frozen? ⟨gf, 1, none⟩ = false := frozen_of_row _ _ _ _ _ b4
              have k5 : Kept (fun i => i = gf) w2 (w4.setCell ⟨gf, 1, none⟩ (.int .i64 (nw : Int))) := k4.step (Kept.setCell w4 (by rfl) _)
              have b5 := heap_setCell_same w4 gf 1 _ 48 (.int .i64 (nw : Int)) b4
              have hgo : gf < o := by have h9 := HGL.out f HKF.out; rw [HGF.out] at h9; omega
              have HD5 := Lib.hid (k5.blk HD2.out (fun e => by omega))
              have hcells5 : ∀ f', K f' → isCells (w4.setCell ⟨gf, 1, none⟩ (.int .i64 (nw : Int))) (g f') := fun f' hK' => by
                by_cases e : g f' = gf
                · rw [e]; exact ⟨_, _, b5⟩
                · obtain ⟨l', hl'⟩ := Option.isSome_iff_exists.1 (under_fl_some (N := NN) (b := bytes.toNat) (left := left) (H.out.kfl f' hK'))
                  exact ⟨_, _, k5.blk (HF2.out f' l' hK' hl') e⟩
              have HP5 : Hid (Ptrs (w4.setCell ⟨gf, 1, none⟩ (.int .i64 (nw : Int))) es.toList) := Lib.hid fun e he => by
                obtain ⟨h1, f', hK', h2, _⟩ := HE.out e he
                exact ⟨h1, _, h2, hcells5 f' hK'⟩
              have HC5 : Hid (isCells (w4.setCell ⟨gf, 1, none⟩ (.int .i64 (nw : Int))) gf) := Lib.hid ⟨_, _, b5⟩
              have K5 := Lib.hid k5
              have B5 := Lib.hid b5
              clear k4 b4 k5 b5 hcells5
              go_wp2_with (at_mapUpdate; refine wpList_comes rfl _ _ _ rfl o es clock rfl HD5.out HP5.out gf HC5.out rfl rfl HNO.out ?_)
              intro w6 es6 clock6 hD6 hes6 k6
              have kk6 : Kept (fun i => i = gf ∨ i = o) w2 w6 := (K5.out.mono (fun _ _ h => .inl h)).trans k6 (fun _ _ h => .inr h)
              have hst := under_step (fun f l hf => (H.out.ok.fl_len f l hf).2) HND.out HQ.out HFL.out
              have HF6 : Hid (∀ f' l', K f' → (S.under NN bytes.toNat fun z => left z && !z.sameKey (.string qs)).fl f' = some l' → w6.heap[g f']? = some (.cells #[.string (str l'.data), .int .i64 l'.safe] 48 (0, 0))) := Lib.hid fun f' l' hK' hl' => by
                rw [← hst] at hl'
                by_cases e : f' = f
                · subst e
                  simp [St.setFl] at hl'
                  subst hl'
                  rw [HGF.out, HBK.out, k6.blk B5.out (fun e => by omega)]
                  simp only [← str_extract]
                  rfl
                · simp [St.setFl, e] at hl'
                  exact kk6.blk (HF2.out f' l' hK' hl') (by
                    rintro (e9 | e9)
                    · exact e (H.out.inj f' f hK' HKF.out (by rw [HGF.out]; exact e9))
                    · have := HGL.out f' hK'
                      omega)
              have HE6 : Hid (∀ e ∈ es6.toList, e.val = .bool true ∧ ∃ f, K f ∧ e.key = ptrB (g f) ∧ Dir.came NN (fun z => left z && !z.sameKey (.string qs)) f = true) := Lib.hid fun e he => by
                rcases hes6 e (by simpa using he) with h9 | ⟨h9, h8⟩
                · obtain ⟨h1, f2, h2, h3, h4⟩ := HE.out e (by simpa using h9)
                  refine ⟨h1, f2, h2, h3, ?_⟩
                  rw [came_step HND.out HQ.out, h4]
                  rfl
                · refine ⟨h8, f, HKF.out, by rw [HGF.out]; exact h9, ?_⟩
                  rw [came_step HND.out HQ.out]
                  simp
              have hR6 := HR2.out.keep kk6 (fun h9 => h9.elim (HR2.out.nm.ne HFB.out) (fun e => by omega)) (fun h9 => h9.elim (HR2.out.ne HFB.out) (fun e => by omega))
              have HR6 := Lib.hid hR6
              have HM6 := Lib.hid (show w6.rangeLeft mk (o + 1) = cnt2 from World.ranges.left_eq hR6)
              have HD6 := Lib.hid hD6
              have KW6 := Lib.hid (KW2.out.trans kk6 (fun i hi h9 => h9.elim (fun e => .inr ⟨f, HKF.out, by rw [HGF.out]; exact e⟩) (fun e => by omega)))
              clear hD6 hes6 k6 kk6 hst hR6
              go_wp2
              go_roundw
              case rel => exact ⟨_, cnt2, es6, clock6, HR6, HD6, HE6, HF6, KW6⟩
              case measure => rw [HM6.out, HM3.out]; exact hlt2
    · have hdec1 : decide ((k : Int) < (pn : Int)) = false := by simp; omega
      have htk : S.names names.toNat = Dir.after S.safe (S.pend.take k) := by
        unfold St.names
        congr 1
        have hkp : k = S.pend.length := by rw [← HPN.out]; omega
        rw [List.take_of_length_le (by omega), List.take_of_length_le (by omega)]
      obtain ⟨NN, hNN⟩ : ∃ NN, NN = Dir.after S.safe (S.pend.take k) := ⟨_, rfl⟩
      have HKN : Hid (∀ p ∈ NN, K p.2) := Lib.hid (by rw [hNN]; exact hkNN.out k)
      have HNL : Hid ((NN.re g).length < 1000000000) := by
        show _ < _
        rw [Dir.re_len, hNN]
        have h1 := Dir.after_len (S.pend.take k) S.safe
        rw [List.length_take] at h1
        have := hsl.out
        omega
      rw [← hNN] at HK htk
      have HTK := Lib.hid htk
      have HND : Hid (NN.Pairwise fun p q => p.1 ≠ q.1) := Lib.hid (by
        have h9 := HK.out.nodup
        unfold Dir.re at h9
        rw [List.pairwise_map] at h9
        exact h9)
      have hmr := kk.blk HMB.out hmk.out
      have kD := Kept.alloc noBlock wr (.map #[] 0)
      have s1 : (wr.alloc (.map #[] 0)).cell? ⟨m, 1, none⟩ = some (.map (some mk)) := cell_of_row _ _ _ _ _ _ (kD.blk hmr (fun h => h))
      have HNd := Lib.hid (HK.out.keep kD (fun _ _ h => h))
      have hDn := heap_alloc_new wr (.map #[] 0)
      obtain ⟨o, ho⟩ : ∃ o, o = wr.heap.size := ⟨_, rfl⟩
      have hwo : w.heap.size ≤ o := by rw [ho]; exact kk.size
      have hmko : mk < o := by rw [ho]; exact HK.out.lt
      have hDn' : (wr.alloc (.map #[] 0)).heap[o]? = some (.map #[] 0) := by rw [ho]; exact hDn
      have HDn := Lib.hid hDn'
      have hosz : (wr.alloc (.map #[] 0)).heap.size = o + 1 := by rw [ho]; simp
      have KD := Lib.hid (show Kept (fun i => i = mk ∨ ∃ f, K f ∧ i = g f) w (wr.alloc (.map #[] 0)) from (kk.mono (fun _ _ h => .inl h)).trans kD (fun _ _ h => h.elim))
      have hF0 : Hid (∀ f l, K f → S.fl f = some l → (wr.alloc (.map #[] 0)).heap[g f]? = some (.cells #[.string (str l.data), .int .i64 l.safe] 48 (0, 0))) :=
        Lib.hid fun f l hK hl => kD.blk (kk.blk (H.out.fil f l hK hl) (fun e => H.out.kept.ne (H.out.fil f l hK hl) e.symm)) (fun h => h)
      have hmm := @run_makeMap Try.prog
      have HO := Lib.hid ho
      clear hNN htk hmr kD hDn hDn' kk HK ho
      go_wp2_with (at_range; refine wpList_mrange rfl _ 27 44 rfl Try.underlying27 mk (NN.re g) rfl HNd.out ?_)
      rw [← HO.out]
      generalize wr.alloc (.map #[] 0) = wD at s1 HNd HDn KD hF0 hosz ⊢
      intro w1 left0 hrg0 hst0 k1 hs1
      have HR0 := Lib.hid hrg0
      have hcame0 : ∀ f, Dir.came NN left0 f = false := came_all (by
        have h9 := hst0
        rw [still_re] at h9
        unfold Dir.still at h9 ⊢
        rw [List.filter_eq_self]
        intro p hp
        have h8 := congrArg List.length h9
        rw [Dir.re_len, Dir.re_len] at h8
        exact (List.filter_eq_self.1 (List.filter_sublist.eq_of_length h8)) p hp)
      have hu0 : (S.under NN bytes.toNat left0).fl = S.fl := by
        unfold St.under
        simp only [hcame0, Bool.false_eq_true, if_false]
      have hF1 : Hid (∀ f l, K f → (S.under NN bytes.toNat left0).fl f = some l → w1.heap[g f]? = some (.cells #[.string (str l.data), .int .i64 l.safe] 48 (0, 0))) := Lib.hid fun f l hK hl => k1.blk (hF0.out f l hK (by rw [← hu0]; exact hl)) (fun h => h)
      have HD1 := Lib.hid (k1.blk HDn.out (fun h => h))
      have KW1 := Lib.hid (KD.out.trans k1 (fun _ _ h => h.elim))
      clear hrg0 hst0 k1 hs1 hcame0 hu0 s1 hmm hosz
      go_wp2
      go_loopw [62] (fun _ wr => ∃ (left : Lit → Bool) (cnt : Nat) (es : Array MapEntry) (clock : Nat), Hid (Rng wr mk (o + 1) (NN.re g) left cnt) ∧ Hid (wr.heap[o]? = some (.map es clock)) ∧ Hid (∀ e ∈ es.toList, e.val = .bool true ∧ ∃ f, K f ∧ e.key = ptrB (g f) ∧ Dir.came NN left f = true) ∧ Hid (∀ f l, K f → (S.under NN bytes.toNat left).fl f = some l → wr.heap[g f]? = some (.cells #[.string (str l.data), .int .i64 l.safe] 48 (0, 0))) ∧ Hid (Kept (fun i => i = mk ∨ ∃ f, K f ∧ i = g f) w wr)) (fun _ wr => wr.rangeLeft mk (o + 1))
      case atStart => exact ⟨left0, (NN.re g).length, #[], 0, HR0, HD1, Lib.hid (fun e he => by simp at he), hF1, KW1⟩
      case round =>
        obtain ⟨left, cnt, es, clock, HR, HD, HE, HFi, KW⟩ := hrel
        go_wp2_with (at_next; refine wpList_mnext rfl _ rfl mk (o + 1) (NN.re g) left cnt rfl HR.out ?_ ?_)
        · intro hdone
          have hst : Dir.still NN left = [] := by
            rw [still_re] at hdone
            unfold Dir.re at hdone
            simpa using hdone
          have hufl : ∀ f, (S.restart names bytes).fl f = (S.under NN bytes.toNat left).fl f := fun f => by
            unfold St.restart St.under
            rw [HTK.out]
            simp only [came_none hst]
          have hGl : ∀ f, K f → g f ≠ m := fun f hf => by
            obtain ⟨l, hfl⟩ := Option.isSome_iff_exists.1 (H.out.kfl f hf)
            exact blk_ne (H.out.fil f l hf hfl) H.out.blk (by decide)
          have hmw := KW.out.blk HMB.out (fun h9 => h9.elim hmk.out (fun ⟨f, hf, e⟩ => hGl f hf e.symm))
          have s1 : wr.cell? ⟨m, 1, none⟩ = some (.map (some mk)) := cell_of_row _ _ _ _ _ _ hmw
          have HMW := Lib.hid hmw
          have HUF := Lib.hid hufl
          have hwsz : Hid (w.heap.size ≤ wr.heap.size) := Lib.hid KW.out.size
          clear hdone hst hufl hGl hmw
          go_wp2_with fail
          refine (copied_any mk (NN.re g) wr HR.out.nm HNL.out).mono ?_
          rintro e w3 ⟨b', rfl, hN3, k3, hb3⟩
          have hm3 := k3.blk HMW.out (fun h => h)
          have z0 : w3.cell? ⟨m, 0, none⟩ = some (.map (some mn)) := cell_of_row _ _ _ _ _ _ hm3
          have z2 : w3.cell? ⟨m, 2, none⟩ = some (.slice A pn c) := cell_of_row _ _ _ _ _ _ hm3
          have z3 : w3.cell? ⟨m, 3, none⟩ = some (.slice A' pn c') := cell_of_row _ _ _ _ _ _ hm3
          have z5 : w3.cell? ⟨m, 5, none⟩ = some (.int .i64 stop) := cell_of_row _ _ _ _ _ _ hm3
          have z6 : w3.cell? ⟨m, 6, none⟩ = some (.bool S.down) := cell_of_row _ _ _ _ _ _ hm3
          have zf0 : w3.frozen? ⟨m, 0, none⟩ = false := frozen_of_row _ _ _ _ _ hm3
          have zf2 : w3.frozen? ⟨m, 2, none⟩ = false := frozen_of_row _ _ _ _ _ hm3
          have zf3 : w3.frozen? ⟨m, 3, none⟩ = false := frozen_of_row _ _ _ _ _ hm3
          have zf5 : w3.frozen? ⟨m, 5, none⟩ = false := frozen_of_row _ _ _ _ _ hm3
          have zf6 : w3.frozen? ⟨m, 6, none⟩ = false := frozen_of_row _ _ _ _ _ hm3
          have kG : Kept G w w3 := (KW.out.trans k3 (fun _ _ h => h.elim)).mono (fun i _ h9 => h9.elim (fun e => e ▸ H.out.gk) (fun ⟨f, hf, e⟩ => e ▸ H.out.gfil f hf))
          have R := Lib.hid (H.out.back (S' := S.restart names bytes) (N := NN) kG (by rw [hm3, HPN.out]; rfl) (HR.out.nm.keep k3 (fun _ _ h => h)) hN3 (Nat.le_trans hwsz.out hb3) (fun f l hK hl => k3.blk (HFi.out f l hK (by rw [← HUF.out f]; exact hl)) (fun h => h)) HTK.out HTK.out rfl rfl rfl rfl rfl HKN.out
            (fun f hK => by rw [HUF.out f]; exact under_fl_some (H.out.kfl f hK)) HOK.out)
          clear hm3 hN3 k3 hb3 kG s1
          go_wp2
          go_end0
          exact ⟨rfl, R.out.1, R.out.2⟩
        · intro s gf w2 cnt2 hmem hl hsl2 hrg2 hlt2 k2 hsz2 hen
          obtain ⟨q, hq, hqe⟩ := (Dir.mem_re NN g (s, gf)).1 hmem
          obtain ⟨qs, f⟩ := q
          have hqs : qs = s := by injection hqe
          have hgf : g f = gf := by injection hqe
          subst hqs
          have hKf : K f := HKN.out _ hq
          obtain ⟨l, hfl⟩ := Option.isSome_iff_exists.1 (under_fl_some (N := NN) (b := bytes.toNat) (left := left) (H.out.kfl f hKf))
          have hos := under_safe H.out.ok hfl
          have hGl : ∀ f, K f → g f < w.heap.size := fun f hf => H.out.lt _ (H.out.gfil f hf)
          have hF2 : ∀ f l, K f → (S.under NN bytes.toNat left).fl f = some l → w2.heap[g f]? = some (.cells #[.string (str l.data), .int .i64 l.safe] 48 (0, 0)) := fun f l hK hl => k2.blk (HFi.out f l hK hl) (fun e => by have := hGl f hK; omega)
          have hcell : ∀ f, K f → isCells w2 (g f) := fun f hK => by
            obtain ⟨l, hfl⟩ := Option.isSome_iff_exists.1 (under_fl_some (N := NN) (b := bytes.toNat) (left := left) (H.out.kfl f hK))
            exact ⟨_, _, hF2 f l hK hfl⟩
          have hD2 := k2.blk HD.out (fun e => by omega)
          have hP2 : Ptrs w2 es.toList := fun e he => by
            obtain ⟨h1, f', hK', h2, _⟩ := HE.out e he
            exact ⟨h1, _, h2, hcell f' hK'⟩
          have hci := hcell f hKf
          rw [hgf] at hci
          have KW2 := Lib.hid (show Kept (fun i => i = mk ∨ ∃ f, K f ∧ i = g f) w w2 from KW.out.trans k2 (fun i hi e => by omega))
          have HM3 := Lib.hid (show wr.rangeLeft mk (o + 1) = cnt from World.ranges.left_eq HR.out)
          have HM2 := Lib.hid (show w2.rangeLeft mk (o + 1) = cnt2 from World.ranges.left_eq hrg2)
          have HR2 := Lib.hid hrg2
          have HF2 := Lib.hid hF2
          have HD2 := Lib.hid hD2
          have HP2 := Lib.hid hP2
          have HCI := Lib.hid hci
          have HQ := Lib.hid hq
          have HGF := Lib.hid hgf
          have HFL := Lib.hid hfl
          have HOS := Lib.hid hos
          have HKF := Lib.hid hKf
          have HGL := Lib.hid hGl
          clear hmem hl hrg2 k2 hsz2 hqe hq hgf hKf hfl hos hF2 hcell hD2 hP2 hci hGl
          go_wp2_with (at_lookup; refine wpList_came rfl _ _ rfl o es clock rfl HD2.out HP2.out gf HCI.out rfl ?_ ?_)
          · intro hyes
            obtain ⟨e, he, hke⟩ := hyes.out
            obtain ⟨_, f', hK', hk', hc'⟩ := HE.out e (by simpa using he)
            have hff : f' = f := by
              rw [hk'] at hke
              simp only [ptrB, Value.pointer.injEq, Option.some.injEq, Addr.mk.injEq, and_true] at hke
              exact H.out.inj f' f hK' HKF.out (by rw [HGF.out]; exact hke)
            subst hff
            have hsame := under_same (S := S) (b := bytes.toNat) HND.out HQ.out hc'
            have HF3 := HF2
            rw [← hsame] at HF3
            have HE3 : Hid (∀ e ∈ es.toList, e.val = .bool true ∧ ∃ f, K f ∧ e.key = ptrB (g f) ∧ Dir.came NN (fun z => left z && !z.sameKey (.string qs)) f = true) := Lib.hid fun e he => by
              obtain ⟨h1, f2, h2, h3, h4⟩ := HE.out e he
              refine ⟨h1, f2, h2, h3, ?_⟩
              rw [came_step HND.out HQ.out, h4]
              rfl
            clear hsame hke hk' hc' he hyes
            go_wp2
            go_roundw
            case rel => exact ⟨_, cnt2, es, clock, HR2, HD2, HE3, HF3, KW2⟩
            case measure => rw [HM2.out, HM3.out]; exact hlt2
          · intro hno
            have HNO : Hid (∀ e ∈ es.toList, e.key ≠ ptrB gf) := Lib.hid fun e he => hno.out e (by simpa using he)
            have hfb := HF2.out f l HKF.out HFL.out
            rw [HGF.out] at hfb
            obtain ⟨ll, hll⟩ : ∃ ll, l.data.length = ll := ⟨_, rfl⟩
            obtain ⟨sf, hsf⟩ : ∃ sf, l.safe = sf := ⟨_, rfl⟩
            rw [hsf] at hfb
            have hsz : (str l.data).size = ll := by rw [str_size, hll]
            have hos := HOS.out
            rw [hll, hsf] at hos
            obtain ⟨t1, ht1⟩ : ∃ t1 : Int, t1 = min bytes (ll : Int) := ⟨_, rfl⟩
            obtain ⟨t2, ht2⟩ : ∃ t2 : Nat, t2 = (max 0 t1).toNat := ⟨_, rfl⟩
            obtain ⟨nw, hnw⟩ : ∃ nw : Nat, nw = min ll (sf + t2) := ⟨_, rfl⟩
            have e1 : (if (ll : Int) < bytes then (ll : Int) else bytes) = t1 := by split <;> omega
            have e1' : min bytes (ll : Int) = t1 := by omega
            have e2 : (if (0 : Int) < t1 then t1 else 0) = (t2 : Int) := by split <;> omega
            have e2' : max 0 t1 = (t2 : Int) := by omega
            have e3 : (if (sf : Int) + (t2 : Int) < (ll : Int) then (sf : Int) + (t2 : Int) else (ll : Int)) = (nw : Int) := by split <;> omega
            have e3' : min (ll : Int) ((sf : Int) + (t2 : Int)) = (nw : Int) := by omega
            have ht2b : t2 ≤ 1000000000 := by omega
            have hnwl : nw ≤ ll := by omega
            have e4 : IntKind.i64.wrap ((sf : Int) + (t2 : Int)) = (sf : Int) + (t2 : Int) := wrap_small (by omega) (by omega)
            have hback : l.back bytes.toNat = ⟨l.data.take nw, nw⟩ := by
              have h9 : l.safe + min bytes.toNat (l.data.length - l.safe) = nw := by rw [hll, hsf]; omega
              unfold Fl.back
              rw [h9]
            have hexs : ((str l.data).extract 0 nw).size = nw := by
              rw [str_extract, str_size, List.length_take, hll]
              omega
            have q0 : w2.cell? ⟨gf, 0, none⟩ = some (.string (str l.data)) := cell_of_row _ _ _ _ _ _ hfb
            have q1 : w2.cell? ⟨gf, 1, none⟩ = some (.int .i64 (sf : Int)) := cell_of_row _ _ _ _ _ _ hfb
            have HBK := Lib.hid hback
            have HFB := Lib.hid hfb
            clear hno hll hsf ht1 ht2 hnw hback hfb
            go_upto_region 13 with (fail)
            refine wp_region_noPanic ?_
            refine wp_region_any_drew (by kernel_rfl) ?_
            refine wpAny_tail (S := fun w' => w'.cell? ⟨gf, 0, none⟩ = some (.string (str l.data)) ∧ w'.cell? ⟨gf, 1, none⟩ = some (.int .i64 (sf : Int))) 27 27 ⟨q0, q1⟩ (fun hHeld => ?_)
            refine wpAnyT_take (i := 0) (oi := ⟨some 70, Op.move (Operand.tmp 11), 44, _, _, none⟩) (v := ?v0n3k1) rfl (by kernel_rfl) (by kernel_rfl) (by kernel_rfl) (fun _ _ _ h => h) (Or.inl ⟨by rfl, ?y0n3k1⟩) hHeld ?z0n3k1
            case y0n3k1 => intro w hSw; (try dsimp only at hSw); go_simp <;> rfl
            try simp only [Act.put, List.setIfInBounds_toArray, List.set_cons_zero, List.set_cons_succ]
            refine wpAnyT_take (i := 1) (oi := ⟨some 71, Op.move (Operand.tmp 11), 44, _, _, none⟩) (v := ?v1n3k2) rfl (by kernel_rfl) (by kernel_rfl) (by kernel_rfl) (fun _ _ _ h => h) (Or.inl ⟨by rfl, ?y1n3k2⟩) hHeld ?z1n3k2
            case y1n3k2 => intro w hSw; (try dsimp only at hSw); go_simp <;> rfl
            try simp only [Act.put, List.setIfInBounds_toArray, List.set_cons_zero, List.set_cons_succ]
            refine wpAnyT_take (i := 2) (oi := ⟨some 72, Op.nilCheck (Operand.tmp 71), 0, _, _, none⟩) (v := ?v2n3k3) rfl (by kernel_rfl) (by kernel_rfl) (by kernel_rfl) (fun _ _ _ h => h) (Or.inl ⟨by rfl, ?y2n3k3⟩) hHeld ?z2n3k3
            case y2n3k3 => intro w hSw; (try dsimp only at hSw); go_simp <;> rfl
            try simp only [Act.put, List.setIfInBounds_toArray, List.set_cons_zero, List.set_cons_succ]
            refine wpAnyT_take (i := 3) (oi := ⟨some 73, Op.fieldAddr 48 (Operand.tmp 72) 0, 0, _, _, none⟩) (v := ?v3n3k4) rfl (by kernel_rfl) (by kernel_rfl) (by kernel_rfl) (fun _ _ _ h => h) (Or.inl ⟨by rfl, ?y3n3k4⟩) hHeld ?z3n3k4
            case y3n3k4 => intro w hSw; (try dsimp only at hSw); go_simp <;> rfl
            try simp only [Act.put, List.setIfInBounds_toArray, List.set_cons_zero, List.set_cons_succ]
            refine wpAnyT_take (i := 4) (oi := ⟨some 74, Op.load 9 (Operand.tmp 73), 9, _, _, none⟩) (v := ?v4n3k5) rfl (by kernel_rfl) (by kernel_rfl) (by kernel_rfl) (fun _ _ _ h => h) (Or.inl ⟨by rfl, ?y4n3k5⟩) hHeld ?z4n3k5
            case y4n3k5 => intro w hSw; (try dsimp only at hSw); go_simp <;> rfl
            try simp only [Act.put, List.setIfInBounds_toArray, List.set_cons_zero, List.set_cons_succ]
            refine wpAnyT_take (i := 5) (oi := ⟨some 75, Op.move (Operand.tmp 11), 44, _, _, none⟩) (v := ?v5n3k6) rfl (by kernel_rfl) (by kernel_rfl) (by kernel_rfl) (fun _ _ _ h => h) (Or.inl ⟨by rfl, ?y5n3k6⟩) hHeld ?z5n3k6
            case y5n3k6 => intro w hSw; (try dsimp only at hSw); go_simp <;> rfl
            try simp only [Act.put, List.setIfInBounds_toArray, List.set_cons_zero, List.set_cons_succ]
            refine wpAnyT_take (i := 6) (oi := ⟨some 76, Op.nilCheck (Operand.tmp 75), 0, _, _, none⟩) (v := ?v6n3k7) rfl (by kernel_rfl) (by kernel_rfl) (by kernel_rfl) (fun _ _ _ h => h) (Or.inl ⟨by rfl, ?y6n3k7⟩) hHeld ?z6n3k7
            case y6n3k7 => intro w hSw; (try dsimp only at hSw); go_simp <;> rfl
            try simp only [Act.put, List.setIfInBounds_toArray, List.set_cons_zero, List.set_cons_succ]
            refine wpAnyT_take (i := 7) (oi := ⟨some 77, Op.fieldAddr 48 (Operand.tmp 76) 0, 0, _, _, none⟩) (v := ?v7n3k8) rfl (by kernel_rfl) (by kernel_rfl) (by kernel_rfl) (fun _ _ _ h => h) (Or.inl ⟨by rfl, ?y7n3k8⟩) hHeld ?z7n3k8
            case y7n3k8 => intro w hSw; (try dsimp only at hSw); go_simp <;> rfl
            try simp only [Act.put, List.setIfInBounds_toArray, List.set_cons_zero, List.set_cons_succ]
            refine wpAnyT_take (i := 8) (oi := ⟨some 78, Op.load 9 (Operand.tmp 77), 9, _, _, none⟩) (v := ?v8n3k9) rfl (by kernel_rfl) (by kernel_rfl) (by kernel_rfl) (fun _ _ _ h => h) (Or.inl ⟨by rfl, ?y8n3k9⟩) hHeld ?z8n3k9
            case y8n3k9 => intro w hSw; (try dsimp only at hSw); go_simp <;> rfl
            try simp only [Act.put, List.setIfInBounds_toArray, List.set_cons_zero, List.set_cons_succ]
            refine wpAnyT_take (i := 9) (oi := ⟨some 79, Op.call { callee := Callee.builtin Builtin.len, args := #[Operand.tmp 78], argTypes := #[9] }, 3, _, _, none⟩) (v := ?v9n3k10) rfl (by kernel_rfl) (by kernel_rfl) (by kernel_rfl) (fun _ _ _ h => h) (Or.inl ⟨by rfl, ?y9n3k10⟩) hHeld ?z9n3k10
            case y9n3k10 => intro w hSw; (try dsimp only at hSw); go_simp <;> rfl
            try simp only [Act.put, List.setIfInBounds_toArray, List.set_cons_zero, List.set_cons_succ]
            refine wpAnyT_take (i := 10) (oi := ⟨some 80, Op.move (Operand.tmp 11), 44, _, _, none⟩) (v := ?v10n3k11) rfl (by kernel_rfl) (by kernel_rfl) (by kernel_rfl) (fun _ _ _ h => h) (Or.inl ⟨by rfl, ?y10n3k11⟩) hHeld ?z10n3k11
            case y10n3k11 => intro w hSw; (try dsimp only at hSw); go_simp <;> rfl
            try simp only [Act.put, List.setIfInBounds_toArray, List.set_cons_zero, List.set_cons_succ]
            refine wpAnyT_take (i := 11) (oi := ⟨some 81, Op.nilCheck (Operand.tmp 80), 0, _, _, none⟩) (v := ?v11n3k12) rfl (by kernel_rfl) (by kernel_rfl) (by kernel_rfl) (fun _ _ _ h => h) (Or.inl ⟨by rfl, ?y11n3k12⟩) hHeld ?z11n3k12
            case y11n3k12 => intro w hSw; (try dsimp only at hSw); go_simp <;> rfl
            try simp only [Act.put, List.setIfInBounds_toArray, List.set_cons_zero, List.set_cons_succ]
            refine wpAnyT_take (i := 12) (oi := ⟨some 82, Op.fieldAddr 48 (Operand.tmp 81) 1, 0, _, _, none⟩) (v := ?v12n3k13) rfl (by kernel_rfl) (by kernel_rfl) (by kernel_rfl) (fun _ _ _ h => h) (Or.inl ⟨by rfl, ?y12n3k13⟩) hHeld ?z12n3k13
            case y12n3k13 => intro w hSw; (try dsimp only at hSw); go_simp <;> rfl
            try simp only [Act.put, List.setIfInBounds_toArray, List.set_cons_zero, List.set_cons_succ]
            refine wpAnyT_take (i := 13) (oi := ⟨some 83, Op.load 3 (Operand.tmp 82), 3, _, _, none⟩) (v := ?v13n3k14) rfl (by kernel_rfl) (by kernel_rfl) (by kernel_rfl) (fun _ _ _ h => h) (Or.inl ⟨by rfl, ?y13n3k14⟩) hHeld ?z13n3k14
            case y13n3k14 => intro w hSw; (try dsimp only at hSw); go_simp <;> rfl
            try simp only [Act.put, List.setIfInBounds_toArray, List.set_cons_zero, List.set_cons_succ]
            refine wpAnyT_take (i := 14) (oi := ⟨some 84, Op.move (Operand.tmp 2), 3, _, _, none⟩) (v := ?v14n3k15) rfl (by kernel_rfl) (by kernel_rfl) (by kernel_rfl) (fun _ _ _ h => h) (Or.inl ⟨by rfl, ?y14n3k15⟩) hHeld ?z14n3k15
            case y14n3k15 => intro w hSw; (try dsimp only at hSw); go_simp <;> rfl
            try simp only [Act.put, List.setIfInBounds_toArray, List.set_cons_zero, List.set_cons_succ]
            refine wpAnyT_take (i := 15) (oi := ⟨some 85, Op.move (Operand.tmp 11), 44, _, _, none⟩) (v := ?v15n3k16) rfl (by kernel_rfl) (by kernel_rfl) (by kernel_rfl) (fun _ _ _ h => h) (Or.inl ⟨by rfl, ?y15n3k16⟩) hHeld ?z15n3k16
            case y15n3k16 => intro w hSw; (try dsimp only at hSw); go_simp <;> rfl
            try simp only [Act.put, List.setIfInBounds_toArray, List.set_cons_zero, List.set_cons_succ]
            refine wpAnyT_take (i := 16) (oi := ⟨some 86, Op.nilCheck (Operand.tmp 85), 0, _, _, none⟩) (v := ?v16n3k17) rfl (by kernel_rfl) (by kernel_rfl) (by kernel_rfl) (fun _ _ _ h => h) (Or.inl ⟨by rfl, ?y16n3k17⟩) hHeld ?z16n3k17
            case y16n3k17 => intro w hSw; (try dsimp only at hSw); go_simp <;> rfl
            try simp only [Act.put, List.setIfInBounds_toArray, List.set_cons_zero, List.set_cons_succ]
            refine wpAnyT_take (i := 17) (oi := ⟨some 87, Op.fieldAddr 48 (Operand.tmp 86) 0, 0, _, _, none⟩) (v := ?v17n3k18) rfl (by kernel_rfl) (by kernel_rfl) (by kernel_rfl) (fun _ _ _ h => h) (Or.inl ⟨by rfl, ?y17n3k18⟩) hHeld ?z17n3k18
            case y17n3k18 => intro w hSw; (try dsimp only at hSw); go_simp <;> rfl
            try simp only [Act.put, List.setIfInBounds_toArray, List.set_cons_zero, List.set_cons_succ]
            refine wpAnyT_take (i := 18) (oi := ⟨some 88, Op.load 9 (Operand.tmp 87), 9, _, _, none⟩) (v := ?v18n3k19) rfl (by kernel_rfl) (by kernel_rfl) (by kernel_rfl) (fun _ _ _ h => h) (Or.inl ⟨by rfl, ?y18n3k19⟩) hHeld ?z18n3k19
            case y18n3k19 => intro w hSw; (try dsimp only at hSw); go_simp <;> rfl
            try simp only [Act.put, List.setIfInBounds_toArray, List.set_cons_zero, List.set_cons_succ]
            refine wpAnyT_take (i := 19) (oi := ⟨some 89, Op.call { callee := Callee.builtin Builtin.len, args := #[Operand.tmp 88], argTypes := #[9] }, 3, _, _, none⟩) (v := ?v19n3k20) rfl (by kernel_rfl) (by kernel_rfl) (by kernel_rfl) (fun _ _ _ h => h) (Or.inl ⟨by rfl, ?y19n3k20⟩) hHeld ?z19n3k20
            case y19n3k20 => intro w hSw; (try dsimp only at hSw); go_simp <;> rfl
            try simp only [Act.put, List.setIfInBounds_toArray, List.set_cons_zero, List.set_cons_succ]
            refine wpAnyT_take (i := 20) (oi := ⟨some 90, Op.call { callee := Callee.builtin Builtin.min, args := #[Operand.tmp 84, Operand.tmp 89], argTypes := #[3, 3] }, 3, _, _, none⟩) (v := ?v20n3k21) rfl (by kernel_rfl) (by kernel_rfl) (by kernel_rfl) (fun _ _ _ h => h) (Or.inl ⟨by rfl, ?y20n3k21⟩) hHeld ?z20n3k21
            case y20n3k21 => intro w hSw; (try dsimp only at hSw); go_simp <;> rfl
            try simp only [Act.put, List.setIfInBounds_toArray, List.set_cons_zero, List.set_cons_succ]
            refine wpAnyT_take (i := 21) (oi := ⟨some 91, Op.call { callee := Callee.builtin Builtin.max, args := #[Operand.const (Value.int IntKind.i64 0), Operand.tmp 90], argTypes := #[3, 3] }, 3, _, _, none⟩) (v := ?v21n3k22) rfl (by kernel_rfl) (by kernel_rfl) (by kernel_rfl) (fun _ _ _ h => h) (Or.inl ⟨by rfl, ?y21n3k22⟩) hHeld ?z21n3k22
            case y21n3k22 => intro w hSw; (try dsimp only at hSw); go_simp <;> rfl
            try simp only [Act.put, List.setIfInBounds_toArray, List.set_cons_zero, List.set_cons_succ]
            refine wpAnyT_take (i := 22) (oi := ⟨some 92, Op.binOp BinOp.add 3 (Operand.tmp 83) (Operand.tmp 91) 3, 3, _, _, none⟩) (v := ?v22n3k23) rfl (by kernel_rfl) (by kernel_rfl) (by kernel_rfl) (fun _ _ _ h => h) (Or.inl ⟨by rfl, ?y22n3k23⟩) hHeld ?z22n3k23
            case y22n3k23 => intro w hSw; (try dsimp only at hSw); go_simp <;> rfl
            try simp only [Act.put, List.setIfInBounds_toArray, List.set_cons_zero, List.set_cons_succ]
            refine wpAnyT_take (i := 23) (oi := ⟨some 93, Op.call { callee := Callee.builtin Builtin.min, args := #[Operand.tmp 79, Operand.tmp 92], argTypes := #[3, 3] }, 3, _, _, none⟩) (v := ?v23n3k24) rfl (by kernel_rfl) (by kernel_rfl) (by kernel_rfl) (fun _ _ _ h => h) (Or.inl ⟨by rfl, ?y23n3k24⟩) hHeld ?z23n3k24
            case y23n3k24 => intro w hSw; (try dsimp only at hSw); go_simp <;> rfl
            try simp only [Act.put, List.setIfInBounds_toArray, List.set_cons_zero, List.set_cons_succ]
            refine wpAnyT_take (i := 24) (oi := ⟨some 94, Op.slice 9 (Operand.tmp 74) none (some (Operand.tmp 93)) none, 9, _, _, none⟩) (v := ?v24n3k25) rfl (by kernel_rfl) (by kernel_rfl) (by kernel_rfl) (fun _ _ _ h => h) (Or.inl ⟨by rfl, ?y24n3k25⟩) hHeld ?z24n3k25
            case y24n3k25 => intro w hSw; (try dsimp only at hSw); go_simp <;> rfl
            try simp only [Act.put, List.setIfInBounds_toArray, List.set_cons_zero, List.set_cons_succ]
            refine wpAnyT_take (i := 25) (oi := ⟨some 95, Op.nilCheck (Operand.tmp 70), 0, _, _, none⟩) (v := ?v25n3k26) rfl (by kernel_rfl) (by kernel_rfl) (by kernel_rfl) (fun _ _ _ h => h) (Or.inl ⟨by rfl, ?y25n3k26⟩) hHeld ?z25n3k26
            case y25n3k26 => intro w hSw; (try dsimp only at hSw); go_simp <;> rfl
            try simp only [Act.put, List.setIfInBounds_toArray, List.set_cons_zero, List.set_cons_succ]
            refine wpAnyT_take (i := 26) (oi := ⟨some 96, Op.fieldAddr 48 (Operand.tmp 95) 0, 0, _, _, none⟩) (v := ?v26n3k27) rfl (by kernel_rfl) (by kernel_rfl) (by kernel_rfl) (fun _ _ _ h => h) (Or.inl ⟨by rfl, ?y26n3k27⟩) hHeld ?z26n3k27
            case y26n3k27 => intro w hSw; (try dsimp only at hSw); go_simp <;> rfl
            try simp only [Act.put, List.setIfInBounds_toArray, List.set_cons_zero, List.set_cons_succ]
            refine wpAnyT_done (by kernel_rfl) ?_
            simp only [List.drop_succ_cons, List.drop_zero]
            have kd := Kept.drew (fun i => i = gf) w2
            have hfbd := (Kept.drew noBlock w2).blk HFB.out (fun h => h)
            clear hHeld q0 q1 e1 e1' e2 e2' e3 e3' e4
            generalize w2.drew = w3 at hfbd kd ⊢
            have y0 : w3.cell? ⟨gf, 0, none⟩ = some (.string (str l.data)) := cell_of_row _ _ _ _ _ _ hfbd
            have yf0 : w3.frozen? ⟨gf, 0, none⟩ = false := frozen_of_row _ _ _ _ _ hfbd
            go_wp2_with fail
            refine NoPanic.normal ?_
            have k4 : Kept (fun i => i = gf) w2 (w3.setCell ⟨gf, 0, none⟩ (.string ((str l.data).extract 0 nw))) := kd.step (Kept.setCell w3 (by rfl) _)
            have b4 := heap_setCell_same w3 gf 0 _ 48 (.string ((str l.data).extract 0 nw)) hfbd
            clear hfbd kd y0 yf0
            generalize w3.setCell ⟨gf, 0, none⟩ (.string ((str l.data).extract 0 nw)) = w4 at k4 b4 ⊢
            have x0 : w4.cell? ⟨gf, 0, none⟩ = some (.string ((str l.data).extract 0 nw)) := cell_of_row _ _ _ _ _ _ b4
            have x1 : w4.cell? ⟨gf, 1, none⟩ = some (.int .i64 (sf : Int)) := cell_of_row _ _ _ _ _ _ b4
            have xf1 : w4.frozen? ⟨gf, 1, none⟩ = false := frozen_of_row _ _ _ _ _ b4
            have k5 : Kept (fun i => i = gf) w2 (w4.setCell ⟨gf, 1, none⟩ (.int .i64 (nw : Int))) := k4.step (Kept.setCell w4 (by rfl) _)
            have b5 := heap_setCell_same w4 gf 1 _ 48 (.int .i64 (nw : Int)) b4
            have hgo : gf < o := by have h9 := HGL.out f HKF.out; rw [HGF.out] at h9; omega
            have HD5 := Lib.hid (k5.blk HD2.out (fun e => by omega))
            have hcells5 : ∀ f', K f' → isCells (w4.setCell ⟨gf, 1, none⟩ (.int .i64 (nw : Int))) (g f') := fun f' hK' => by
              by_cases e : g f' = gf
              · rw [e]; exact ⟨_, _, b5⟩
              · obtain ⟨l', hl'⟩ := Option.isSome_iff_exists.1 (under_fl_some (N := NN) (b := bytes.toNat) (left := left) (H.out.kfl f' hK'))
                exact ⟨_, _, k5.blk (HF2.out f' l' hK' hl') e⟩
            have HP5 : Hid (Ptrs (w4.setCell ⟨gf, 1, none⟩ (.int .i64 (nw : Int))) es.toList) := Lib.hid fun e he => by
              obtain ⟨h1, f', hK', h2, _⟩ := HE.out e he
              exact ⟨h1, _, h2, hcells5 f' hK'⟩
            have HC5 : Hid (isCells (w4.setCell ⟨gf, 1, none⟩ (.int .i64 (nw : Int))) gf) := Lib.hid ⟨_, _, b5⟩
            have K5 := Lib.hid k5
            have B5 := Lib.hid b5
            clear k4 b4 k5 b5 hcells5
            go_wp2_with (at_mapUpdate; refine wpList_comes rfl _ _ _ rfl o es clock rfl HD5.out HP5.out gf HC5.out rfl rfl HNO.out ?_)
            intro w6 es6 clock6 hD6 hes6 k6
            have kk6 : Kept (fun i => i = gf ∨ i = o) w2 w6 := (K5.out.mono (fun _ _ h => .inl h)).trans k6 (fun _ _ h => .inr h)
            have hst := under_step (fun f l hf => (H.out.ok.fl_len f l hf).2) HND.out HQ.out HFL.out
            have HF6 : Hid (∀ f' l', K f' → (S.under NN bytes.toNat fun z => left z && !z.sameKey (.string qs)).fl f' = some l' → w6.heap[g f']? = some (.cells #[.string (str l'.data), .int .i64 l'.safe] 48 (0, 0))) := Lib.hid fun f' l' hK' hl' => by
              rw [← hst] at hl'
              by_cases e : f' = f
              · subst e
                simp [St.setFl] at hl'
                subst hl'
                rw [HGF.out, HBK.out, k6.blk B5.out (fun e => by omega)]
                simp only [← str_extract]
                rfl
              · simp [St.setFl, e] at hl'
                exact kk6.blk (HF2.out f' l' hK' hl') (by
                  rintro (e9 | e9)
                  · exact e (H.out.inj f' f hK' HKF.out (by rw [HGF.out]; exact e9))
                  · have := HGL.out f' hK'
                    omega)
            have HE6 : Hid (∀ e ∈ es6.toList, e.val = .bool true ∧ ∃ f, K f ∧ e.key = ptrB (g f) ∧ Dir.came NN (fun z => left z && !z.sameKey (.string qs)) f = true) := Lib.hid fun e he => by
              rcases hes6 e (by simpa using he) with h9 | ⟨h9, h8⟩
              · obtain ⟨h1, f2, h2, h3, h4⟩ := HE.out e (by simpa using h9)
                refine ⟨h1, f2, h2, h3, ?_⟩
                rw [came_step HND.out HQ.out, h4]
                rfl
              · refine ⟨h8, f, HKF.out, by rw [HGF.out]; exact h9, ?_⟩
                rw [came_step HND.out HQ.out]
                simp
            have hR6 := HR2.out.keep kk6 (fun h9 => h9.elim (HR2.out.nm.ne HFB.out) (fun e => by omega)) (fun h9 => h9.elim (HR2.out.ne HFB.out) (fun e => by omega))
            have HR6 := Lib.hid hR6
            have HM6 := Lib.hid (show w6.rangeLeft mk (o + 1) = cnt2 from World.ranges.left_eq hR6)
            have HD6 := Lib.hid hD6
            have KW6 := Lib.hid (KW2.out.trans kk6 (fun i hi h9 => h9.elim (fun e => .inr ⟨f, HKF.out, by rw [HGF.out]; exact e⟩) (fun e => by omega)))
            clear hD6 hes6 k6 kk6 hst hR6
            go_wp2
            go_roundw
            case rel => exact ⟨_, cnt2, es6, clock6, HR6, HD6, HE6, HF6, KW6⟩
            case measure => rw [HM6.out, HM3.out]; exact hlt2
end Go.Proofs.Ytdcccjkondjhbaa
