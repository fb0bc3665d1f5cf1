/-
  A disk's methods, fourth part: a change of the names. No statement is proved here.
-/
import Derived.Test.YtdcccjkondjhbaaFiles3
namespace Go.Proofs.Ytdcccjkondjhbaa
open Go.RowKit Go.Maps

def St.step (S : St) (x : Chg) : Nat × St :=
  if S.count.1 = 0 then (0, { S.count.2 with cur := Dir.step S.cur x, pend := S.pend ++ [x] }) else S.count
theorem St.count_calls (S : St) : S.count.2.calls = S.calls + 1 := by unfold St.count; split; rfl; split <;> rfl
theorem St.count_cur (S : St) : S.count.2.cur = S.cur := by unfold St.count; split; rfl; split <;> rfl
theorem St.count_safe (S : St) : S.count.2.safe = S.safe := by unfold St.count; split; rfl; split <;> rfl
theorem St.count_pend (S : St) : S.count.2.pend = S.pend := by unfold St.count; split; rfl; split <;> rfl
theorem St.count_fl (S : St) : S.count.2.fl = S.fl := by unfold St.count; split; rfl; split <;> rfl
theorem St.count_vol (S : St) : S.count.2.vol = S.vol := by unfold St.count; split; rfl; split <;> rfl
theorem St.count_err (S : St) : S.count.1 = 0 ∨ S.count.1 = 7 := by unfold St.count; split; simp; split <;> simp

/-- The names turned: a new map. -/
theorem DkR.names {w w1 w3 : World} {F : Nat → Prop} {d : Nat} {S1 S2 : St} {mc ms : Option Nat} {A : Option Addr} {c : Nat} {R : Nat → Option Addr × Nat} {b : Nat} {N : Dir} (h1 : DkR w1 F d S1 mc ms A c R) (k0 : Kept F w w1) (kw : Kept noBlock w1 w3)
    (hb : w1.heap.size ≤ b) (hN : Nm w3 (some b) N) (hS2 : S2 = { S1 with cur := N }) (ok : Ok S2) :
    DkR (w3.setCell ⟨d, 1, none⟩ (.map (some b))) (fun k => F k ∨ fresh w (w3.setCell ⟨d, 1, none⟩ (.map (some b))) k) d S2 (some b) ms A c R ∧ Kept F w (w3.setCell ⟨d, 1, none⟩ (.map (some b))) := by
  have h3 := h1.keep kw (fun _ _ h => h)
  have k3 : Kept (fun i => i = d) w3 (w3.setCell ⟨d, 1, none⟩ (.map (some b))) := Kept.setCell w3 (by rfl) _
  have b3 := heap_setCell_same w3 d 1 _ 57 (.map (some b)) h3.blk
  have hlt3 := hN.lt
  have h4 : DkR w3 (fun k => F k ∨ fresh w w3 k) d S1 mc ms A c R := h3.mono (fun _ h => .inl h) (fun i hi => hi.elim (h3.lt i) (fun h => h.2))
  have hsz : (w3.setCell ⟨d, 1, none⟩ (.map (some b))).heap.size = w3.heap.size := by simp [World.setCell]
  have hfr : ∀ k, (F k ∨ fresh w (w3.setCell ⟨d, 1, none⟩ (.map (some b))) k) ↔ (F k ∨ fresh w w3 k) := fun k => by unfold fresh; rw [hsz]
  simp only [hfr]
  subst hS2
  refine ⟨h4.turn k3 ?_ rfl hN h3.safe h3.pend (fun x hx => ?_) (fun x hx => .inl (h3.fsafe x hx)) (fun x hx => .inl (h3.fpend x hx)) ok, (k0.trans kw (fun _ _ h => h.elim)).trans k3 (fun i _ e => e ▸ h1.fd)⟩
  · rw [b3]; rfl
  · injection hx with hx
    subst hx
    exact .inr ⟨Nat.le_trans k0.size hb, hlt3⟩
theorem src_chg {W : World} {B : Nat} {x : Chg} {p : Option Addr} {fr : Nat × Nat} (hp : ptrOf x.file = .pointer p) (hb : W.heap[B]? = some (.cells #[.string (str x.frm), .string (str x.to_), .pointer p] 80 fr)) :
    Src Try.prog 3 55 (.slice (some ⟨B, 0, none⟩) 1 1) 1 (chgCells [x]) W := by
  have e : chgCells [x] = [.string (str x.frm), .string (str x.to_), .pointer p] := by rw [← hp]; rfl
  rw [e]
  refine Src.ofSlice W Try.underlying55 ⟨B, 0, none⟩ 1 1 _ rfl (World.news_of_block hb) ?_
  rw [← e]
  exact chg_one [x]
/-- One change more is pending. -/
theorem DkR.more {w w1 w2 w3 : World} {F : Nat → Prop} {d : Nat} {S1 S2 : St} {x : Chg} {mc ms : Option Nat} {A A' : Option Addr} {c c' n : Nat} {R : Nat → Option Addr × Nat} (h1 : DkR w1 (fun k => F k ∨ fresh w w1 k) d S1 mc ms A c R) (k0 : Kept F w w1) (kw : Kept noBlock w1 w2)
    (hn : n = S1.pend.length) (ho : w3.ownsRow 0 80 3 (.slice A' (n + 1) c') (n + 1) (chgCells S1.pend ++ chgCells [x])) (k2 : Kept (fun k => (Value.slice A n c).ownBlock = some k) w2 w3)
    (hat : ∀ k, (Value.slice A' (n + 1) c').ownBlock = some k → (Value.slice A n c).ownBlock = some k ∨ fresh w2 w3 k) (hS2 : S2 = { S1 with pend := S1.pend ++ [x] }) (ok : Ok S2) :
    Did F w (w3.setCell ⟨d, 3, none⟩ (.slice A' (n + 1) c')) d S2 := by
  subst hn
  have h2 := h1.keep kw (fun _ _ h => h)
  have b2 := h2.blk
  have hb3 := k2.blk b2 (by rw [own_rowB]; exact h2.pendNe)
  have b4 := heap_setCell_same w3 d 3 _ 57 (.slice A' (S1.pend.length + 1) c') hb3
  have k3 : Kept (fun i => i = d) w3 (w3.setCell ⟨d, 3, none⟩ (.slice A' (S1.pend.length + 1) c')) := Kept.setCell w3 (by rfl) _
  have hsz : (w3.setCell ⟨d, 3, none⟩ (.slice A' (S1.pend.length + 1) c')).heap.size = w3.heap.size := by simp [World.setCell]
  have hfr : ∀ k, (F k ∨ fresh w (w3.setCell ⟨d, 3, none⟩ (.slice A' (S1.pend.length + 1) c')) k) ↔ (F k ∨ fresh w w3 k) := fun k => by unfold fresh; rw [hsz]
  have k02 : Kept F w w2 := k0.trans kw (fun _ _ h => h.elim)
  have k03 : Kept F w w3 := k02.trans k2 (fun i hi h => by
    rw [own_rowB] at h
    rcases h1.fpend i h with h5 | h5
    · exact h5
    · exact absurd h5.1 (by omega))
  have hold : ∀ i, (F i ∨ fresh w w1 i) → (F i ∨ fresh w w3 i) := fun i hi => hi.imp id fun h => ⟨h.1, Nat.lt_of_lt_of_le h.2 (Nat.le_trans kw.size k2.size)⟩
  -- the disk behind the append: its pending row is no longer told of
  have pne : ∀ g cs t fr, w2.heap[g]? = some (.cells cs t fr) → t ≠ 80 → rowB (A, c) ≠ some g := fun g cs t fr hg ht e => own_ne h2.pend hg (fun e => ht e.symm) (by rw [own_rowB]; exact e)
  refine ⟨k03.trans k3 (fun i hi e => by
      rw [e] at hi ⊢
      rcases h1.fd with h5 | h5
      · exact h5
      · exact absurd h5.1 (by omega)), mc, ms, A', c', R, ?_⟩
  simp only [hfr]
  subst hS2
  have mapK : ∀ {v : Option Nat} {N : Dir}, Nm w2 v N → Nm w3 v N := fun {v N} hN => hN.keep k2 fun b hb h => by
    subst hb
    rw [own_rowB] at h
    rcases h2.pend.2 with ⟨e1, _⟩ | ⟨g, cap, cu, e1, _, e2, _⟩
    · injection e1 with e1; rw [rowB, e1] at h; cases h
    · injection e1 with e1
      rw [rowB, e1] at h
      injection h with h
      exact hN.ne e2 h.symm
  have rowK : ∀ {f : Nat} {l : Fl}, S1.fl f = some l → ∀ i, rowB (R f) = some i → ¬ rowB (A, c) = some i := fun {f l} hf i hi h => by
    have ho := (h2.fil f l hf).own
    rcases ho.2 with ⟨e1, _⟩ | ⟨g, cap, cu, e1, _, e2, _⟩
    · injection e1 with e1; rw [rowB, e1] at hi; cases hi
    · injection e1 with e1
      rw [rowB, e1] at hi
      injection hi with hi
      simp only at hi
      rw [hi] at e2
      exact pne i _ _ _ e2 (by decide) h
  exact {
    blk := by rw [b4]; simp [dcells]
    cur := (mapK h2.cur).keep k3 fun b hb => by have := mapK h2.cur; subst hb; exact this.ne hb3
    safe := (mapK h2.safe).keep k3 fun b hb => by have := mapK h2.safe; subst hb; exact this.ne hb3
    pend := by
      have : (S1.pend ++ [x]).length = S1.pend.length + 1 := by simp
      simp only [this, chgCells_append]
      exact own_keep ho k3 fun i hi e => by subst e; exact own_ne ho hb3 (by decide) hi
    fil := fun f l hf => ((h2.fil f l hf).keep k2 (by rw [own_rowB]; exact pne f _ _ _ (h2.fil f l hf).blk (by decide)) (fun i hi h => by rw [own_rowB] at h; exact rowK hf i hi h)).keep k3 (h2.filNe hf).1 (fun i hi e => (h2.filNe hf).2 (e ▸ hi))
    apart := h2.apart
    fd := hold _ h1.fd
    fcur := fun b hb => hold _ (h1.fcur b hb)
    fsafe := fun b hb => hold _ (h1.fsafe b hb)
    fpend := fun k hk => by
      rw [← own_rowB A' (S1.pend.length + 1) c'] at hk
      rcases hat k hk with h5 | h5
      · exact hold _ (h1.fpend k (by rw [own_rowB] at h5; exact h5))
      · exact .inr ⟨Nat.le_trans k02.size h5.1, h5.2⟩
    ffil := fun f l hf => ⟨hold _ (h1.ffil f l hf).1, fun k hk => hold _ ((h1.ffil f l hf).2 k hk)⟩
    lt := fun i hi => by
      rw [hsz]
      rcases hi with h5 | h5
      · exact Nat.lt_of_lt_of_le (h1.lt i (.inl h5)) (Nat.le_trans kw.size k2.size)
      · exact h5.2
    ok := ok }

set_option maxRecDepth 100000 in
set_option maxHeartbeats 2000000 in
theorem step_any (F : Nat → Prop) (d : Nat) (S : St) (x : Chg) (mc ms : Option Nat) (A : Option Addr) (c : Nat) (R : Nat → Option Addr × Nat) (w : World) (h : DkR w F d S mc ms A c R) (hc : S.calls < 1000000)
    (hn1 : x.frm.length ≤ maxLen) (hn2 : x.to_.length ≤ maxLen) (hfl : ∀ f, x.file = some f → (S.fl f).isSome = true) :
    Calls Try.prog 35 #[.pointer (some ⟨d, 0, none⟩), x.val] w fun e w' => e = .returned (.int .i64 ((S.step x).1 : Int)) ∧ Did F w w' d (S.step x).2 := by
  unfold Chg.val
  obtain ⟨p, hp⟩ : ∃ p, ptrOf x.file = .pointer p := ⟨_, rfl⟩
  rw [hp]
  have HP := Lib.hid hp; clear hp
  have k0 := Kept.alloc noBlock w (.cells #[.string (str x.frm), .string (str x.to_), .pointer p] 80)
  have hB0 := heap_alloc_new w (.cells #[.string (str x.frm), .string (str x.to_), .pointer p] 80)
  have h0 := h.keep k0 (fun _ _ h => h)
  have hlt := Lib.hid h.lt
  have hdB : w.heap.size ≠ d := fun e => by have := h.lt d h.fd; omega
  have hcnt := count_any F d S mc ms A c R _ h0 hc
  have hcl1 := Lib.hid h.ok.cur_len
  have hcl2 := Lib.hid h.ok.safe_len
  unfold St.step
  rcases S.count_err with he | he
  · rw [he, if_pos rfl]
    rw [he] at hcnt
    go_enter Try.func35, Try.ntmps35
    go_wp2_with fail
    generalize w.alloc (.cells #[.string (str x.frm), .string (str x.to_), .pointer p] 80) = w0 at k0 h0 hB0 hcnt ⊢
    refine hcnt.mono ?_
    rintro e w1 ⟨rfl, h1, k1⟩
    have hB1 := k1.blk hB0 hdB
    have D1 : Did F w w1 d S.count.2 := ⟨(k0.mono (fun _ _ h => h.elim)).trans k1 (fun i _ e => e ▸ h.fd), h1.mono (fun _ h => .inl h) (fun i hi => hi.elim (h1.lt i) (fun h => h.2)) |> fun x => ⟨_, _, _, _, _, x⟩⟩
    clear h h0 hB0 k0 k1 hcnt
    have c1 : w1.cell? ⟨d, 1, none⟩ = some (.map mc) := cell_of_row _ _ _ _ _ _ h1.blk
    have b0 : w1.cell? ⟨w.heap.size, 0, none⟩ = some (.string (str x.frm)) := cell_of_row _ _ _ _ _ _ hB1
    have b1 : w1.cell? ⟨w.heap.size, 1, none⟩ = some (.string (str x.to_)) := cell_of_row _ _ _ _ _ _ hB1
    have b2 : w1.cell? ⟨w.heap.size, 2, none⟩ = some (.pointer p) := cell_of_row _ _ _ _ _ _ hB1
    have H1 := Lib.hid h1; clear h1
    have HD1 := Lib.hid D1; clear D1
    have HB1 := Lib.hid hB1; clear hB1
    have kd := Kept.drew noBlock w1
    have hcurN : Nm w1.drew mc S.cur := by have := H1.out.cur; rw [S.count_cur] at this; exact this
    have HC := Lib.hid hcurN; clear hcurN
    have hcl : Hid (S.cur.length + 1 < 1000000000) := by have := HD1.out.dk.ok.cur_len; have h2 := HD1.out.dk.ok.calls_le; rw [S.count_cur] at this; show _ < _; omega
    have hf1 : Hid (w1.heap[d]? = some (.cells (dcells S.count.2 mc ms A c) 57 (0, 0))) := Lib.hid H1.out.blk
    have hd1 : d < w1.heap.size := lt_of_blk H1.out.blk
    have hB1 : w.heap.size < w1.heap.size := lt_of_blk HB1.out
    obtain ⟨S2, hS2⟩ : ∃ S2 : St, S2 = { S.count.2 with cur := Dir.step S.cur x } := ⟨_, rfl⟩
    have ok2 : Ok S2 := by
      have o := HD1.out.dk.ok
      have hfl0 : S.count.2.fl = S.fl := S.count_fl
      have h3 : S.cur.length + 1 ≤ S.count.2.calls := by
        have h4 := hcl1.out
        rw [S.count_calls]
        omega
      rw [hS2]
      refine ⟨Nat.le_trans (Dir.step_len _ _) h3, o.safe_len, o.fl_len, Dir.step_fl (I := fun f => (S.count.2.fl f).isSome = true) (by rw [← S.count_cur]; exact o.cur_fl) (fun f hf => by show (S.count.2.fl f).isSome = true; rw [hfl0]; exact hfl f hf), o.safe_fl, o.pend_fl, o.pend_name, o.room_le, o.calls_le, o.vol_le, o.left_lo, o.left_hi⟩
    have HS2 := Lib.hid hS2; clear hS2
    have OK2 := Lib.hid ok2; clear ok2
    go_upto_region 4 with (fail)
    go_cut [18] (fun _ wc => ∃ b, Hid (DkR wc (fun k => F k ∨ fresh w wc k) d S2 (some b) ms A c R) ∧ Hid (Kept F w wc) ∧ wc.heap[w.heap.size]? = some (.cells #[.string (str x.frm), .string (str x.to_), .pointer p] 80 (0, 0)))
    case first =>
      go_region_law (go_simp; refine (after_any (fun _ => True) mc S.cur _ 1 1 [x] _ (HC.out.keep (Kept.alloc noBlock w1.drew _) (fun _ _ h => h)) (by rw [show chgCells [x] = [.string (str x.frm), .string (str x.to_), .pointer p] from by rw [← HP.out]; rfl]; exact Lies.new w1.drew _ _ _ _ trivial) rfl (Nat.le_refl _) hcl.out (fun y hy => by rw [List.mem_singleton.1 hy]; exact ⟨hn1, hn2⟩)).mono ?_; rintro e w3 ⟨b, rfl, hN3, k3, hb3⟩; have HN3 := Lib.hid hN3; have kw := Lib.hid (show Kept noBlock w1 w3 from ((Kept.alloc noBlock w1 _).step (Kept.drew noBlock _)).step k3); have hb4 := Lib.hid (show w1.heap.size ≤ b from Nat.le_trans (by simp) hb3); have hb5 := Lib.hid hN3.lt; have q1 : w3.cell? ⟨d, 1, none⟩ = some (.map mc) := cell_of_row _ _ _ _ _ _ (kw.out.blk hf1.out (fun h => h)); have q2 : w3.frozen? ⟨d, 1, none⟩ = false := frozen_of_row _ _ _ _ _ (kw.out.blk hf1.out (fun h => h)); clear hN3 k3 hb3; dsimp only)
      all_goals
        go_wp2
        go_meet
        case rel =>
          have r := H1.out.names HD1.out.kept kw.out hb4.out HN3.out (S2 := S2) (by rw [HS2.out]; rfl) OK2.out
          refine ⟨b, Lib.hid r.1, Lib.hid r.2, ?_⟩
          have hbb := kw.out.blk HB1.out (fun h => h)
          rw [heap_setCell_other _ _ _ _ (by exact hdB)]
          exact hbb
    case rest =>
      obtain ⟨b, HDc, HKc, hBc⟩ := hcut
      obtain ⟨n, hn⟩ : ∃ n, n = S2.pend.length := ⟨_, rfl⟩
      have hdb := HDc.out.blk
      have hown := HDc.out.pend
      unfold dcells at hdb
      rw [← hn] at hdb hown
      have q3 : wc.cell? ⟨d, 3, none⟩ = some (.slice A n c) := cell_of_row _ _ _ _ _ _ hdb
      have p0 : wc.cell? ⟨w.heap.size, 0, none⟩ = some (.string (str x.frm)) := cell_of_row _ _ _ _ _ _ hBc
      have p1 : wc.cell? ⟨w.heap.size, 1, none⟩ = some (.string (str x.to_)) := cell_of_row _ _ _ _ _ _ hBc
      have p2 : wc.cell? ⟨w.heap.size, 2, none⟩ = some (.pointer p) := cell_of_row _ _ _ _ _ _ hBc
      have hd2 : d < wc.heap.size := lt_of_blk hdb
      have hB2 : w.heap.size < wc.heap.size := lt_of_blk hBc
      have hn63 : n + 1 ≤ 2000000 := by
        have h1 := hcl2.out
        have h2 : S2.pend = S.pend := by rw [HS2.out]; exact S.count_pend
        rw [hn, h2]
        omega
      have HDB := Lib.hid hdb; clear hdb
      have HN := Lib.hid hn; clear hn
      have HO := Lib.hid hown; clear hown
      obtain ⟨S3, hS3⟩ : ∃ S3 : St, S3 = { S.count.2 with cur := Dir.step S.cur x, pend := S.pend ++ [x] } := ⟨_, rfl⟩
      have e23 : S3 = { S2 with pend := S2.pend ++ [x] } := by rw [hS3, HS2.out]; simp only [S.count_pend]
      have ok3 : Ok S3 := by
        have o := OK2.out
        have hfl0 : S2.fl = S.fl := by rw [HS2.out]; exact S.count_fl
        have h1 : S2.safe.length + (S2.pend.length + 1) ≤ S2.calls := by
          have h3 := hcl2.out
          rw [HS2.out]
          simp only [S.count_safe, S.count_pend, S.count_calls]
          omega
        rw [e23]
        refine ⟨o.cur_len, (by simpa using h1), o.fl_len, o.cur_fl, o.safe_fl, fun y hy f hf => ?_, fun y hy => ?_, o.room_le, o.calls_le, o.vol_le, o.left_lo, o.left_hi⟩
        · rcases List.mem_append.1 hy with h | h
          · exact o.pend_fl y h f hf
          · rw [List.mem_singleton.1 h] at hf
            show (S2.fl f).isSome = true
            rw [hfl0]
            exact hfl f hf
        · rcases List.mem_append.1 hy with h | h
          · exact o.pend_name y h
          · rw [List.mem_singleton.1 h]; exact ⟨hn1, hn2⟩
      have E23 := Lib.hid e23; clear e23
      have OK3 := Lib.hid ok3; clear ok3
      have HS3 := Lib.hid hS3; clear hS3
      have HBc := Lib.hid hBc; clear hBc
      have KW := Lib.hid ((Kept.alloc noBlock wc (.cells #[.string (str x.frm), .string (str x.to_), .pointer p] 80)).step (Kept.drew noBlock _))
      go_upto_region 5 with (fail)
      go_cut [28] (fun _ wz => Hid (Did F w wz d S3))
      case first =>
        go_region_law (refine step_append_src rfl (.tmp 25) (.tmp 27) 55 55 rfl 80 (.agg #[.string ⟨#[]⟩, .string ⟨#[]⟩, .pointer none]) 3 40 Try.underlying55 Try.infoChange rfl (.slice A n c) n (chgCells S2.pend) rfl (by exact HO.out.alloc _) _ 1 (chgCells [x]) rfl (by exact src_chg HP.out (heap_alloc_new _ _)) (by unfold maxLen; omega) (by omega) ?_; intro A' c' w3 hown1 k1 hat; have hb3 := k1.blk (KW.out.blk HDc.out.blk (fun h => h)) (by rw [own_rowB]; exact HDc.out.pendNe); have z1 : w3.cell? ⟨d, 3, none⟩ = some (.slice A S2.pend.length c) := cell_of_row _ _ _ _ _ _ hb3; have z2 : w3.frozen? ⟨d, 3, none⟩ = false := frozen_of_row _ _ _ _ _ hb3; have RR := Lib.hid (HDc.out.more HKc.out KW.out HN.out hown1 k1 hat E23.out OK3.out); clear hown1 k1 hat hb3)
        all_goals
          go_wp2
          go_meet
          case rel => exact RR
      case rest =>
        go_wp2
        go_ret
        rw [HS3.out] at hcut
        exact ⟨rfl, hcut.out⟩
  · rw [he, if_neg (by simp), he]
    rw [he] at hcnt
    go_enter Try.func35, Try.ntmps35
    go_wp2_with fail
    generalize w.alloc (.cells #[.string (str x.frm), .string (str x.to_), .pointer p] 80) = w0 at k0 h0 hB0 hcnt ⊢
    refine hcnt.mono ?_
    rintro e w1 ⟨rfl, h1, k1⟩
    have hB1 := k1.blk hB0 hdB
    have D1 : Did F w w1 d S.count.2 := ⟨(k0.mono (fun _ _ h => h.elim)).trans k1 (fun i _ e => e ▸ h.fd), h1.mono (fun _ h => .inl h) (fun i hi => hi.elim (h1.lt i) (fun h => h.2)) |> fun x => ⟨_, _, _, _, _, x⟩⟩
    clear h h0 hB0 k0 k1 hcnt
    have HD1 := Lib.hid D1; clear D1
    go_wp2
    go_ret
    exact ⟨rfl, HD1.out⟩
end Go.Proofs.Ytdcccjkondjhbaa
