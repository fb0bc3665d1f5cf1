/-
  A disk's methods, seventh part: Append. No statement is proved here.
-/
import Derived.Test.YtdcccjkondjhbaaFiles6
namespace Go.Proofs.Ytdcccjkondjhbaa
open Go.RowKit Go.Maps

theorem wrap_small {z : Int} (h1 : -9223372036854775808 ≤ z) (h2 : z ≤ 9223372036854775807) : IntKind.i64.wrap z = z := by simp [IntKind.wrap, IntKind.signed, IntKind.bits]; omega


set_option maxRecDepth 100000 in
set_option maxHeartbeats 2000000 in
theorem append_any (F G : Nat → Prop) (d : Nat) (S : St) (s : List UInt8) (a : Option Addr) (n cp : Nat) (b : List UInt8) (w : World) (h : Dk w F d S) (hs : s.length ≤ maxLen) (hc : S.calls < 1000000) (hb : Lies w G a (b.map bv)) (hbn : b.length = n)
    (hvol : S.vol + n ≤ 1000000000) :
    Calls Try.prog 18 #[.pointer (some ⟨d, 0, none⟩), .string (str s), .slice a n cp] w fun e w' => e = .returned (.int .i64 ((S.append s b).1 : Int)) ∧ Did F w w' d (S.append s b).2 := by
  have HB := Lib.hid hb; clear hb
  have HBN := Lib.hid hbn; clear hbn
  obtain ⟨mc, ms, A, c, R, h⟩ := h
  have hf := find_any F d S s mc ms A c R w h hs
  have H := Lib.hid h
  clear h
  unfold St.find at hf
  unfold St.append St.on
  cases hd : S.down with
  | true =>
    rw [hd, if_pos rfl] at hf
    rw [if_pos rfl]
    clear hd
    go_enter Try.func18, Try.ntmps18
    go_wp2_with fail
    refine hf.mono ?_
    rintro e w1 ⟨rfl, rfl⟩
    clear hf
    go_wp2
    go_ret
    exact ⟨rfl, Did.same H.out.dk⟩
  | false =>
    rw [hd, if_neg (by simp)] at hf
    rw [if_neg (by simp)]
    cases hl : Dir.look S.cur s with
    | none =>
      rw [hl] at hf
      clear hl hd
      go_enter Try.func18, Try.ntmps18
      go_wp2_with fail
      refine hf.mono ?_
      rintro e w1 ⟨rfl, rfl⟩
      clear hf
      go_wp2
      go_ret
      exact ⟨rfl, Did.same H.out.dk⟩
    | some f =>
      rw [hl] at hf
      obtain ⟨l, hfl⟩ := Option.isSome_iff_exists.1 (H.out.ok.cur_fl _ (Dir.mem_of_look hl))
      have HFL := Lib.hid hfl
      have hfil := Lib.hid (H.out.fil f l hfl)
      have hbl := (H.out.ok.fl_len f l hfl).1
      have hsl := (H.out.ok.fl_len f l hfl).2
      have hvl := H.out.ok.vol_le
      have q0 : w.cell? ⟨f, 0, none⟩ = some (.slice (R f).1 l.data.length (R f).2) := cell_of_row _ _ _ _ _ _ hfil.out.blk
      have hf' : Calls Try.prog 33 #[.pointer (some ⟨d, 0, none⟩), .string (str s)] w fun e w' => e = .returned (.tuple #[.pointer (some ⟨f, 0, none⟩), .int .i64 0]) ∧ w = w' := hf
      have HFe := Lib.hid (file_eq hfl)
      clear hf hl hd hfl
      simp only
      unfold St.appendAt
      rw [HBN.out]
      have hroom := H.out.ok.room_le
      have husd := H.out.ok.used_le
      have hbk := H.out.blk
      unfold dcells at hbk
      have hdl := lt_of_blk hbk
      have hus := used_any F d S mc ms A c R w.drew (H.out.keep (Kept.drew noBlock w) (fun _ _ h => h))
      have c0 : w.cell? ⟨d, 0, none⟩ = some (.int .i64 (S.room : Int)) := cell_of_row _ _ _ _ _ _ hbk
      obtain ⟨u, hu⟩ : ∃ u, u = S.used := ⟨_, rfl⟩
      obtain ⟨rm, hrm⟩ : ∃ rm, rm = S.room := ⟨_, rfl⟩
      rw [← hu] at hus husd ⊢
      rw [← hrm] at c0 hroom ⊢
      have HU := Lib.hid hu; clear hu
      have HRM := Lib.hid hrm; clear hrm
      have HBK := Lib.hid hbk; clear hbk
      by_cases hfull : rm < n + u
      · rw [if_pos hfull]
        go_enter Try.func18, Try.ntmps18
        go_wp2_with fail
        refine hf'.mono ?_
        rintro e w1 ⟨rfl, rfl⟩
        clear hf'
        go_upto_region 4 with (fail)
        go_cut [27] (fun x wc => x = .bool true ∧ Kept noBlock w wc)
        case first =>
          go_region_law (go_simp; refine hus.mono ?_; rintro e w1 ⟨rfl, k1⟩; have c0' : w1.cell? ⟨d, 0, none⟩ = some (.int .i64 (rm : Int)) := k1.cell c0 (fun h => h); dsimp only)
          all_goals
            go_wp2
            go_meet
            case rel => exact ⟨by rw [wrap_small (by omega) (by omega)]; simp; omega, (Kept.drew noBlock w).step k1⟩
        case rest =>
          obtain ⟨rfl, k1⟩ := hcut
          go_wp2
          go_ret
          exact ⟨rfl, (Did.same H.out.dk).then_ k1⟩
      · rw [if_neg hfull]
        go_enter Try.func18, Try.ntmps18
        go_wp2_with fail
        refine hf'.mono ?_
        rintro e w1 ⟨rfl, rfl⟩
        clear hf'
        go_upto_region 4 with (fail)
        go_cut [27] (fun x wc => x = .bool false ∧ Kept noBlock w wc)
        case first =>
          go_region_law (go_simp; refine hus.mono ?_; rintro e w1 ⟨rfl, k1⟩; have c0' : w1.cell? ⟨d, 0, none⟩ = some (.int .i64 (rm : Int)) := k1.cell c0 (fun h => h); dsimp only)
          all_goals
            go_wp2
            go_meet
            case rel => exact ⟨by rw [wrap_small (by omega) (by omega)]; simp; omega, (Kept.drew noBlock w).step k1⟩
        case rest =>
          obtain ⟨rfl, k1⟩ := hcut
          have h1 := H.out.keep k1 (fun _ _ h => h)
          have hfil1 := h1.fil f l HFL.out
          have hsrc : Src Try.prog 1 32 (.slice a n cp) n (b.map bv) wc := src_lies Try.underlying32 (HB.out.keep k1 (fun _ _ h => h)) (by simpa using HBN.out) (bv_one b)
          obtain ⟨m, hm⟩ : ∃ m, m = l.data.length := ⟨_, rfl⟩
          have hown := hfil1.own
          have r0 : wc.cell? ⟨f, 0, none⟩ = some (.slice (R f).1 l.data.length (R f).2) := cell_of_row _ _ _ _ _ _ hfil1.blk
          rw [← hm] at hown r0 hbl hsl
          have HM := Lib.hid hm; clear hm
          have HO := Lib.hid hown; clear hown
          have HSrc := Lib.hid hsrc; clear hsrc
          have HF1 := Lib.hid hfil1; clear hfil1
          have H1 := Lib.hid h1; clear h1
          clear q0 c0 hus
          go_wp2_with (at_builtin; refine wpList_append_src rfl _ _ 32 32 rfl 5 (.int .u8 0) 1 1 Try.underlying32 Try.infoU8 rfl (.slice (R f).1 m (R f).2) m (l.data.map bv) rfl HO.out (.slice a n cp) n (b.map bv) rfl HSrc.out ?c3 ?c4 ?_)
          case c3 => unfold maxLen; omega
          case c4 => omega
          intro A' c' w2 hown2 k2 hat
          have hb2 := k2.blk HF1.out.blk (by rw [own_rowB]; exact HF1.out.rowNe HF1.out.blk (by decide))
          have r2 : w2.cell? ⟨f, 0, none⟩ = some (.slice (R f).1 l.data.length (R f).2) := cell_of_row _ _ _ _ _ _ hb2
          have r3 : w2.frozen? ⟨f, 0, none⟩ = false := frozen_of_row _ _ _ _ _ hb2
          have b3 := heap_setCell_same w2 f 0 _ 61 (.slice A' (m + n) c') hb2
          have k3 : Kept (fun i => i = f) w2 (w2.setCell ⟨f, 0, none⟩ (.slice A' (m + n) c')) := Kept.setCell w2 (by rfl) _
          have k23 : Kept (fun i => i = f ∨ rowB (R f) = some i) wc (w2.setCell ⟨f, 0, none⟩ (.slice A' (m + n) c')) :=
            (k2.mono (fun i _ h => .inr (by rw [own_rowB] at h; exact h))).trans k3 (fun i _ e => .inl e)
          have hlen : (l.data ++ b).length = m + n := by rw [List.length_append, HBN.out, HM.out]
          have hsz : (w2.setCell ⟨f, 0, none⟩ (.slice A' (m + n) c')).heap.size = w2.heap.size := by simp [World.setCell]
          have hv := H1.out.ok.vol_le
          have dd := H1.out.fileDid HFL.out (r := (A', c')) k23 (l' := ⟨l.data ++ b, l.safe⟩) ⟨by rw [b3]; simp only [hlen]; rfl, by
              simp only [hlen]
              have := own_keep hown2 k3 (fun i hi e => by subst e; exact own_ne hown2 hb2 (by decide) hi)
              rw [← List.map_append] at this
              exact this⟩ (fun k hk => by
                rw [← own_rowB A' (m + n) c'] at hk
                rcases hat k hk with h5 | h5
                · exact .inl (by rw [own_rowB] at h5; exact h5)
                · exact .inr ⟨h5.1, by rw [hsz]; exact h5.2⟩) (v := S.vol + b.length) (by omega) (by rw [HBN.out]; exact hvol) (by simp only [hlen]; rw [HBN.out]; omega) (by simp only [hlen]; omega)
          have d0 := (Did.same H.out.dk).then_ k1
          have dd' : Did F w (w2.setCell ⟨f, 0, none⟩ (.slice A' (m + n) c')) d (S.app f b) := by
            unfold St.app
            rw [HFe.out]
            exact (Did.after k1 H.out.lt dd)
          have HDD := Lib.hid dd'; clear dd' dd d0 b3 k3 k23 k2 hown2 hat hb2
          obtain ⟨mc', ms', A1, c1, R1, h3⟩ := HDD.out.dk
          go_wp2_with fail
          refine (count_any _ d (S.app f b) mc' ms' A1 c1 R1 _ h3 hc).mono ?_
          rintro e w4 ⟨rfl, h4, k4⟩
          have HD4 := Lib.hid (Did.join HDD.out (h4.did k4 (fun i e => e ▸ h4.fd)))
          clear h3 h4 k4
          go_wp2
          go_ret
          exact ⟨rfl, HD4.out⟩
end Go.Proofs.Ytdcccjkondjhbaa
