/-
  How the statements of layer 10 hold a list against a map. No statement is proved here.
-/
import Derived.Test.YtjijdkdpmbfdmaaL10Do
import Derived.Test.YtjijdkdpmbfdmaaE10Do
namespace Go.Proofs.Ytjijdkdpmbfdmaa
open Go.RowKit Tot

set_option maxRecDepth 100000 in
set_option maxHeartbeats 1000000 in
theorem shows_any10 (F : Nat → Prop) (b : Nat) (N : Fls) (f : Int) (A : Option Addr) (c : Nat) (w : World) (h : MF.Tb w b N) (hs : Sw w F N A c) (hg : Good N) (hN : N.length ≤ 9000000000000000) :
    Calls Try.prog 17 #[setv N f A c, .map (some b), .int .i64 f] w fun en w' => en = .returned (.bool true) ∧ Kept noBlock w w' := by
  obtain ⟨n, hn⟩ : ∃ n, n = N.length := ⟨_, rfl⟩
  have ka := Kept.alloc noBlock w (.cells #[.slice A n c, .int .i64 f] 26)
  have ha := heap_alloc_new w (.cells #[.slice A n c, .int .i64 f] 26)
  obtain ⟨S, hS⟩ : ∃ S, S = w.heap.size := ⟨_, rfl⟩
  have hcc := hs.ca
  rw [← hn] at hN hcc
  have HN := Lib.hid hn
  have HG := Lib.hid hg
  have HLA := Lib.hid (hs.kept ka)
  have HTB := Lib.hid (h.keep ka (fun h => h))
  unfold setv
  rw [← hn]
  clear h hs hg hn
  go_enter Try.func17, Try.ntmps17
  go_upto_region 1 with (fail)
  rw [← hS] at ha ⊢
  generalize w.alloc (.cells #[.slice A n c, .int .i64 f] 26) = w1 at ka ha HLA HTB ⊢
  have HA := Lib.hid ha
  have KA := Lib.hid ka
  obtain ⟨c0, c1⟩ := two_cells ha
  clear ka ha hS
  go_wp2_with fail
  go_loopw [14] (fun i wr => ∃ k : Nat, k ≤ n ∧ i = .int .i64 (k : Int) ∧ Hid (Kept noBlock w1 wr)) (fun i _ => n - (intOf i).toNat)
  case atStart => exact ⟨0, by omega, rfl, Kept.refl _ _⟩
  case round =>
    obtain ⟨k, hkn, rfl, HK⟩ := hrel
    by_cases hlt : k < n
    · obtain ⟨p, hp⟩ : ∃ p, N[k]? = some p := ⟨_, List.getElem?_eq_getElem (by have := HN.out; omega)⟩
      have hpr : (N.map (·.2))[k]? = some p.2 := by rw [List.getElem?_map, hp]; rfl
      have hla := HLA.out.la.keep HK.out (fun _ _ h => h)
      obtain ⟨g, o, rfl, _, cc⟩ := hla.elem (enc := RefV.cells) ref_len (by omega) hpr
      have e0 := cc 0 _ rfl
      have e1 := cc 1 _ rfl
      have e2 := cc 2 _ rfl
      have e3 := cc 3 _ rfl
      rw [Nat.add_zero] at e0
      have hname : p.1 = p.2.name := HG.out.named p (List.mem_of_getElem? hp)
      have hmay : p.2.May := HG.out.may p (List.mem_of_getElem? hp)
      have hlook : Srt.look N p.1 = some p.2 := Srt.look_of_mem HG.out.up (List.mem_of_getElem? hp)
      obtain ⟨nm, x⟩ := p
      simp only at hname hmay hlook hpr e0 e1 e2 e3
      subst hname
      have hfit : MF.Fits x.name := by have := hmay.2.1; unfold MF.Fits maxLen; omega
      have hka := Kept.alloc noBlock wr (.cells #[.string x.name, .int .i64 x.kind, .int .i64 x.from_, .int .i64 x.to_] 31)
      have hb := heap_alloc_new wr (.cells #[.string x.name, .int .i64 x.kind, .int .i64 x.from_, .int .i64 x.to_] 31)
      have HLO := Lib.hid hlook
      have HP := Lib.hid hp
      have HLW := Lib.hid hla
      clear hp hpr hmay hlook cc hla
      go_upto_region 4 with (fail)
      obtain ⟨C, hC⟩ : ∃ C, C = wr.heap.size := ⟨_, rfl⟩
      rw [← hC] at hb ⊢
      generalize wr.alloc (.cells #[.string x.name, .int .i64 x.kind, .int .i64 x.from_, .int .i64 x.to_] 31) = w3 at hka hb ⊢
      have HB := Lib.hid hb
      have K3 := Lib.hid (HK.out.step hka)
      have HL3 := Lib.hid (HLW.out.keep hka (fun _ _ h => h))
      obtain ⟨d0, d1, d2, d3⟩ := ref_cells hb
      have hr := MF.run_look2 (HTB.out.keep K3.out (fun h => h)) x.name hfit
      have hhas : Srt.has N x.name = true := (Srt.has_iff _ _).2 ⟨x, HLO.out⟩
      rw [HLO.out, hhas] at hr
      unfold MF.kv MF.ev at hr
      simp only [Option.getD_some] at hr
      have kb := Kept.alloc noBlock w3 (.cells #[.string x.name, .int .i64 x.kind, .int .i64 x.from_, .int .i64 x.to_] 31)
      have hb2 := heap_alloc_new w3 (.cells #[.string x.name, .int .i64 x.kind, .int .i64 x.from_, .int .i64 x.to_] 31)
      clear e0 e1 e2 e3 hka hb hC hhas
      go_upto_region 5 with (fail)
      obtain ⟨C2, hC2⟩ : ∃ C, C = w3.heap.size := ⟨_, rfl⟩
      rw [← hC2] at hb2 ⊢
      generalize w3.alloc (.cells #[.string x.name, .int .i64 x.kind, .int .i64 x.from_, .int .i64 x.to_] 31) = w4 at kb hb2 ⊢
      have HB4 := Lib.hid (kb.blk HB.out (fun h => h))
      have HC4 := Lib.hid hb2
      have K4 := Lib.hid (K3.out.step kb)
      have HL4 := Lib.hid (HL3.out.keep kb (fun _ _ h => h))
      have NE := fun u => ref_neq u x x
      rw [decide_eq_true rfl] at NE
      unfold RefV.val at NE
      have CE : Hid (∀ u, Kept noBlock w4 u → (u.cell? ⟨C, 0, none⟩ = some (.string x.name) ∧ u.cell? ⟨C, 1, none⟩ = some (.int .i64 x.kind) ∧ u.cell? ⟨C, 2, none⟩ = some (.int .i64 x.from_) ∧ u.cell? ⟨C, 3, none⟩ = some (.int .i64 x.to_)) ∧
          (u.cell? ⟨C2, 0, none⟩ = some (.string x.name) ∧ u.cell? ⟨C2, 1, none⟩ = some (.int .i64 x.kind) ∧ u.cell? ⟨C2, 2, none⟩ = some (.int .i64 x.from_) ∧ u.cell? ⟨C2, 3, none⟩ = some (.int .i64 x.to_)) ∧ u.cell? ⟨S, 0, none⟩ = some (.slice (some ⟨g, o, none⟩) n c)) := fun u k =>
        ⟨ref_cells (k.blk HB4.out (fun h => h)), ref_cells (k.blk HC4.out (fun h => h)), cell_of_row _ _ _ _ _ _ ((K4.out.step k).blk HA.out (fun h => h))⟩
      obtain ⟨⟨y0, y1, y2, y3⟩, ⟨z0, z1, z2, z3⟩, x0⟩ := CE.out _ (Kept.refl _ _)
      clear hr kb hb2 hC2 d0 d1 d2 d3
      by_cases hk0 : k = 0
      · subst hk0
        have hgz : decide ((0 : Int) < ((0 : Nat) : Int)) = false := rfl
        go_quiet (fail)
        have K5 := Lib.hid (K4.out.step (Kept.drewN noBlock w4 nq))
        generalize w4.drewN nq = w5 at K5 ⊢
        clear NE
        go_wp2
        go_roundw
        case rel => exact ⟨0 + 1, by omega, by go_num, K5⟩
        case measure => simp [intOf]; omega
      · obtain ⟨q, rfl⟩ : ∃ q, k = q + 1 := ⟨k - 1, by omega⟩
        obtain ⟨p', hp'⟩ : ∃ p, N[q]? = some p := ⟨_, List.getElem?_eq_getElem (by have := HN.out; omega)⟩
        have hpr' : (N.map (·.2))[q]? = some p'.2 := by rw [List.getElem?_map, hp']; rfl
        obtain ⟨g', o', e', _, cc⟩ := HL4.out.elem (enc := RefV.cells) ref_len (by omega) hpr'
        injection e' with e'
        injection e' with e1 e2
        subst e1 e2
        have e0 := cc 0 _ rfl
        rw [Nat.add_zero] at e0
        have hlt2 : lt p'.1 x.name = true := HG.out.up.get (Nat.lt_succ_self q) hp' HP.out
        rw [HG.out.named p' (List.mem_of_getElem? hp')] at hlt2
        have hbl : Op.bytesLess p'.2.name.toList x.name.toList = true := hlt2
        have EP : Hid (∀ u, Kept noBlock w4 u → u.cell? ⟨g, o + q * 4, none⟩ = some (.string p'.2.name)) := fun u k => k.cell e0 (fun h => h)
        obtain ⟨pn, hpn⟩ : ∃ pn, pn = p'.2.name := ⟨_, rfl⟩
        rw [← hpn] at hbl EP
        have hpos : decide ((0 : Int) < ((q + 1 : Nat) : Int)) = true := decide_eq_true (by omega)
        have x1 := EP.out _ (Kept.refl _ _)
        have hq1 : ((q + 1 : Nat) : Int) - 1 = (q : Int) := by omega
        clear hp' hpr' cc e0 hlt2 hpn
        go_quiet (fail)
        have K5 := Lib.hid (K4.out.step (Kept.drewN noBlock w4 nq))
        generalize w4.drewN nq = w5 at K5 ⊢
        clear NE
        go_wp2
        go_roundw
        case rel => exact ⟨q + 1 + 1, by omega, by go_num, K5⟩
        case measure => simp [intOf]; omega
    · obtain rfl : k = n := by omega
      have hb := HK.out.blk HA.out (fun h => h)
      obtain ⟨c0, c1⟩ := two_cells hb
      have hsz := fun ty => MF.run_size (HTB.out.keep HK.out (fun h => h)) ty
      rw [← HN.out] at hsz
      have R := Lib.hid (KA.out.step HK.out)
      have i1 : ((k : Int) == (k : Int)) = true := by simp
      have i2 : (f == f) = true := by simp
      clear hb
      go_wp2
      go_ret
      exact ⟨rfl, R.out⟩
end Go.Proofs.Ytjijdkdpmbfdmaa
