/-
  Pairs as a map. No statement is proved here.
-/
import Derived.Test.YtfcpofobdlgbbaaTblMP
import Derived.Test.YtfcpofobdlgbbaaLawK
import Derived.Test.YtfcpofobdlgbbaaBoxA
namespace Go.Proofs.Ytfcpofobdlgbbaa
open Go.RowKit Tot

set_option maxRecDepth 100000 in
set_option maxHeartbeats 1000000 in
theorem values_any (F : Nat → Prop) (a : Option Addr) (n c : Nat) (ps : Prs) (w : World) (h : Lies w F a (PR.cells ps)) (hl : ps.length = n) (hc : n ≤ c) (hn : n ≤ 1048576) (hu : Srt.Up ps) (hk : ∀ p ∈ ps, p.1.size ≤ maxLen) :
    Calls Try.prog 14 #[.slice a n c] w fun en w' => ∃ b, en = .returned (.map (some b)) ∧ w.heap.size ≤ b ∧ MP.Tb w' b (valuesM ps) ∧ Kept noBlock w w' := by
  have hmm := @run_makeMap Try.prog
  have ka := Kept.alloc noBlock w (.map #[] 0)
  have hb : MP.Tb (w.alloc (.map #[] 0)) w.heap.size (valuesM (ps.take 0)) := MP.Tb.made w
  have H := Lib.hid h
  have HL := Lib.hid hl
  have HU := Lib.hid hu
  have HK := Lib.hid hk
  have KA := Lib.hid ka
  have HB := Lib.hid hb
  clear h hl hu hk ka hb
  go_enter Try.func14, Try.ntmps14
  go_upto_region 2 with (fail)
  obtain ⟨b, hbe⟩ : ∃ b, b = w.heap.size := ⟨_, rfl⟩
  rw [← hbe] at HB ⊢
  generalize w.alloc (.map #[] 0) = w1 at KA HB ⊢
  have HBW := Lib.hid (Nat.le_of_eq hbe.symm)
  clear hbe hmm
  go_wp2_with fail
  go_loopw [9] (fun i wr => ∃ k : Nat, k ≤ n ∧ i = .int .i64 (k : Int) ∧ Hid (MP.Tb wr b (valuesM (ps.take k))) ∧ Hid (Kept noBlock w wr)) (fun i _ => n - (intOf i).toNat)
  case atStart => exact ⟨0, by omega, rfl, HB, KA⟩
  case round =>
    obtain ⟨k, hkn, rfl, HT, KK⟩ := hrel
    by_cases hlt : k < n
    · obtain ⟨p, hp⟩ : ∃ p, ps[k]? = some p := ⟨_, List.getElem?_eq_getElem (by have := HL.out; omega)⟩
      obtain ⟨g, o, rfl, _, cc⟩ := (H.out.keep KK.out (fun _ _ h => h)).elem PR.enc_len (by omega) hp
      have e0 := cc 0 _ rfl
      have e1 := cc 1 _ rfl
      have e2 := cc 2 _ rfl
      rw [Nat.add_zero] at e0
      have hfit : MP.Fits p.1 := HK.out p (List.mem_of_getElem? hp)
      have hput := values_put (ps := ps.take k) (p := p) (by rw [← take_snoc ps k p hp]; exact HU.out.sub (List.take_sublist _ _))
      rw [← take_snoc ps k p hp] at hput
      obtain ⟨xk, xv, xg⟩ := p
      simp only at e0 e1 e2 hfit hput
      have ka := Kept.alloc noBlock wr (.cells #[.string xk, .string xv, .bool xg] 39)
      have hlen : (valuesM (ps.take k)).length < maxLen := by rw [values_len, List.length_take]; unfold maxLen; omega
      obtain ⟨u, hrun, hTu, ku⟩ := MP.run_put (HT.out.keep ka (fun h => h)) xk hfit hlen (xk, (xv, xg))
      rw [hput] at hTu
      have HT2 := Lib.hid hTu
      have KU : Hid (Kept noBlock w u) := ((KK.out.mono (T := fun i => w.heap.size ≤ i) (fun _ _ h => h.elim)).trans (ka.step (S := noBlock) (Kept.refl noBlock _) |>.mono (T := fun i => i = b) (fun _ _ h => h.elim) |>.step ku) (fun i _ h => by have := HBW.out; omega)).mono (fun i hi h => by omega)
      unfold MP.kv MP.ev at hrun
      simp only at hrun
      clear hp cc hput hlen hTu ku ka hfit
      go_wp2
      go_roundw
      case rel => exact ⟨k + 1, by omega, by go_num, HT2, KU⟩
      case measure => simp [intOf]; omega
    · obtain rfl : k = n := by omega
      have ht := HT.out
      rw [List.take_of_length_le (by have := HL.out; omega)] at ht
      have HT2 := Lib.hid ht
      clear ht
      go_wp2
      go_ret
      exact ⟨b, rfl, HBW.out, HT2.out, KK.out⟩
end Go.Proofs.Ytfcpofobdlgbbaa
