/-
  The document's examples, as the statements of layer 1 ask them ahead of all else. No statement is proved here.
-/
import Derived.Test.YtnenbohnbojjgaaPack3
namespace Go.Proofs.Ytnenbohnbojjgaa
open Go.RowKit

def awakeBytes : List UInt8 := [255, 255, 255, 255, 255, 255, 255, 254, 0, 0, 0, 0, 0, 0, 0, 2, 97, 98]

set_option maxHeartbeats 400000 in
theorem awake_any (w : World) : Calls Try.prog 10 #[] w fun e w' => e = .returned (.bool true) ∧ Kept noBlock w w' := by
  go_enter Try.func10, Try.ntmps10
  go_wp2_with fail
  refine (wnum_any _ _ [] (-2) _ (Wr.new w) (by decide)).mono ?_
  rintro e w1 ⟨rfl, k1, h1⟩
  go_wp2_with fail
  refine (wtext_any _ _ _ _ _ h1 (by decide)).mono ?_
  rintro e w2 ⟨rfl, k2, h2⟩
  clear h1
  have e2 : [] ++ be8 (-2) ++ (be8 ((ByteArray.mk #[97, 98]).size : Int) ++ (ByteArray.mk #[97, 98]).data.toList) = awakeBytes := by decide
  rw [e2] at h2
  clear e2
  go_wp2_with fail
  refine (wbytes_n _ _ _ 18 _ h2 rfl (by decide)).mono ?_
  rintro e w3 ⟨A, c, rfl, h3, k3⟩
  obtain ⟨ad, rfl, _, hcell⟩ := (Lies.of_own (F := fun _ => True) h3 (fun _ _ => trivial)).at_ (k := 0) (u := .int .u8 255) rfl
  have hcell0 : w3.cell? ad = some (.int .u8 255) := hcell
  clear hcell
  go_wp2_with fail
  refine (of_any _ _ 18 _ awakeBytes _ (Lies.of_own (F := fun _ => True) h3 (fun _ _ => trivial)) rfl (by decide)).mono ?_
  rintro e w4 ⟨r, rfl, h4, k4⟩
  have hcell4 := k4.cell hcell0 (fun h => h)
  clear hcell0 h3 h2
  go_wp2_with fail
  refine (rnum_any _ _ _ _ _ h4).mono ?_
  have e4 : rNum awakeBytes false = (-2, awakeBytes.drop 8, false) := by kernel_rfl
  rw [e4]
  rintro e w5 ⟨rfl, h5, k5⟩
  clear h4 e4
  simp only at h5
  go_wp2_with fail
  refine (rtext_any _ _ _ _ _ h5).mono ?_
  have e5 : rText (awakeBytes.drop 8) false = ([97, 98], [], false) := by kernel_rfl
  rw [e5]
  rintro e w6 ⟨rfl, h6, k6⟩
  clear h5 e5
  simp only at h6
  go_wp2_with fail
  refine (rdone_any _ _ _ _ _ h6).mono ?_
  rintro e w7 ⟨rfl, rfl⟩
  go_wp2_with fail
  refine (rbyte_any _ _ _ _ _ h6).mono ?_
  have e6 : rByte [] false = (0, [], true) := by kernel_rfl
  rw [e6]
  rintro e w7 ⟨rfl, h7, k7⟩
  clear h6 e6
  simp only at h7
  go_wp2_with fail
  refine (rbad_any _ _ _ _ _ h7).mono ?_
  rintro e w8 ⟨rfl, rfl⟩
  go_wp2
  go_ret
  refine ⟨rfl, ?_⟩
  have q1 : Kept noBlock w w1 := (Kept.alloc _ _ _).trans k1 (fun i hi h => by subst h; exact absurd hi (by omega))
  have q2 : Kept noBlock w w2 := q1.trans k2 (fun i hi h => by rcases h with h | h; exact absurd h (by omega); have := h.1; simp at this; omega)
  have q4 : Kept noBlock w w4 := (q2.step k3).step k4
  have hr : w.heap.size ≤ r := by have := h7.foot.1; have := q2.size; have := k3.size; omega
  exact ((q4.trans k5 (fun i hi h => by omega)).trans k6 (fun i hi h => by omega)).trans k7 (fun i hi h => by omega)

end Go.Proofs.Ytnenbohnbojjgaa
