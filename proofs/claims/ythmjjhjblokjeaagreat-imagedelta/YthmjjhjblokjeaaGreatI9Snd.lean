/-
  The contract of image.second. No statement is proved here.
-/
import Derived.Test.YthmjjhjblokjeaaGreatI9Head
namespace Go.Proofs.YthmjjhjblokjeaaGreat
open Go.RowKit Tot

set_option maxRecDepth 100000 in
set_option maxHeartbeats 1000000 in
theorem second_any (F : Nat → Prop) (a : Option Addr) (n c : Nat) (l : List UInt8) (w : World) (h : Lies w F a (l.map bv)) (hl : l.length = n) (hn : n ≤ 200000000000000) (hc : n ≤ c) :
    Calls Tryz.prog 28 #[.slice a n c] w fun e w' => ∃ A c', e = .returned (.slice A (sndB l).length c') ∧ w'.ownsRow w.heap.size 5 1 (.slice A (sndB l).length c') (sndB l).length ((sndB l).map bv) ∧ Kept noBlock w w' := by
  have ONE := Lib.hid (fone_any F a n c l w h hl hn hc)
  have hle : (rd l).2.1 ≤ n := by rw [← hl]; exact rd_taken l
  obtain ⟨u, hu⟩ : ∃ u, u = rd l := ⟨_, rfl⟩
  rw [← hu] at ONE hle
  have HU := Lib.hid hu
  obtain ⟨p, hp⟩ : ∃ p, p = u.2.1 := ⟨_, rfl⟩
  rw [← hp] at ONE hle
  have HP := Lib.hid hp
  obtain ⟨z, hz⟩ : ∃ z, z = u.2.2 := ⟨_, rfl⟩
  rw [← hz] at ONE
  have HZ := Lib.hid hz
  have HL := Lib.hid hl
  have HW := Lib.hid h
  clear hu hp hz hl h
  go_enter Tryz.func28, Tryz.ntmps28
  go_wp2_with fail
  refine ONE.out.mono ?_
  rintro e w1 ⟨A1, c1, rfl, _, k1⟩
  have K1 := Lib.hid k1
  clear k1 ONE
  by_cases h0 : z = 0
  · have hs : sndB l = (rd (l.drop p)).1 := by
      unfold sndB
      rw [← HU.out, ← HZ.out, if_pos h0, HP.out]
    subst h0
    have hpi : (p : Int) ≤ n := by omega
    have hdr : Lies w1 F (if c = p then a else a.map (·.add p)) ((l.drop p).map bv) := by rw [List.map_drop]; exact (HW.out.keep K1.out (fun _ _ h => h)).drop p (by rw [List.length_map, HL.out]; exact hc)
    obtain ⟨A2, hA2⟩ : ∃ A2, (if c = p then a else Option.map (fun x => x.add p) a) = A2 := ⟨_, rfl⟩
    rw [hA2] at hdr
    have TWO := Lib.hid (fone_any F A2 (n - p) (c - p) (l.drop p) w1 hdr (by rw [List.length_drop, HL.out]) (by omega) (by omega))
    obtain ⟨v, hv⟩ : ∃ v, v = rd (l.drop p) := ⟨_, rfl⟩
    rw [← hv] at TWO hs
    have HS := Lib.hid hs
    clear hs hdr hv
    go_wp2_with fail
    refine TWO.out.mono ?_
    rintro e w3 ⟨A3, c3, rfl, o3, k3⟩
    have R3 := Lib.hid o3
    have K3 := Lib.hid (K1.out.step k3)
    clear o3 k3 TWO hA2
    go_wp2
    go_ret
    rw [HS.out]
    exact ⟨A3, c3, rfl, own_base R3.out (fun i hi => Nat.le_trans K1.out.size (R3.out.lt i hi).1), K3.out⟩
  · have hs : sndB l = [] := by
      unfold sndB
      rw [← HU.out, ← HZ.out, if_neg h0]
    have h2 : ((z : Int) == 0) = false := beq_false_of_ne (fun h => h0 (by omega))
    have HS := Lib.hid hs
    clear hs h0
    go_wp2
    go_ret
    rw [HS.out]
    exact ⟨none, 0, rfl, World.ownsRow_nil _ _ _ _, K1.out⟩
end Go.Proofs.YthmjjhjblokjeaaGreat
