/-
  A disk's methods, tenth part: Names. No statement is proved here.
-/
import Derived.Test.YtdcccjkondjhbaaFiles8
import Derived.Test.YtdcccjkondjhbaaIter
namespace Go.Proofs.Ytdcccjkondjhbaa
open Go.RowKit Go.Maps Go.Sort Go.Shelf

theorem strKeys_enc (N : Dir) : strKeys (Dir.enc N) = N.map (·.1) := by
  unfold Dir.enc strKeys
  simp only
  rw [List.map_map]
  rfl
theorem le_tr (x y z : List UInt8) (h1 : decide (x ≤ y) = true) (h2 : decide (y ≤ z) = true) : decide (x ≤ z) = true := by
  simp only [decide_eq_true_eq] at *
  exact List.le_trans h1 h2
theorem le_tot (x y : List UInt8) : (decide (x ≤ y) || decide (y ≤ x)) = true := by
  simp only [Bool.or_eq_true, decide_eq_true_eq]
  exact List.le_total x y

set_option maxRecDepth 100000 in
set_option maxHeartbeats 2000000 in
theorem names_any (F : Nat → Prop) (d : Nat) (S : St) (w : World) (h : Dk w F d S) :
    Calls Try.prog 15 #[.pointer (some ⟨d, 0, none⟩)] w fun e w' => ∃ (A : Option Addr) (c : Nat) (ns : List (List UInt8)), e = .returned (.slice A ns.length c) ∧ ns.Perm (S.cur.map (·.1)) ∧ ns.Pairwise (fun x y => x ≤ y) ∧
      w'.ownsRow w.heap.size 9 1 (.slice A ns.length c) ns.length (ns.map fun s => .string (str s)) ∧ Kept noBlock w w' := by
  obtain ⟨mc, ms, A, c, R, h⟩ := h
  have hb := h.blk
  unfold dcells at hb
  have c1 : w.cell? ⟨d, 1, none⟩ = some (.map mc) := cell_of_row _ _ _ _ _ _ hb
  have hk := (callsIn_wide (n := 5)).1 (Try.maps_Keys_32 mc w)
  clear hb
  cases mc with
  | none =>
    have hcur : S.cur = [] := h.cur
    have hs := (callsIn_wide (n := 5)).1 (Try.slices_Sorted_keys_nil_31_32 w)
    clear h
    go_enter Try.func15, Try.ntmps15
    go_wp2_with fail
    refine hk.mono ?_
    rintro e w1 ⟨rfl, rfl⟩
    go_wp2_with fail
    refine hs.mono ?_
    rintro e w2 ⟨v, ss, rfl, rfl, hrow, hnil, hbel⟩
    obtain rfl := hnil.2 rfl
    have hb2 := Lib.hid hbel
    clear hbel hrow hnil hs hk
    go_wp2
    go_ret
    refine ⟨none, 0, [], rfl, by rw [hcur]; exact List.Perm.refl _, List.Pairwise.nil, World.ownsRow_nil _ _ _ _, ?_⟩
    exact (Kept.alloc noBlock w _).step (Kept.of_below hb2.out (fun i h1 h2 => by omega))
  | some b =>
    have hsz : Maps.size (Dir.enc S.cur) ≤ 1000000 := by rw [Dir.enc_size]; have := h.ok.cur_len; have := h.ok.calls_le; omega
    have hs := (callsIn_wide (n := 5)).1 (Try.slices_Sorted_keys_31_32 b S.cur.length (Dir.enc S.cur) fileR w h.cur (by unfold maxLen; omega) (by omega))
    rw [strKeys_enc] at hs
    clear h hsz
    go_enter Try.func15, Try.ntmps15
    go_wp2_with fail
    refine hk.mono ?_
    rintro e w1 ⟨rfl, rfl⟩
    go_wp2_with fail
    refine hs.mono ?_
    rintro e w2 ⟨v, ss, rfl, hp, hrow, hnil, hbel⟩
    obtain ⟨A', c', rfl, _⟩ := own_form hrow
    have hl : (ss.mergeSort (fun x y => decide (x ≤ y))).length = ss.length := List.length_mergeSort _
    obtain ⟨ns, hns⟩ : ∃ ns, ns = ss.mergeSort (fun x y => decide (x ≤ y)) := ⟨_, rfl⟩
    rw [← hns] at hrow hl
    have hpm : ns.Perm (S.cur.map (·.1)) := by rw [hns]; exact (List.mergeSort_perm _ _).trans hp
    have HB := Lib.hid hbel
    have HR := Lib.hid hrow
    have HP := Lib.hid hpm
    have HNS := Lib.hid hns
    clear hbel hrow hnil hs hk hpm hns
    go_wp2
    go_ret
    rw [← hl]
    refine ⟨A', c', ns, rfl, HP.out, ?_, ?_, ?_⟩
    · rw [HNS.out]
      exact (List.pairwise_mergeSort le_tr le_tot ss).imp (fun h => by simpa using h)
    · have hr := HR.out
      rw [← hl] at hr
      exact own_base hr (fun k hk => Nat.le_trans (by simp) (hr.lt k hk).1)
    · exact (Kept.alloc noBlock w _).step (Kept.of_below HB.out (fun i h1 h2 => by omega))
end Go.Proofs.Ytdcccjkondjhbaa
