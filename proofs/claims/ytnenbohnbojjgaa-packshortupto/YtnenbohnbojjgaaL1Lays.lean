/-
  PackLays: what it does with whatever parts. No statement is proved here.
-/
import Derived.Test.YtnenbohnbojjgaaL1Apart
namespace Go.Proofs.Ytnenbohnbojjgaa
open Go.RowKit

/-- A part is read as it was laid. -/
theorem read_bytes (p : PartV) (r : List UInt8) (h : p.ok) : p.read (p.bytes ++ r) false = (true, r, false) := by
  unfold PartV.read PartV.bytes
  have h3 : p.text.data.toList.length = p.text.size := by rw [Array.length_toList]; rfl
  have h4 := h.2.2
  split
  · rw [rNum_be8 _ _ h.1 h.2.1]; simp
  · split
    · have e : rByte ([low p.num] ++ r) false = (low p.num, r, false) := by unfold rByte; simp
      rw [e]; simp
    · have e : rText (be8 p.text.size ++ p.text.data.toList ++ r) false = (p.text.data.toList, r, false) := by
        unfold rText
        rw [List.append_assoc, rNum_be8 _ _ (by omega) (by omega)]
        have e1 : ((p.text.size : Int)).toNat = p.text.data.toList.length := by omega
        rw [if_neg (by simp [h3]; omega), e1]
        simp
      rw [e]; simp
theorem laid_drop (ps : List PartV) (k : Nat) (p : PartV) (h : ps[k]? = some p) : laid (ps.drop k) = p.bytes ++ laid (ps.drop (k + 1)) := by
  obtain ⟨hk, e⟩ := List.getElem?_eq_some_iff.1 h
  rw [List.drop_eq_getElem_cons hk, e]
  simp [laid]

set_option maxHeartbeats 1000000 in
theorem lays_walk (F : Nat → Prop) (a : Option Addr) (n c : Nat) (ps : List PartV) (w : World) (h : Lies w F a (partCells ps)) (hl : ps.length = n) (hnc : n ≤ c) (hn : n ≤ 1048576) (hp : ∀ p ∈ ps, p.ok) :
    Calls Try.prog 3 #[.slice a n c] w fun e w' => e = .returned (.bool true) ∧ Kept noBlock w w' := by
  go_enter Try.func3, Try.ntmps3
  go_wp2_with fail
  refine (awake_any w).mono ?_
  rintro e w1 ⟨rfl, k1⟩
  go_upto_region 5 with (fail)
  go_cut [0] (fun s wc => w1.alloc (.cells #[.slice none 0 0] 27) = wc ∧ s = .slice a (min n 200) c)
  case first =>
    go_wp2
    all_goals
      go_meet
      case rel => exact ⟨rfl, by congr 1; omega⟩
  case rest =>
    obtain ⟨rfl, rfl⟩ := hcut
    obtain ⟨us, hus⟩ : ∃ us, us = ps.take (min n 200) := ⟨_, rfl⟩
    have hul : min n 200 = us.length := by rw [hus, List.length_take]; omega
    have hu2 : us.length ≤ 200 := by omega
    have huo : ∀ p ∈ us, p.ok := fun p hm => hp p (by rw [hus] at hm; exact List.mem_of_mem_take hm)
    have hu : Lies w1 F a (partCells us) := by rw [hus]; exact (parts_take h _).keep k1 (fun _ _ h => h)
    rw [hul]
    clear hus hul h hp
    go_wp2
    go_loopw [4, 21] (fun s i wr => ∃ (k : Nat) (G : Nat → Prop) (S : ByteArray), k ≤ us.length ∧ i = .int .i64 k ∧ s = .string S ∧ Hid (S = ByteArray.mk (laid (us.take k)).toArray) ∧ Kept noBlock w1 wr ∧ Wr wr G w1.heap.size (laid (us.take k)) ∧ ∀ i, G i → w1.heap.size ≤ i) (fun _ i _ => us.length - (intOf i).toNat)
    case atStart => exact ⟨0, _, _, by omega, rfl, rfl, rfl, Kept.alloc _ _ _, Wr.new w1, fun i h => by omega⟩
    case round =>
      obtain ⟨k, G, S, hk, rfl, rfl, HS, hkept, hw, hG⟩ := hrel
      have hbl := laid_length (us.take k) (fun q hq => huo q (List.mem_of_mem_take hq))
      have hkl : (us.take k).length ≤ 200 := by rw [List.length_take]; omega
      by_cases hlt : k < us.length
      · obtain ⟨p, hpk⟩ : ∃ p, us[k]? = some p := ⟨_, List.getElem?_eq_getElem hlt⟩
        obtain ⟨ba, oa, rfl, c0, c1, c2⟩ := parts_cell (hu.keep hkept (fun _ _ h => h)) hpk
        have hok := huo p (List.mem_of_getElem? hpk)
        have hbp := p.bytes_length hok
        have HX := Lib.hid (laid_snoc us k p hpk)
        clear hpk
        have hsx : ∀ i, G i → i < wr.heap.size := hw.lt
        go_wp2_with fail
        refine (lay_any _ G _ p _ (hw.keep (Kept.alloc noBlock wr _) (fun _ _ h => h)) (by omega)).mono ?_
        rintro e w3 ⟨rfl, r3⟩
        have hg3 := r3.1.blk (heap_alloc_new wr _) (fun h => by have := hsx _ h; omega)
        have d0 : w3.cell? ⟨wr.heap.size, 0, none⟩ = some (.int .u8 (p.kind.toNat : Int)) := cell_of_row _ _ _ _ _ _ hg3
        have d1 : w3.cell? ⟨wr.heap.size, 1, none⟩ = some (.int .i64 p.num) := cell_of_row _ _ _ _ _ _ hg3
        have d2 : w3.cell? ⟨wr.heap.size, 2, none⟩ = some (.string p.text) := cell_of_row _ _ _ _ _ _ hg3
        obtain ⟨q3, r4⟩ := Wr.after (Kept.alloc noBlock wr _) hsx r3
        rw [← HX.out] at r4
        clear hg3 r3 c0 c1 c2
        go_wp2_with fail
        refine (bytes_any p w3 hok).mono ?_
        rintro e w4 ⟨rfl, k4⟩
        obtain ⟨T, hT⟩ : ∃ T, T = ByteArray.mk p.bytes.toArray := ⟨_, rfl⟩
        rw [← hT]
        obtain ⟨Y, hY⟩ : ∃ Y, Y = laid (us.take (k + 1)) := ⟨_, rfl⟩
        have hYl : Y.length ≤ 210765384 := by rw [hY, HX.out, List.length_append]; omega
        rw [← hY] at r4
        have r5 := r4.keep k4 (fun _ _ h => h)
        have hST : S ++ T = ByteArray.mk Y.toArray := by rw [hT, HS.out, hY, HX.out]; apply ByteArray.ext; simp
        have hSs : S.size ≤ 209716800 := by rw [HS.out]; simpa [ByteArray.size] using (by omega : (laid (us.take k)).length ≤ 209716800)
        have hTs : T.size ≤ 1048584 := by rw [hT]; simpa [ByteArray.size] using hbp
        have HST := Lib.hid hST
        have HY := Lib.hid hY
        clear hST hT hY r4 d0 d1 d2
        go_wp2_with fail
        refine (wbytes_any _ _ Y w4 r5 (by omega)).mono ?_
        rintro e w5 ⟨A5, c5, rfl, h5, k5⟩
        have hcv := fun c => run_str_lies (P := Try.prog) (n := Y.length) 25 9 5 Try.underlying25 Try.underlying5 Try.underlying9 (Lies.of_own (F := fun _ => True) h5 (fun _ _ => trivial)) rfl c
        rw [← HST.out] at hcv
        have r6 := r5.keep k5 (fun _ _ h => h)
        clear h5
        go_wp2
        go_roundw
        case rel => exact ⟨k + 1, _, _, by omega, by go_num, rfl, by unfold Hid; rw [HST.out, HY.out], ((hkept.trans q3 (fun i hi h => absurd (hG i h) (by omega))).step k4).step k5, by rw [← HY.out]; exact r6, fun i hi => by rcases hi with h | h; exact hG i h; exact Nat.le_trans hkept.size h.1⟩
        case measure => simp [intOf]; omega
      · obtain rfl : k = us.length := by omega
        rw [List.take_length] at hw
        obtain ⟨Y, hY⟩ : ∃ Y, Y = laid us := ⟨_, rfl⟩
        have hYl : Y.length ≤ 210765384 := by have := laid_length us huo; rw [hY]; omega
        rw [← hY] at hw
        have HY := Lib.hid hY
        clear hY
        go_wp2_with fail
        refine (wbytes_any _ G Y wr hw (by omega)).mono ?_
        rintro e w2 ⟨A, cp, rfl, h2, k2⟩
        go_wp2_with fail
        refine (of_any (fun _ => True) A Y.length cp Y w2 (Lies.of_own h2 (fun _ _ => trivial)) rfl (by omega)).mono ?_
        rintro e w3 ⟨b, rfl, h3, k3⟩
        rw [HY.out] at h3
        clear h2 hw
        have k13 : Kept noBlock w1 w3 := (hkept.step k2).step k3
        have hb3 : w1.heap.size ≤ b := by have := h3.foot.1; have := (hkept.step k2).size; omega
        go_wp2
        go_loopw [43] (fun i wr => ∃ (k : Nat), k ≤ us.length ∧ i = .int .i64 k ∧ Kept noBlock w1 wr ∧ Rd wr (fresh w2 w3) b (laid (us.drop k)) false) (fun i _ => us.length - (intOf i).toNat)
        case atStart => exact ⟨0, by omega, rfl, k13, h3⟩
        case round =>
          obtain ⟨k, hk, rfl, hkept', hr⟩ := hrel
          by_cases hlt : k < us.length
          · obtain ⟨p, hpk⟩ : ∃ p, us[k]? = some p := ⟨_, List.getElem?_eq_getElem hlt⟩
            obtain ⟨ba, oa, rfl, c0, c1, c2⟩ := parts_cell (hu.keep hkept' (fun _ _ h => h)) hpk
            have hrd := read_bytes p (laid (us.drop (k + 1))) (huo p (List.mem_of_getElem? hpk))
            rw [laid_drop us k p hpk] at hr
            clear hpk
            have hr1 := hr.keep (Kept.alloc noBlock wr (.cells #[.int .u8 (p.kind.toNat : Int), .int .i64 p.num, .string p.text] 29)) (fun _ _ h => h)
            go_wp2_with fail
            refine (rbad_any b _ _ _ _ hr1).mono ?_
            rintro e w4 ⟨rfl, rfl⟩
            go_wp2_with fail
            refine (reads_any b _ _ _ p _ hr1).mono ?_
            rw [hrd]
            rintro e w5 ⟨rfl, h5, k5⟩
            simp only at h5
            clear hr hr1 hrd c0 c1 c2
            go_wp2
            go_roundw
            case rel => exact ⟨k + 1, by omega, by go_num, (hkept'.step (Kept.alloc _ _ _)).trans k5 (fun i hi h => by omega), h5⟩
            case measure => simp [intOf]; omega
          · obtain rfl : k = us.length := by omega
            rw [List.drop_length] at hr
            go_wp2_with fail
            refine (rdone_any b _ _ _ _ hr).mono ?_
            rintro e w4 ⟨rfl, rfl⟩
            go_wp2_with fail
            refine (rbad_any b _ _ _ _ hr).mono ?_
            rintro e w5 ⟨rfl, rfl⟩
            go_wp2
            go_ret
            exact ⟨rfl, k1.step hkept'⟩

end Go.Proofs.Ytnenbohnbojjgaa
