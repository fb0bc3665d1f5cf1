/-
  A disk's methods, second part: copies of names, and names behind changes. No statement is proved here.
-/
import Derived.Test.YtdcccjkondjhbaaFiles
namespace Go.Proofs.Ytdcccjkondjhbaa
open Go.RowKit Go.Maps

theorem run_eql_map_nil (w : World) (p : Option Nat) : (binOp .eql 54 (.map p) (.map none)).run Try.prog w = .ok (.bool p.isNone) w :=
  run_eql_map_nil_sl w 54 9 59 p Try.underlying54

set_option maxRecDepth 100000 in
set_option maxHeartbeats 1000000 in
theorem mclone_any (v : Option Nat) (N : Dir) (w : World) (h : Nm w v N) :
    Calls Try.prog 37 #[.map v] w fun e w' => ∃ v', e = .returned (.map v') ∧ Nm w' v' N ∧ Kept noBlock w w' ∧ v'.isNone = v.isNone ∧ ∀ b, v' = some b → w.heap.size ≤ b := by
  have hq := fun w => run_eql_map_nil w v
  cases v with
  | none =>
    simp only [Option.isNone_none] at hq
    go_enter Try.func37, Try.ntmps37
    go_wp2
    go_ret
    exact ⟨none, rfl, h, Kept.refl _ _, rfl, fun b h => by cases h⟩
  | some b =>
    simp only [Option.isNone_some] at hq
    obtain ⟨es, clock, hb, F, hs, hD⟩ := h
    have HD := Lib.hid hD; clear hD
    have hc := run_maps_clone_sl (P := Try.prog) w 54 hb
    go_enter Try.func37, Try.ntmps37
    go_wp2
    rw [run_callFunc_extern Try.func41 (by kernel_rfl) (by kernel_rfl) (by kernel_rfl) (e := Extern.MapsClone.clone) (by kernel_rfl), hc]
    simp only [Result.andThen]
    rw [Oper.upon_value]
    go_wp2
    rw [run_typeAssert_map_sl _ 54 20 9 59 _ Try.underlying54]
    simp only [Result.andThen]
    rw [Oper.upon_value]
    go_wp2
    go_ret
    exact ⟨some w.heap.size, rfl, ⟨es, clock, heap_alloc_new w _, F, hs, HD.out⟩, Kept.alloc _ _ _, rfl, fun b h => by cases h; exact Nat.le_refl _⟩

set_option maxRecDepth 100000 in
set_option maxHeartbeats 2000000 in
theorem after_any (G : Nat → Prop) (v : Option Nat) (N : Dir) (A : Option Addr) (n c : Nat) (cs : List Chg) (w : World) (h : Nm w v N) (hl : Lies w G A (chgCells cs)) (hn : cs.length = n) (hnc : n ≤ c) (hb : N.length + n < 1000000000)
    (hname : ∀ x ∈ cs, x.frm.length ≤ maxLen ∧ x.to_.length ≤ maxLen) :
    Calls Try.prog 20 #[.map v, .slice A n c] w fun e w' => ∃ b, e = .returned (.map (some b)) ∧ Nm w' (some b) (Dir.after N cs) ∧ Kept noBlock w w' ∧ w.heap.size ≤ b := by
  have HN := Lib.hid hn; clear hn
  have HNm := Lib.hid hname; clear hname
  have HLi := Lib.hid hl; clear hl
  have go : ∀ (b : Nat) (w1 : World), Nm w1 (some b) N → Kept noBlock w w1 → w.heap.size ≤ b → True := fun _ _ _ _ _ => trivial
  clear go
  go_enter Try.func20, Try.ntmps20
  go_wp2_with fail
  refine (mclone_any v N w h).mono ?_
  rintro e w1 ⟨v', rfl, hN1, k1, hv', hvb⟩
  have hq := fun w => run_eql_map_nil w v'
  clear hv' h
  cases v' with
  | none =>
    simp only [Option.isNone_none] at hq
    have hN0 : N = [] := hN1
    clear hvb hN1
    have hmm := @run_makeMap Try.prog
    obtain ⟨b, hb0⟩ : ∃ b, b = w1.heap.size := ⟨_, rfl⟩
    have hbw : w.heap.size ≤ b := by rw [hb0]; exact k1.size
    have H1 : Hid (Nm (w1.alloc (.map #[] 0)) (some b) N) := by rw [hN0, hb0]; exact Lib.hid (Nm.made w1)
    have k1 := k1.step (Kept.alloc noBlock w1 (.map #[] 0))
    have HN0 := Lib.hid hN0; clear hN0
    go_wp2
    rw [← hb0]
    clear hmm
    generalize w1.alloc (.map #[] 0) = w2 at *
    clear hb0
    go_loopw [15] (fun x wr => ∃ k : Nat, k ≤ n ∧ x = .int .i64 (k : Int) ∧ Hid (Nm wr (some b) (Dir.after N (cs.take k))) ∧ Kept noBlock w wr) (fun x _ => n - (intOf x).toNat)
    case atStart => exact ⟨0, by omega, rfl, H1, k1⟩
    case round =>
      obtain ⟨k, hk, rfl, HNk, kk⟩ := hrel
      by_cases hlt : k < n
      · have hdec : decide ((k : Int) < (n : Int)) = true := by simp; omega
        obtain ⟨x, hx⟩ : ∃ x, cs[k]? = some x := ⟨cs[k]'(by rw [HN.out]; exact hlt), List.getElem?_eq_getElem _⟩
        obtain ⟨g, o, rfl, hG, hcell⟩ := HLi.out.norm (by intro e; have := chgCells_len cs; rw [e, HN.out] at this; simp at this; omega)
        have q0 : wr.cell? ⟨g, o + k * 3, none⟩ = some (.string (str x.frm)) := by
          have := kk.cell (hcell (3 * k + 0) (.string (str x.frm)) (by rw [chgCells_at cs hx 0 (by omega)]; rfl)) (fun h => h)
          rw [Nat.mul_comm] at this
          exact this
        have q1 : wr.cell? ⟨g, o + k * 3 + 1, none⟩ = some (.string (str x.to_)) := by
          have := kk.cell (hcell (3 * k + 1) (.string (str x.to_)) (by rw [chgCells_at cs hx 1 (by omega)]; rfl)) (fun h => h)
          rw [Nat.mul_comm] at this
          exact this
        have q2 : wr.cell? ⟨g, o + k * 3 + 2, none⟩ = some (ptrOf x.file) := by
          have := kk.cell (hcell (3 * k + 2) (ptrOf x.file) (by rw [chgCells_at cs hx 2 (by omega)]; rfl)) (fun h => h)
          rw [Nat.mul_comm] at this
          exact this
        have hxn := HNm.out x (List.mem_of_getElem? hx)
        have HX := Lib.hid hx
        have HXN := Lib.hid hxn
        have hlen : Hid ((Dir.after N (cs.take k)).length + 1 < maxLen) := by
          have h1 := Dir.after_len (cs.take k) N
          rw [List.length_take] at h1
          show _ < _
          unfold maxLen
          have := HN.out
          omega
        clear hcell hdec hx hxn
        obtain ⟨f0, t0, fo⟩ := x
        simp only at q0 q1 q2
        have hback := Lib.hid (show b < wr.heap.size from HNk.out.lt)
        cases fo with
        | none =>
          have q2' : wr.cell? ⟨g, o + k * 3 + 2, none⟩ = some (.pointer none) := q2
          clear q2
          go_wp2_with (at_delete; refine wpList_mdel rfl _ _ 54 59 rfl Try.underlying54 b (Dir.after N (cs.take k)) rfl ?hm f0 rfl HXN.out.1 ?_)
          case hm => exact HNk.out.keep (Kept.alloc noBlock wr _) (fun _ _ h => h)
          intro w2 hN2 k2
          have HN2 := Lib.hid hN2; clear hN2
          have hne : wr.heap.size ≠ b := fun e => by have := hback.out; omega
          have r2 : w2.cell? ⟨wr.heap.size, 2, none⟩ = some (.pointer none) := k2.cell (cell_of_row _ _ _ _ _ _ (heap_alloc_new wr _)) hne
          have KK := Lib.hid (show Kept noBlock w w2 from (kk.step (Kept.alloc noBlock wr _)).trans k2 (fun i hi e => by omega))
          clear k2 kk q0 q1 q2'
          go_wp2
          go_roundw
          case rel =>
            refine ⟨k + 1, by omega, by go_num, ?_, KK.out⟩
            rw [take_snoc cs k _ HX.out, Dir.after_snoc]
            exact HN2
          case measure => simp [intOf]; omega
        | some f =>
          have q2' : wr.cell? ⟨g, o + k * 3 + 2, none⟩ = some (.pointer (some ⟨f, 0, none⟩)) := q2
          clear q2
          go_wp2_with (at_delete; refine wpList_mdel rfl _ _ 54 59 rfl Try.underlying54 b (Dir.after N (cs.take k)) rfl ?hm f0 rfl HXN.out.1 ?_)
          case hm => exact HNk.out.keep (Kept.alloc noBlock wr _) (fun _ _ h => h)
          intro w2 hN2 k2
          have HN2 := Lib.hid hN2; clear hN2
          have hne : wr.heap.size ≠ b := fun e => by have := hback.out; omega
          have r1 : w2.cell? ⟨wr.heap.size, 1, none⟩ = some (.string (str t0)) := k2.cell (cell_of_row _ _ _ _ _ _ (heap_alloc_new wr _)) hne
          have r2 : w2.cell? ⟨wr.heap.size, 2, none⟩ = some (.pointer (some ⟨f, 0, none⟩)) := k2.cell (cell_of_row _ _ _ _ _ _ (heap_alloc_new wr _)) hne
          have KK := Lib.hid (show Kept noBlock w w2 from (kk.step (Kept.alloc noBlock wr _)).trans k2 (fun i hi e => by omega))
          clear k2 kk q0 q1 q2'
          go_wp2_with (at_mapUpdate; refine wpList_mput rfl _ _ _ 54 59 rfl Try.underlying54 b (Dir.del (Dir.after N (cs.take k)) f0) rfl HN2.out t0 rfl HXN.out.2 ?hm f rfl ?_)
          case hm => exact Nat.lt_of_le_of_lt (Dir.del_len _ _) (Nat.lt_of_succ_lt hlen.out)
          intro w3 hN3 k3
          have HN3 := Lib.hid hN3; clear hN3
          have K3 := Lib.hid (show Kept noBlock w w3 from KK.out.trans k3 (fun i hi e => by omega))
          clear k3
          go_wp2
          go_roundw
          case rel =>
            refine ⟨k + 1, by omega, by go_num, ?_, K3.out⟩
            rw [take_snoc cs k _ HX.out, Dir.after_snoc]
            exact HN3
          case measure => simp [intOf]; omega
      · obtain rfl : k = n := by omega
        go_wp2
        go_ret
        rw [List.take_of_length_le (by rw [HN.out]; exact Nat.le_refl _)] at HNk
        exact ⟨b, rfl, HNk.out, kk, hbw⟩
  | some b =>
    simp only [Option.isNone_some] at hq
    have hbw := hvb b rfl
    clear hvb
    have H1 := Lib.hid hN1; clear hN1
    go_wp2
    go_loopw [15] (fun x wr => ∃ k : Nat, k ≤ n ∧ x = .int .i64 (k : Int) ∧ Hid (Nm wr (some b) (Dir.after N (cs.take k))) ∧ Kept noBlock w wr) (fun x _ => n - (intOf x).toNat)
    case atStart => exact ⟨0, by omega, rfl, H1, k1⟩
    case round =>
      obtain ⟨k, hk, rfl, HNk, kk⟩ := hrel
      by_cases hlt : k < n
      · have hdec : decide ((k : Int) < (n : Int)) = true := by simp; omega
        obtain ⟨x, hx⟩ : ∃ x, cs[k]? = some x := ⟨cs[k]'(by rw [HN.out]; exact hlt), List.getElem?_eq_getElem _⟩
        obtain ⟨g, o, rfl, hG, hcell⟩ := HLi.out.norm (by intro e; have := chgCells_len cs; rw [e, HN.out] at this; simp at this; omega)
        have q0 : wr.cell? ⟨g, o + k * 3, none⟩ = some (.string (str x.frm)) := by
          have := kk.cell (hcell (3 * k + 0) (.string (str x.frm)) (by rw [chgCells_at cs hx 0 (by omega)]; rfl)) (fun h => h)
          rw [Nat.mul_comm] at this
          exact this
        have q1 : wr.cell? ⟨g, o + k * 3 + 1, none⟩ = some (.string (str x.to_)) := by
          have := kk.cell (hcell (3 * k + 1) (.string (str x.to_)) (by rw [chgCells_at cs hx 1 (by omega)]; rfl)) (fun h => h)
          rw [Nat.mul_comm] at this
          exact this
        have q2 : wr.cell? ⟨g, o + k * 3 + 2, none⟩ = some (ptrOf x.file) := by
          have := kk.cell (hcell (3 * k + 2) (ptrOf x.file) (by rw [chgCells_at cs hx 2 (by omega)]; rfl)) (fun h => h)
          rw [Nat.mul_comm] at this
          exact this
        have hxn := HNm.out x (List.mem_of_getElem? hx)
        have HX := Lib.hid hx
        have HXN := Lib.hid hxn
        have hlen : Hid ((Dir.after N (cs.take k)).length + 1 < maxLen) := by
          have h1 := Dir.after_len (cs.take k) N
          rw [List.length_take] at h1
          show _ < _
          unfold maxLen
          have := HN.out
          omega
        clear hcell hdec hx hxn
        obtain ⟨f0, t0, fo⟩ := x
        simp only at q0 q1 q2
        have hback := Lib.hid (show b < wr.heap.size from HNk.out.lt)
        cases fo with
        | none =>
          have q2' : wr.cell? ⟨g, o + k * 3 + 2, none⟩ = some (.pointer none) := q2
          clear q2
          go_wp2_with (at_delete; refine wpList_mdel rfl _ _ 54 59 rfl Try.underlying54 b (Dir.after N (cs.take k)) rfl ?hm f0 rfl HXN.out.1 ?_)
          case hm => exact HNk.out.keep (Kept.alloc noBlock wr _) (fun _ _ h => h)
          intro w2 hN2 k2
          have HN2 := Lib.hid hN2; clear hN2
          have hne : wr.heap.size ≠ b := fun e => by have := hback.out; omega
          have r2 : w2.cell? ⟨wr.heap.size, 2, none⟩ = some (.pointer none) := k2.cell (cell_of_row _ _ _ _ _ _ (heap_alloc_new wr _)) hne
          have KK := Lib.hid (show Kept noBlock w w2 from (kk.step (Kept.alloc noBlock wr _)).trans k2 (fun i hi e => by omega))
          clear k2 kk q0 q1 q2'
          go_wp2
          go_roundw
          case rel =>
            refine ⟨k + 1, by omega, by go_num, ?_, KK.out⟩
            rw [take_snoc cs k _ HX.out, Dir.after_snoc]
            exact HN2
          case measure => simp [intOf]; omega
        | some f =>
          have q2' : wr.cell? ⟨g, o + k * 3 + 2, none⟩ = some (.pointer (some ⟨f, 0, none⟩)) := q2
          clear q2
          go_wp2_with (at_delete; refine wpList_mdel rfl _ _ 54 59 rfl Try.underlying54 b (Dir.after N (cs.take k)) rfl ?hm f0 rfl HXN.out.1 ?_)
          case hm => exact HNk.out.keep (Kept.alloc noBlock wr _) (fun _ _ h => h)
          intro w2 hN2 k2
          have HN2 := Lib.hid hN2; clear hN2
          have hne : wr.heap.size ≠ b := fun e => by have := hback.out; omega
          have r1 : w2.cell? ⟨wr.heap.size, 1, none⟩ = some (.string (str t0)) := k2.cell (cell_of_row _ _ _ _ _ _ (heap_alloc_new wr _)) hne
          have r2 : w2.cell? ⟨wr.heap.size, 2, none⟩ = some (.pointer (some ⟨f, 0, none⟩)) := k2.cell (cell_of_row _ _ _ _ _ _ (heap_alloc_new wr _)) hne
          have KK := Lib.hid (show Kept noBlock w w2 from (kk.step (Kept.alloc noBlock wr _)).trans k2 (fun i hi e => by omega))
          clear k2 kk q0 q1 q2'
          go_wp2_with (at_mapUpdate; refine wpList_mput rfl _ _ _ 54 59 rfl Try.underlying54 b (Dir.del (Dir.after N (cs.take k)) f0) rfl HN2.out t0 rfl HXN.out.2 ?hm f rfl ?_)
          case hm => exact Nat.lt_of_le_of_lt (Dir.del_len _ _) (Nat.lt_of_succ_lt hlen.out)
          intro w3 hN3 k3
          have HN3 := Lib.hid hN3; clear hN3
          have K3 := Lib.hid (show Kept noBlock w w3 from KK.out.trans k3 (fun i hi e => by omega))
          clear k3
          go_wp2
          go_roundw
          case rel =>
            refine ⟨k + 1, by omega, by go_num, ?_, K3.out⟩
            rw [take_snoc cs k _ HX.out, Dir.after_snoc]
            exact HN3
          case measure => simp [intOf]; omega
      · obtain rfl : k = n := by omega
        go_wp2
        go_ret
        rw [List.take_of_length_le (by rw [HN.out]; exact Nat.le_refl _)] at HNk
        exact ⟨b, rfl, HNk.out, kk, hbw⟩
end Go.Proofs.Ytdcccjkondjhbaa
