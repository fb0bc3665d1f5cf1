/-
  The document's examples, as the statements of layer 6 ask them ahead of all else. No statement is proved here.
-/
import Derived.Test.YtgffdobhdkieaaaCmdsBytes
import Derived.Test.YtgffdobhdkieaaaCmdsRead
import Derived.Test.YtgffdobhdkieaaaCmdsRow
namespace Go.Proofs.Ytgffdobhdkieaaa
open Go.RowKit

def awE : EntryV := ⟨3, 1, ⟨1, 1, 2, ⟨#[107]⟩, ⟨#[118]⟩, ⟨#[]⟩⟩⟩
theorem awE_right : awE.Right := by
  have h1 : awE.cmd.key.size = 1 := rfl
  have h2 : awE.cmd.value.size = 1 := rfl
  have h3 : awE.cmd.old.size = 0 := rfl
  exact ⟨by decide, by decide, by decide, by decide, .inr ⟨by decide, by decide, by decide, by decide, by decide, by decide, by omega, by omega, by omega, by omega⟩⟩
theorem gotE_bytes {e : EntryV} (h : e.Right) : gotE e.bytes = e := by unfold gotE; rw [entryOf_bytes h]; rfl
theorem gotB_bytes {e : EntryV} (h : e.Right) : gotB e.bytes = true := by unfold gotB; rw [entryOf_bytes h]; rfl
theorem gotB_some {l : List UInt8} (h : gotB l = true) : (gotE l).Right ∧ (gotE l).bytes = l := by
  unfold gotB at h
  obtain ⟨e, he⟩ := Option.isSome_iff_exists.1 h
  have hg : gotE l = e := by unfold gotE; rw [he]; rfl
  rw [hg]
  exact entryOf_some he
theorem gotB_none {l : List UInt8} (h : gotB l = false) : gotE l = noEntry := by
  unfold gotB at h
  unfold gotE
  cases he : entryOf l with
  | none => rfl
  | some e => rw [he] at h; cases h

/-- An entry that lies in a block of its own, as a row. -/
theorem lies_one {w : World} {B : Nat} {t : TypeId} {fr : Nat × Nat} (e : EntryV) (hb : w.heap[B]? = some (.cells e.cells.toArray t fr)) : Lies w (fun _ => True) (some ⟨B, 0, none⟩) (entCells [e]) := fun _ =>
  ⟨_, rfl, trivial, fun j u hu => World.news_of_block hb j u (by simpa [entCells] using hu)⟩

set_option maxRecDepth 100000 in
set_option maxHeartbeats 1000000 in
theorem awake_any (w : World) : Calls Try.prog 10 #[] w fun e w' => e = .returned (.bool true) ∧ Kept noBlock w w' := by
  have hby := fun w => bytes_any awE 59 w (by rw [EntryV.bytes_length]; rfl) (by decide)
  have hx := fun w => entry_eql w awE awE
  rw [EntryV.same_self] at hx
  have hm1 := may_any noCmd
  rw [decide_eq_true (show noCmd.May from .inl ⟨rfl, rfl, rfl, rfl, rfl, rfl⟩)] at hm1
  have hm2 := may_any ⟨0, 0, 0, ⟨#[107]⟩, ⟨#[]⟩, ⟨#[]⟩⟩
  rw [decide_eq_false (show ¬ CmdV.May ⟨0, 0, 0, ⟨#[107]⟩, ⟨#[]⟩, ⟨#[]⟩⟩ from by
    intro h
    rcases h with h | h
    · exact absurd h.2.2.2.1 (by decide)
    · exact absurd h.1 (by decide))] at hm2
  have hrw : rowB [awE] 3 0 = true := by
    rw [rowB_cons, rowB_nil, decide_eq_true ⟨awE_right, rfl, by decide⟩]
    rfl
  unfold EntryV.val awE at hx
  unfold CmdV.val noCmd at hm1
  unfold CmdV.val at hm2
  simp only at hx hm1 hm2
  have HRW := Lib.hid hrw
  clear hrw
  go_enter Try.func10, Try.ntmps10
  go_wp2_with fail
  refine (hby _).mono ?_
  rintro e w1 ⟨A, c, rfl, h1, k1⟩
  have hb1 := k1.blk (heap_alloc_new w _) (fun h => h)
  have K1 := Lib.hid ((Kept.alloc noBlock w _).step k1)
  go_wp2_with fail
  refine (read_any (fun _ => True) A 59 c awE.bytes w1 (Lies.of_own h1 (fun _ _ => trivial)) (by rw [EntryV.bytes_length]; rfl) (by decide)).mono ?_
  rw [gotE_bytes awE_right, gotB_bytes awE_right]
  rintro e w2 ⟨rfl, k2⟩
  have hb2 := k2.blk hb1 (fun h => h)
  have K2 := Lib.hid (K1.out.step k2)
  clear h1 k1 k2 hb1 hby
  have d0 : w2.cell? ⟨w.heap.size, 0, none⟩ = some (.int .i64 3) := cell_of_row _ _ _ _ _ _ hb2
  have d1 : w2.cell? ⟨w.heap.size, 1, none⟩ = some (.int .i64 1) := cell_of_row _ _ _ _ _ _ hb2
  have d2 : w2.cell? ⟨w.heap.size, 2, none⟩ = some (.int .i64 1) := cell_of_row _ _ _ _ _ _ hb2
  have d3 : w2.cell? ⟨w.heap.size, 3, none⟩ = some (.int .i64 1) := cell_of_row _ _ _ _ _ _ hb2
  have d4 : w2.cell? ⟨w.heap.size, 4, none⟩ = some (.int .i64 2) := cell_of_row _ _ _ _ _ _ hb2
  have d5 : w2.cell? ⟨w.heap.size, 5, none⟩ = some (.string ⟨#[107]⟩) := cell_of_row _ _ _ _ _ _ hb2
  have d6 : w2.cell? ⟨w.heap.size, 6, none⟩ = some (.string ⟨#[118]⟩) := cell_of_row _ _ _ _ _ _ hb2
  have d7 : w2.cell? ⟨w.heap.size, 7, none⟩ = some (.string ⟨#[]⟩) := cell_of_row _ _ _ _ _ _ hb2
  have hlt := lt_of_blk hb2
  have HB2 := Lib.hid hb2
  clear hb2
  unfold EntryV.val awE
  go_wp2_with fail
  refine (hm1 _).mono ?_
  rintro e w3 ⟨rfl, k3⟩
  have K3 := Lib.hid ((Kept.alloc noBlock w2 _).step k3)
  clear k3
  go_wp2_with fail
  refine (hm2 _).mono ?_
  rintro e w4 ⟨rfl, k4⟩
  have K4 := Lib.hid (K3.out.step k4)
  have HB4 := Lib.hid (K4.out.blk HB2.out (fun h => h))
  clear k4 d0 d1 d2 d3 d4 d5 d6 d7 hm1 hm2 hx
  have d0 : w4.cell? ⟨w.heap.size, 0, none⟩ = some (.int .i64 3) := cell_of_row _ _ _ _ _ _ HB4.out
  have d1 : w4.cell? ⟨w.heap.size, 1, none⟩ = some (.int .i64 1) := cell_of_row _ _ _ _ _ _ HB4.out
  have d2 : w4.cell? ⟨w.heap.size, 2, none⟩ = some (.int .i64 1) := cell_of_row _ _ _ _ _ _ HB4.out
  have d3 : w4.cell? ⟨w.heap.size, 3, none⟩ = some (.int .i64 1) := cell_of_row _ _ _ _ _ _ HB4.out
  have d4 : w4.cell? ⟨w.heap.size, 4, none⟩ = some (.int .i64 2) := cell_of_row _ _ _ _ _ _ HB4.out
  have d5 : w4.cell? ⟨w.heap.size, 5, none⟩ = some (.string ⟨#[107]⟩) := cell_of_row _ _ _ _ _ _ HB4.out
  have d6 : w4.cell? ⟨w.heap.size, 6, none⟩ = some (.string ⟨#[118]⟩) := cell_of_row _ _ _ _ _ _ HB4.out
  have d7 : w4.cell? ⟨w.heap.size, 7, none⟩ = some (.string ⟨#[]⟩) := cell_of_row _ _ _ _ _ _ HB4.out
  go_wp2_with fail
  refine (row_any (fun _ => True) _ 1 _ 3 [awE] _ (lies_one awE (heap_alloc_new _ _)) rfl (by decide) (by decide)).mono ?_
  rw [HRW.out]
  rintro e w5 ⟨rfl, k5⟩
  have K5 := Lib.hid ((K2.out.step K4.out).step ((Kept.alloc noBlock w4 _).step k5))
  clear k5 d0 d1 d2 d3 d4 d5 d6 d7
  go_wp2
  go_ret
  exact ⟨rfl, K5.out⟩

end Go.Proofs.Ytgffdobhdkieaaa
