/-
  An entry whose texts are cut; an entry that is stored within a row. No statement is proved here.
-/
import Derived.Test.YthmjjhjblokjeaaSayK
import Derived.Test.YthmjjhjblokjeaaLate
import Derived.Deep.Strs
namespace Go.Proofs.Ythmjjhjblokjeaa
open Go.RowKit

/-- A text, cut to a hundred bytes. -/
def cutTo (s : ByteArray) : ByteArray := s.extract 0 (min s.size 100)
theorem cutTo_size (s : ByteArray) : (cutTo s).size ≤ 100 := by
  unfold cutTo
  rw [ByteArray.size_extract]
  omega
theorem cut_run (w : World) (s : ByteArray) (m : Nat) (hm : m = min s.size 100) : (Instr.slice 9 (.string s) none (some (.int .i64 (m : Int))) none).run Try.prog w = .ok (.string (cutTo s)) w := by
  have := run_slice_string_h (P := Try.prog) w 9 s Try.underlying9 .i64 (m : Int) (by omega) (by omega)
  rw [this]
  unfold cutTo
  rw [hm]
  rfl
/-- Entries whose texts are short. -/
def EntryV.Small (e : EntryV) : Prop := e.cmd.key.size ≤ 100 ∧ e.cmd.value.size ≤ 100 ∧ e.cmd.old.size ≤ 100
theorem EntryV.Small.len {e : EntryV} (h : e.Small) : e.bytes.length ≤ 357 := by
  have := e.bytes_length
  obtain ⟨h1, h2, h3⟩ := h
  omega
theorem SayV.small (s : SayV) (i t : Int) : EntryV.Small ⟨i, t, s.cmd⟩ := by
  have h := s.may
  unfold CmdV.May at h
  unfold EntryV.Small
  simp only
  omega
theorem ents_small (ss : List SayV) (i t : Int) : ∀ x ∈ entsOf ss i t, x.Small := by
  induction ss generalizing i t with
  | nil => intro x hx; simp [entsOf] at hx
  | cons s r ih =>
    intro x hx
    rcases List.mem_cons.1 hx with h | h
    · rw [h]; exact s.small _ _
    · exact ih _ _ x h

/-- An entry that is stored within a row. -/
def setEat (w : World) (g o : Nat) (e : EntryV) : World := ((((((((w.setCell ⟨g, o, none⟩ (.int .i64 e.index)).setCell ⟨g, o + 1, none⟩ (.int .i64 e.term)).setCell ⟨g, o + 2, none⟩ (.int .i64 e.cmd.op)).setCell ⟨g, o + 3, none⟩ (.int .i64 e.cmd.client)).setCell ⟨g, o + 4, none⟩ (.int .i64 e.cmd.seq)).setCell ⟨g, o + 5, none⟩ (.string e.cmd.key)).setCell ⟨g, o + 6, none⟩ (.string e.cmd.value)).setCell ⟨g, o + 7, none⟩ (.string e.cmd.old))
theorem setEat_kept (w : World) (g o : Nat) (e : EntryV) : Kept (fun k => k = g) w (setEat w g o e) := by
  unfold setEat
  exact (((((((Kept.setCell w (by rfl) _).step (Kept.setCell _ (by rfl) _)).step (Kept.setCell _ (by rfl) _)).step (Kept.setCell _ (by rfl) _)).step (Kept.setCell _ (by rfl) _)).step (Kept.setCell _ (by rfl) _)).step (Kept.setCell _ (by rfl) _)).step (Kept.setCell _ (by rfl) _)
theorem set_cells (es : List EntryV) (k : Nat) (e : EntryV) (hk : k < es.length) : (((((((((entCells es).set (k * 8) (.int .i64 e.index)).set (k * 8 + 1) (.int .i64 e.term)).set (k * 8 + 2) (.int .i64 e.cmd.op)).set (k * 8 + 3) (.int .i64 e.cmd.client)).set (k * 8 + 4) (.int .i64 e.cmd.seq)).set (k * 8 + 5) (.string e.cmd.key)).set (k * 8 + 6) (.string e.cmd.value)).set (k * 8 + 7) (.string e.cmd.old)) = entCells (es.set k e) := by
  induction es generalizing k with
  | nil => simp at hk
  | cons q r ih =>
    cases k with
    | zero => simp [entCells, EntryV.cells]
    | succ k =>
      have hi := ih k (by simpa using hk)
      have step : ∀ (l : List Value) (j : Nat) (v : Value), (q.cells ++ l).set (8 + j) v = q.cells ++ l.set j v := fun l j v => by
        rw [List.set_append_right _ _ (by rw [ecells_length]; omega), ecells_length, Nat.add_sub_cancel_left]
      rw [List.set_cons_succ, entCells_cons, entCells_cons, ← hi]
      have e0 : (k + 1) * 8 = 8 + k * 8 := by omega
      rw [e0]
      simp only [Nat.add_assoc, step]
theorem setEat_own {w : World} {es : List EntryV} {g m c k : Nat} (h : w.ownsRow 0 48 8 (.slice (some ⟨g, 0, none⟩) m c) m (entCells es)) (hm : es.length = m) (hk : k < m) (e : EntryV) :
    (setEat w g (k * 8) e).ownsRow 0 48 8 (.slice (some ⟨g, 0, none⟩) m c) m (entCells (es.set k e)) := by
  rw [← set_cells es k e (by omega)]
  unfold setEat
  exact (((((((h.stored _ _).1.stored _ _).1.stored _ _).1.stored _ _).1.stored _ _).1.stored _ _).1.stored _ _).1.stored _ _ |>.1
theorem src_ents {w : World} {F : Nat → Prop} {a : Option Addr} {m c : Nat} {es : List EntryV} (h : Lies w F a (entCells es)) (hl : es.length = m) : Src Try.prog 8 41 (.slice a m c) m (entCells es) w := by
  cases a with
  | none =>
    have hnil : entCells es = [] := by
      cases hh : entCells es with
      | nil => rfl
      | cons x r => obtain ⟨ad, h, _⟩ := h (by rw [hh]; simp); cases h
    have h0 : m = 0 := by have := entCells_length es; rw [hnil, hl] at this; simp at this; omega
    subst h0
    rw [hnil]
    exact Src.ofNil w Try.underlying41 c
  | some ad =>
    refine Src.ofSlice w Try.underlying41 ad m c _ (by rw [entCells_length, hl]) (fun j u hu => ?_) (one_ents _)
    obtain ⟨ad', e, _, hc⟩ := h.at_ hu
    injection e with e
    subst e
    exact hc

theorem turn_cells {w : World} {B : Nat} {e : EntryV} {t : TypeId} {fr : Nat × Nat} (h : w.heap[B]? = some (.cells e.cells.toArray t fr)) : w.cell? ⟨B, 0, none⟩ = some (.int .i64 e.index) ∧ w.cell? ⟨B, 1, none⟩ = some (.int .i64 e.term) ∧ w.cell? ⟨B, 2, none⟩ = some (.int .i64 e.cmd.op) ∧ w.cell? ⟨B, 3, none⟩ = some (.int .i64 e.cmd.client) ∧ w.cell? ⟨B, 4, none⟩ = some (.int .i64 e.cmd.seq) ∧ w.cell? ⟨B, 5, none⟩ = some (.string e.cmd.key) ∧ w.cell? ⟨B, 6, none⟩ = some (.string e.cmd.value) ∧ w.cell? ⟨B, 7, none⟩ = some (.string e.cmd.old) := by
  unfold EntryV.cells at h
  exact ⟨cell_of_row _ _ _ _ _ _ h, cell_of_row _ _ _ _ _ _ h, cell_of_row _ _ _ _ _ _ h, cell_of_row _ _ _ _ _ _ h, cell_of_row _ _ _ _ _ _ h, cell_of_row _ _ _ _ _ _ h, cell_of_row _ _ _ _ _ _ h, cell_of_row _ _ _ _ _ _ h⟩
end Go.Proofs.Ythmjjhjblokjeaa
