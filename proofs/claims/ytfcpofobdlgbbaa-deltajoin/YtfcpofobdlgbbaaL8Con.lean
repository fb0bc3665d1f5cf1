/-
  A delta as a value; what layer 8's functions are to do, as the statements' walks ask it. No statement is proved here.
-/
import Derived.Test.YtfcpofobdlgbbaaLawK
import Derived.Test.YtfcpofobdlgbbaaBoxA
namespace Go.Proofs.Ytfcpofobdlgbbaa
open Go.RowKit Tot

/-- A delta as a value. -/
def dtv (s : DltV) (A : Option Addr) (c : Nat) (B : Option Addr) (d : Nat) : Value := .agg #[.int .i64 s.from_, .int .i64 s.to_, .int .i64 s.term, .slice A s.pairs.length c, .slice B s.sess.length d]
/-- Its rows lie in blocks of F. -/
structure Dv (w : World) (F : Nat → Prop) (s : DltV) (A : Option Addr) (c : Nat) (B : Option Addr) (d : Nat) : Prop where
  lp : Lies w F A (PR.cells s.pairs)
  ls : Lies w F B (SN.cells s.sess)
  cp : s.pairs.length ≤ c
  cs : s.sess.length ≤ d
section
variable {S F G : Nat → Prop} {w w' : World} {s : DltV} {A B : Option Addr} {c d : Nat}
theorem Dv.keep (h : Dv w F s A c B d) (k : Kept S w w') (hd : ∀ i, F i → ¬ S i) : Dv w' F s A c B d := ⟨h.lp.keep k hd, h.ls.keep k hd, h.cp, h.cs⟩
theorem Dv.kept (h : Dv w F s A c B d) (k : Kept noBlock w w') : Dv w' F s A c B d := h.keep k (fun _ _ h => h)
theorem Dv.mono (h : Dv w F s A c B d) (hG : ∀ i, F i → G i) : Dv w G s A c B d := ⟨h.lp.mono hG, h.ls.mono hG, h.cp, h.cs⟩
theorem dl_cells {R : Nat} {x0 x1 x2 x3 x4 : Value} {t : TypeId} {fr : Nat × Nat} (h : w.heap[R]? = some (.cells #[x0, x1, x2, x3, x4] t fr)) :
    w.cell? ⟨R, 0, none⟩ = some x0 ∧ w.cell? ⟨R, 1, none⟩ = some x1 ∧ w.cell? ⟨R, 2, none⟩ = some x2 ∧ w.cell? ⟨R, 3, none⟩ = some x3 ∧ w.cell? ⟨R, 4, none⟩ = some x4 :=
  ⟨cell_of_row _ _ _ _ _ _ h, cell_of_row _ _ _ _ _ _ h, cell_of_row _ _ _ _ _ _ h, cell_of_row _ _ _ _ _ _ h, cell_of_row _ _ _ _ _ _ h⟩
end
/-- What Between does. -/
def BetweenC : Prop := ∀ (F G : Nat → Prop) (s : StV) (A : Option Addr) (c : Nat) (B : Option Addr) (d : Nat) (t : StV) (A' : Option Addr) (c' : Nat) (B' : Option Addr) (d' : Nat) (w : World), Sv w F s A c B d → Sv w G t A' c' B' d' → s.Right → t.Right →
  Calls Try.prog 12 #[stv s A c B d, stv t A' c' B' d'] w fun en w' => ∃ A2 c2 B2 d2, en = .returned (.tuple #[dtv (betweenV s t).1 A2 c2 B2 d2, .int .i64 (betweenV s t).2]) ∧ Dv w' (fun i => F i ∨ G i ∨ fresh w w' i) (betweenV s t).1 A2 c2 B2 d2 ∧ Kept noBlock w w'
/-- What Do does. -/
def DoC : Prop := ∀ (F G : Nat → Prop) (s : StV) (A : Option Addr) (c : Nat) (B : Option Addr) (d : Nat) (t : DltV) (A' : Option Addr) (c' : Nat) (B' : Option Addr) (d' : Nat) (w : World), Sv w F s A c B d → Dv w G t A' c' B' d' → s.Right → t.Right →
  Calls Try.prog 15 #[stv s A c B d, dtv t A' c' B' d'] w fun en w' => ∃ A2 c2 B2 d2, en = .returned (.tuple #[stv (applyD s t).1 A2 c2 B2 d2, .int .i64 (applyD s t).2]) ∧ Sv w' (fun i => F i ∨ G i ∨ fresh w w' i) (applyD s t).1 A2 c2 B2 d2 ∧ Kept noBlock w w'
/-- What Join does. -/
def JoinC : Prop := ∀ (F G : Nat → Prop) (s : DltV) (A : Option Addr) (c : Nat) (B : Option Addr) (d : Nat) (t : DltV) (A' : Option Addr) (c' : Nat) (B' : Option Addr) (d' : Nat) (w : World), Dv w F s A c B d → Dv w G t A' c' B' d' → s.Right → t.Right →
  Calls Try.prog 17 #[dtv s A c B d, dtv t A' c' B' d'] w fun en w' => ∃ A2 c2 B2 d2, en = .returned (.tuple #[dtv (joinV s t).1 A2 c2 B2 d2, .int .i64 (joinV s t).2]) ∧ Dv w' (fun i => F i ∨ G i ∨ fresh w w' i) (joinV s t).1 A2 c2 B2 d2 ∧ Kept noBlock w w'
/-- What Right tells. -/
def DRightC : Prop := ∀ (F : Nat → Prop) (t : DltV) (A : Option Addr) (c : Nat) (B : Option Addr) (d : Nat) (w : World), Dv w F t A c B d → t.pairs.length ≤ 1099511627776 → t.sess.length ≤ 1099511627776 →
  Calls Try.prog 13 #[dtv t A c B d] w (Says w (decide t.Right))
/-- What Same tells. -/
def DSameC : Prop := ∀ (F G : Nat → Prop) (s : DltV) (A : Option Addr) (c : Nat) (B : Option Addr) (d : Nat) (t : DltV) (A' : Option Addr) (c' : Nat) (B' : Option Addr) (d' : Nat) (w : World), Dv w F s A c B d → Dv w G t A' c' B' d' → s.bytes.length ≤ 1000000 → t.bytes.length ≤ 1000000 →
  Calls Try.prog 21 #[dtv s A c B d, dtv t A' c' B' d'] w (Says w (decide (s.bytes = t.bytes)))
end Go.Proofs.Ytfcpofobdlgbbaa
