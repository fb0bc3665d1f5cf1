/-
  What layer 8's functions do with states one behind the other. No statement is proved here.
-/
import Derived.Test.YtfcpofobdlgbbaaL8Awake
import Derived.Test.YtfcpofobdlgbbaaL7Fold
namespace Go.Proofs.Ytfcpofobdlgbbaa
open Go.RowKit Tot

theorem state_bytes {s : StV} (h : s.Right) : s.bytes.length ≤ 140737488355328 := by have := right_bytes h; omega
/-- What changed from a state to a later one. -/
def dOf (s t : StV) : DltV := ⟨s.index, t.index, t.term, betweenP s.pairs t.pairs, t.sess⟩
theorem Chain.delta {s t : StV} (h : Chain s t) : betweenV s t = (dOf s t, 0) ∧ applyD s (dOf s t) = (t, 0) ∧ (dOf s t).Right :=
  ⟨(applyD_between h.rs h.rt h.index h.term).1, (applyD_between h.rs h.rt h.index h.term).2, between_right h.rs h.rt h.index⟩
/-- Anywhere. -/
def Aw (_ : Nat) : Prop := True
theorem between_at (hB : BetweenC) {s t : StV} (hc : Chain s t) (u : World) (A : Option Addr) (c : Nat) (B : Option Addr) (d : Nat) (A' : Option Addr) (c' : Nat) (B' : Option Addr) (d' : Nat) (h1 : Sv u Aw s A c B d) (h2 : Sv u Aw t A' c' B' d') :
    Calls Try.prog 12 #[stv s A c B d, stv t A' c' B' d'] u fun en w' => ∃ A2 c2 B2 d2, en = .returned (.tuple #[dtv (dOf s t) A2 c2 B2 d2, .int .i64 0]) ∧ Dv w' Aw (dOf s t) A2 c2 B2 d2 ∧ Kept noBlock u w' := by
  have h := hB Aw Aw s A c B d t A' c' B' d' u h1 h2 hc.rs hc.rt
  rw [hc.delta.1] at h
  refine h.mono ?_
  rintro en w' ⟨A2, c2, B2, d2, rfl, dv, k⟩
  exact ⟨A2, c2, B2, d2, rfl, dv.mono (fun _ _ => trivial), k⟩
theorem do_at (hD : DoC) {s : StV} {d : DltV} {t : StV} {x : Int} (hs : s.Right) (hd : d.Right) (he : applyD s d = (t, x)) (u : World) (A : Option Addr) (c : Nat) (B : Option Addr) (e : Nat) (A' : Option Addr) (c' : Nat) (B' : Option Addr) (e' : Nat) (h1 : Sv u Aw s A c B e) (h2 : Dv u Aw d A' c' B' e') :
    Calls Try.prog 15 #[stv s A c B e, dtv d A' c' B' e'] u fun en w' => ∃ A2 c2 B2 d2, en = .returned (.tuple #[stv t A2 c2 B2 d2, .int .i64 x]) ∧ Sv w' Aw t A2 c2 B2 d2 ∧ Kept noBlock u w' := by
  have h := hD Aw Aw s A c B e d A' c' B' e' u h1 h2 hs hd
  rw [he] at h
  refine h.mono ?_
  rintro en w' ⟨A2, c2, B2, d2, rfl, dv, k⟩
  exact ⟨A2, c2, B2, d2, rfl, dv.mono (fun _ _ => trivial), k⟩
theorem join_at (hJ : JoinC) {a b d : DltV} {x : Int} (ha : a.Right) (hb : b.Right) (he : joinV a b = (d, x)) (u : World) (A : Option Addr) (c : Nat) (B : Option Addr) (e : Nat) (A' : Option Addr) (c' : Nat) (B' : Option Addr) (e' : Nat) (h1 : Dv u Aw a A c B e) (h2 : Dv u Aw b A' c' B' e') :
    Calls Try.prog 17 #[dtv a A c B e, dtv b A' c' B' e'] u fun en w' => ∃ A2 c2 B2 d2, en = .returned (.tuple #[dtv d A2 c2 B2 d2, .int .i64 x]) ∧ Dv w' Aw d A2 c2 B2 d2 ∧ Kept noBlock u w' := by
  have h := hJ Aw Aw a A c B e b A' c' B' e' u h1 h2 ha hb
  rw [he] at h
  refine h.mono ?_
  rintro en w' ⟨A2, c2, B2, d2, rfl, dv, k⟩
  exact ⟨A2, c2, B2, d2, rfl, dv.mono (fun _ _ => trivial), k⟩
theorem same_at {s : StV} (hr : s.Right) (u : World) (A : Option Addr) (c : Nat) (B : Option Addr) (d : Nat) (A' : Option Addr) (c' : Nat) (B' : Option Addr) (d' : Nat) (h1 : Sv u Aw s A c B d) (h2 : Sv u Aw s A' c' B' d') :
    Calls Try.prog 16 #[stv s A c B d, stv s A' c' B' d'] u (Says u true) := by
  have h := same_any Aw Aw s s A c B d A' c' B' d' u h1 h2 (state_bytes hr) (state_bytes hr)
  rw [decide_eq_true rfl] at h
  exact h
end Go.Proofs.Ytfcpofobdlgbbaa
