/-
  Frames of steps' edits, and lists that rows make. No statement is proved here.
-/
import Derived.Test.YtjijdkdpmbfdmaaL10ReadPl
import Derived.Test.YtjijdkdpmbfdmaaL10DoPl
import Derived.Test.YtjijdkdpmbfdmaaFrmK
namespace Go.Proofs.Ytjijdkdpmbfdmaa
open Go.RowKit Tot

/-- A frame is made, or none. -/
theorem make_both (F : Nat → Prop) (a : Option Addr) (n c : Nat) (l : List UInt8) (w : World) (h : Lies w F a (l.map bv)) (hl : l.length = n) :
    Calls Try.prog 15 #[.slice a n c] w fun e w' => ∃ (A : Option Addr) (m c' : Nat) (er : Int) (ys : List UInt8), e = .returned (.tuple #[.slice A m c', .int .i64 er]) ∧ Kept noBlock w w' ∧ w'.ownsRow w.heap.size 5 1 (.slice A m c') m (ys.map bv) ∧ ys.length = m ∧ m ≤ 16393 ∧ ∀ bs : List (List UInt8), (∀ r ∈ bs, r.length ≤ 16384) → ∃ bs' : List (List UInt8), joined bs' = joined bs ++ ys ∧ ∀ r ∈ bs', r.length ≤ 16384 := by
  by_cases hn : n ≤ 16384
  · refine (make_any F a n c l w h hl hn).mono ?_
    rintro e w' ⟨A, c', rfl, o, k⟩
    exact ⟨A, n + 9, c', 0, frm l, rfl, k, o, by rw [frm_length, hl], by omega, fun bs hb => ⟨bs ++ [l], joined_snoc _ _, fun r hr => by
      rcases List.mem_append.1 hr with hr | hr
      · exact hb r hr
      · rw [List.mem_singleton] at hr
        rw [hr, hl]
        exact hn⟩⟩
  · refine (make_full a n c w (by omega)).mono ?_
    rintro e w' ⟨rfl, rfl⟩
    exact ⟨none, 0, 0, 4, [], rfl, Kept.refl _ _, World.ownsRow_nil _ _ _ _, rfl, by omega, fun bs hb => ⟨bs, by rw [List.append_nil], hb⟩⟩
/-- Frames that come one behind the other. -/
structure FrR (w wr : World) (B : Option Addr) (bl bc : Nat) (l : List UInt8) (k : Nat) : Prop where
  own : wr.ownsRow 0 5 1 (.slice B bl bc) bl (l.map bv)
  blo : ∀ i, (Value.slice B bl bc).ownBlock = some i → w.heap.size ≤ i
  len : l.length = bl
  ble : bl ≤ 17000 * k
  kept : Kept noBlock w wr
theorem FrR.keep {w wr u : World} {B : Option Addr} {bl bc k : Nat} {l : List UInt8} (h : FrR w wr B bl bc l k) (q : Kept noBlock wr u) : FrR w u B bl bc l k := ⟨own_keep h.own q (fun _ _ h => h), h.blo, h.len, h.ble, h.kept.step q⟩
theorem FrR.more {w u v : World} {B B' : Option Addr} {bl bc bc' m k : Nat} {l ys : List UInt8} (h : FrR w u B bl bc l k) (hl : ys.length = m) (hm : m ≤ 16393) (o : v.ownsRow 0 5 1 (.slice B' (bl + m) bc') (bl + m) (l.map bv ++ ys.map bv)) (kv : Kept (fun i => (Value.slice B bl bc).ownBlock = some i) u v) (hat : ∀ i, (Value.slice B' (bl + m) bc').ownBlock = some i → (Value.slice B bl bc).ownBlock = some i ∨ fresh u v i) :
    FrR w v B' (bl + m) bc' (l ++ ys) (k + 1) := by
  refine ⟨by rw [List.map_append]; exact o, fun i hi => ?_, by rw [List.length_append, h.len, hl], by have := h.ble; omega, h.kept.trans kv (fun i hi e => by have := h.blo i e; omega)⟩
  rcases hat i hi with h1 | h1
  · exact h.blo i h1
  · exact Nat.le_trans h.kept.size h1.1

/-- A list that rows make, one behind the other. -/
structure ChkR (w u : World) (rows : List (List UInt8)) (j mb : Nat) (N : Fls) (f : Int) (bad : Bool) : Prop where
  tb : MF.Tb u mb N
  good : Good N
  len : N.length ≤ 16384 * j
  ok : bad = false → replV [] 0 (rows.take j) = some (N, f)
  no : bad = true → replV [] 0 (rows.take j) = none
  kept : Kept noBlock w u
theorem ChkR.keep {w u v : World} {rows : List (List UInt8)} {j mb : Nat} {N : Fls} {f : Int} {bad : Bool} (h : ChkR w u rows j mb N f bad) (k : Kept noBlock u v) : ChkR w v rows j mb N f bad := ⟨h.tb.keep k (fun h => h), h.good, h.len, h.ok, h.no, h.kept.step k⟩
theorem repl_take {rows : List (List UInt8)} {j : Nat} {r : List UInt8} (hr : rows[j]? = some r) : replV [] 0 (rows.take (j + 1)) = (replV [] 0 (rows.take j)).bind fun q => replS q.1 q.2 r := by rw [take_snoc rows j r hr, replV_snoc]
theorem repl_some {rows : List (List UInt8)} {j : Nat} {r : List UInt8} {N : Fls} {f : Int} (hr : rows[j]? = some r) (h : replV [] 0 (rows.take j) = some (N, f)) : replV [] 0 (rows.take (j + 1)) = replS N f r := by
  rw [repl_take hr, h, Option.bind_some]
theorem ChkR.stay {w u : World} {rows : List (List UInt8)} {j mb : Nat} {N : Fls} {f : Int} {r : List UInt8} (h : ChkR w u rows j mb N f true) (hr : rows[j]? = some r) : ChkR w u rows (j + 1) mb N f true :=
  ⟨h.tb, h.good, by have := h.len; omega, fun h => (by cases h), fun _ => by rw [repl_take hr, h.no rfl, Option.bind_none], h.kept⟩
theorem ChkR.wrong {w u : World} {rows : List (List UInt8)} {j mb : Nat} {N : Fls} {f : Int} {r : List UInt8} (h : ChkR w u rows j mb N f false) (hr : rows[j]? = some r) (hb : gotEB r = false ∨ (doE N f (gotE r)).2 ≠ 0) : ChkR w u rows (j + 1) mb N f true :=
  ⟨h.tb, h.good, by have := h.len; omega, fun h => (by cases h), fun _ => by
    rw [repl_some hr (h.ok rfl)]
    unfold replS
    rw [if_neg]
    rintro ⟨h1, h2⟩
    rcases hb with hb | hb
    · rw [hb] at h1; cases h1
    · exact hb h2, h.kept⟩
theorem ChkR.right {w u : World} {rows : List (List UInt8)} {j mb mb' : Nat} {N : Fls} {f : Int} {r : List UInt8} (h : ChkR w u rows j mb N f false) (hr : rows[j]? = some r) (hl : r.length ≤ 16384) (h1 : gotEB r = true) (h2 : (doE N f (gotE r)).2 = 0) (ht : MF.Tb u mb' (doE N f (gotE r)).1) : ChkR w u rows (j + 1) mb' (doE N f (gotE r)).1 (gotE r).floor false :=
  ⟨ht, doE_good h.good, by
    have e1 := doE_len (f := f) (e := gotE r) h.good.up
    have e2 := (rd_fits h1 hl).1
    have := h.len
    omega, fun _ => by
    rw [repl_some hr (h.ok rfl)]
    unfold replS
    rw [if_pos ⟨h1, h2⟩], fun h => (by cases h), h.kept⟩
/-- What was read of a frame's bytes is short, be it an edit or none. -/
theorem got_short (r : List UInt8) (hr : r.length ≤ 16384) : (gotE r).add.length ≤ 16384 ∧ (gotE r).drop.length ≤ 16384 ∧ ∀ k ∈ (gotE r).drop, k.size ≤ maxLen := by
  cases h : gotEB r with
  | true =>
    obtain ⟨h1, h2⟩ := rd_fits h hr
    exact ⟨by omega, by omega, h2⟩
  | false =>
    rw [gotEB_false h]
    exact ⟨by simp [noEdit], by simp [noEdit], fun k hk => by simp [noEdit] at hk⟩
/-- What bytes make, at the end. -/
theorem replR_ok {rs : List (List UInt8)} {N : Fls} {f : Int} (h : replV [] 0 rs = some (N, f)) : replR rs = ((N, f), ((joined rs).length, 0)) := by unfold replR; rw [h]
theorem replR_no {rs : List (List UInt8)} (h : replV [] 0 rs = none) : replR rs = (([], 0), (0, 10)) := by unfold replR; rw [h]
end Go.Proofs.Ytjijdkdpmbfdmaa
