/-
  What the statements of layer 3 say in their own words, third part: few rows, and their frames one behind the other. No statement is proved here.
-/
import Derived.Test.YthankjgebaanpaaL3Ref
import Derived.Test.YthankjgebaanpaaFrame4
namespace Go.Proofs.Ythankjgebaanpaa
open Go.RowKit

/-- A row's bytes lie in blocks of F. -/
structure Item.lies (F : Nat → Prop) (w : World) (x : Item) : Prop where
  cells : Lies w F x.A (x.row.map bv)
  cap : x.row.length ≤ x.c
theorem Item.lies.keep {F : Nat → Prop} {w w' : World} {x : Item} (h : x.lies F w) (k : Kept noBlock w w') : x.lies F w' := ⟨h.cells.keep k (fun _ _ h => h), h.cap⟩

set_option maxRecDepth 100000 in
set_option maxHeartbeats 1000000 in
theorem few_any (F : Nat → Prop) (a : Option Addr) (n c : Nat) (xs : List Item) (w : World) (h : Lies w F a (xs.map Item.val)) (hx : ∀ x ∈ xs, x.lies F w) (hl : xs.length = n) (hc : n ≤ c) (hm : ∀ x ∈ xs, x.row.length ≤ 9223372036854775807) :
    Calls Try.prog 16 #[.slice a n c] w fun e w' => ∃ (R : Option Addr) (rc : Nat) (ys : List Item), e = .returned (.slice R ys.length rc) ∧ w'.ownsRow w.heap.size 22 1 (.slice R ys.length rc) ys.length (ys.map Item.val) ∧
      (∀ y ∈ ys, y.lies F w') ∧ ys.length ≤ 30 ∧ (∀ y ∈ ys, y.row.length ≤ 300) ∧ Kept noBlock w w' := by
  obtain ⟨m, hme⟩ : ∃ m, m = min n 30 := ⟨_, rfl⟩
  have q1 : (if (30 : Int) < (n : Int) then (30 : Int) else (n : Int)) = (m : Int) := by split <;> omega
  have i1 : (m : Int) ≤ c := by omega
  have hmn : m ≤ n := by omega
  have hm30 : m ≤ 30 := by omega
  have HM := Lib.hid hm; clear hm
  have HX := Lib.hid hx; clear hx
  clear hme
  go_enter Try.func16, Try.ntmps16
  go_wp2
  clear q1 i1
  go_loopw [3, 12] (fun o i wr => ∃ (k : Nat) (R : Option Addr) (rc : Nat) (ys : List Item), k ≤ m ∧ i = .int .i64 k ∧ o = .slice R k rc ∧ Hid (ys.length = k) ∧ Hid (wr.ownsRow w.heap.size 22 1 (.slice R k rc) k (ys.map Item.val)) ∧ Hid (∀ y ∈ ys, y.lies F w ∧ y.row.length ≤ 300) ∧ Kept noBlock w wr) (fun _ i _ => m - (intOf i).toNat)
  case atStart => exact ⟨0, none, 0, [], Nat.zero_le _, rfl, rfl, Lib.hid rfl, Lib.hid (World.ownsRow_nil _ _ _ _), Lib.hid (fun y h => by cases h), Kept.refl _ _⟩
  case round =>
    obtain ⟨k, R, rc, ys, hk, rfl, rfl, HY, HO, HA, kr⟩ := hrel
    by_cases hlt : k < m
    · obtain ⟨x, hxk⟩ : ∃ x, xs[k]? = some x := ⟨_, List.getElem?_eq_getElem (by omega)⟩
      have hmem := List.mem_of_getElem? hxk
      obtain ⟨ad, rfl, _, hcell⟩ := (h.keep kr (fun _ _ h => h)).at_ (k := k) (u := x.val) (by simp [hxk])
      unfold Item.val at hcell
      obtain ⟨hxl, hxc⟩ := HX.out x hmem
      have hxm := HM.out x hmem
      obtain ⟨L, hL⟩ : ∃ L, L = x.row.length := ⟨_, rfl⟩
      rw [← hL] at hcell hxm
      obtain ⟨p, hp⟩ : ∃ p, p = min L 300 := ⟨_, rfl⟩
      have q2 : (if (300 : Int) < (L : Int) then (300 : Int) else (L : Int)) = (p : Int) := by split <;> omega
      have i2 : (p : Int) ≤ x.c := by omega
      have hp3 : p ≤ 300 := by omega
      obtain ⟨y, hy⟩ : ∃ y : Item, y = ⟨0, x.A, x.c, x.row.take p⟩ := ⟨_, rfl⟩
      have hyl : y.row.length = p := by rw [hy]; simp; omega
      have hyv : y.val = .slice x.A p x.c := by rw [Item.val, hyl, hy]
      have HYY : Hid (y.lies F w ∧ y.row.length ≤ 300) := Lib.hid ⟨⟨by rw [hy, List.map_take]; exact hxl.take p, by rw [hyl, hy]; show p ≤ x.c; omega⟩, by omega⟩
      have HYV := Lib.hid hyv
      clear hy hyl hyv hp hL hxl hxc hmem hxk hxm
      obtain ⟨xA, hxA⟩ : ∃ xA, xA = x.A := ⟨_, rfl⟩
      obtain ⟨xc, hxc⟩ : ∃ xc, xc = x.c := ⟨_, rfl⟩
      rw [← hxA, ← hxc] at hcell
      rw [← hxA, ← hxc] at HYV
      rw [← hxc] at i2
      clear hxA hxc
      have hki : (k : Int) < m := by omega
      go_wp2_with (at_builtin; refine wpList_append_src rfl _ _ 32 32 rfl 22 (.slice none 0 0) 1 24 Try.underlying32 Try.infoBytes rfl (.slice R k rc) k (ys.map Item.val) rfl (own_base (base' := 0) (HO.out.alloc _) (fun _ _ => Nat.zero_le _)) _ 1 [.slice xA p xc] rfl (src_new Try.underlying32 _ rfl (heap_alloc_new _ _)) ?c3 ?c4 ?_)
      case c3 => unfold maxLen; omega
      case c4 => omega
      intro A2 c2 w1 o1 k1 hat
      have g1 : Grew wr w1 (.slice R k rc) (.slice A2 (k + 1) c2) := Grew.after (Kept.alloc noBlock wr _) ⟨k1, hat⟩
      have g2 := g1.new kr (fun i hi => (HO.out.lt i hi).1)
      have O2 : Hid (w1.ownsRow w.heap.size 22 1 (.slice A2 (k + 1) c2) (k + 1) ((ys ++ [y]).map Item.val)) := Lib.hid (own_base (base := 0) (by rw [List.map_append, List.map_cons, List.map_nil, HYV.out]; exact o1) g2.2)
      have K2 := g2.1
      clear o1 k1 hat g1 g2 hcell q2 i2
      go_wp2
      go_roundw
      case rel =>
        refine ⟨k + 1, A2, c2, ys ++ [y], by omega, by go_num, rfl, Lib.hid (by simp [HY.out]), O2, Lib.hid (fun z hz => ?_), K2⟩
        rcases List.mem_append.1 hz with hz | hz
        · exact HA.out z hz
        · simp at hz
          subst hz
          exact HYY.out
      case measure => simp [intOf]; omega
    · obtain rfl : k = m := by omega
      go_wp2
      go_ret
      have e := HY.out
      refine ⟨R, rc, ys, by rw [e]; rfl, by rw [e]; exact HO.out, fun y hy => (HA.out y hy).1.keep kr, by omega, fun y hy => (HA.out y hy).2, kr⟩

theorem joined_le (rs : List (List UInt8)) (h : ∀ r ∈ rs, r.length ≤ 300) : (joined rs).length ≤ 309 * rs.length := by
  induction rs with
  | nil => simp [joined]
  | cons r rs ih =>
    have h1 := ih (fun x hx => h x (by simp [hx]))
    have h2 := h r (by simp)
    rw [joined_cons, List.length_append, frm_length, List.length_cons]
    omega

set_option maxRecDepth 100000 in
set_option maxHeartbeats 1000000 in
theorem join_any (F : Nat → Prop) (a : Option Addr) (n c : Nat) (xs : List Item) (w : World) (h : Lies w (fun _ => True) a (xs.map Item.val)) (hx : ∀ x ∈ xs, x.lies F w) (hl : xs.length = n) (hn : n ≤ 30) (hm : ∀ x ∈ xs, x.row.length ≤ 300) :
    Calls Try.prog 17 #[.slice a n c] w fun e w' => ∃ (R : Option Addr) (rc N : Nat), e = .returned (.slice R N rc) ∧ N = (joined (rowsOf xs)).length ∧ w'.ownsRow w.heap.size 5 1 (.slice R N rc) N ((joined (rowsOf xs)).map bv) ∧ Kept noBlock w w' := by
  have HM := Lib.hid hm; clear hm
  have HX := Lib.hid hx; clear hx
  go_enter Try.func17, Try.ntmps17
  go_wp2
  go_loopw [3, 10] (fun o i wr => ∃ (k N : Nat) (R : Option Addr) (rc : Nat) (ys : List UInt8), k ≤ n ∧ i = .int .i64 k ∧ o = .slice R N rc ∧ Hid (ys = joined (rowsOf (xs.take k))) ∧ Hid (N = ys.length) ∧ N ≤ 309 * k ∧ Hid (wr.ownsRow w.heap.size 5 1 (.slice R N rc) N (ys.map bv)) ∧ Kept noBlock w wr) (fun _ i _ => n - (intOf i).toNat)
  case atStart => exact ⟨0, 0, none, 0, [], Nat.zero_le _, rfl, rfl, Lib.hid rfl, Lib.hid rfl, Nat.zero_le _, Lib.hid (World.ownsRow_nil _ _ _ _), Kept.refl _ _⟩
  case round =>
    obtain ⟨k, N, R, rc, ys, hk, rfl, rfl, HY, HN, hNk, HO, kr⟩ := hrel
    by_cases hlt : k < n
    · obtain ⟨x, hxk⟩ : ∃ x, xs[k]? = some x := ⟨_, List.getElem?_eq_getElem (by omega)⟩
      have hmem := List.mem_of_getElem? hxk
      obtain ⟨ad, rfl, _, hcell⟩ := (h.keep kr (fun _ _ h => h)).at_ (k := k) (u := x.val) (by simp [hxk])
      unfold Item.val at hcell
      have hxl := (HX.out x hmem).keep kr
      have hxm := HM.out x hmem
      obtain ⟨xA, hxA⟩ : ∃ xA, xA = x.A := ⟨_, rfl⟩
      obtain ⟨xc, hxc⟩ : ∃ xc, xc = x.c := ⟨_, rfl⟩
      obtain ⟨r, hr⟩ : ∃ r, r = x.row := ⟨_, rfl⟩
      obtain ⟨L, hL⟩ : ∃ L, L = r.length := ⟨_, rfl⟩
      have hxl2 := hxl.cells
      rw [← hxA, ← hr] at hxl2
      rw [← hxA, ← hxc, ← hr, ← hL] at hcell
      rw [← hr, ← hL] at hxm
      have hsn : joined (rowsOf (xs.take (k + 1))) = joined (rowsOf (xs.take k)) ++ frm r := by rw [take_snoc xs k x hxk, rowsOf_snoc, joined_snoc, hr]
      have HSN := Lib.hid hsn
      have HL := Lib.hid hL
      clear hxl hmem hxk hxA hxc hr hL hsn
      have hki : (k : Int) < n := by omega
      go_wp2_with fail
      refine (make_any F xA L xc r wr hxl2 HL.out.symm (by omega)).mono ?_
      rintro e w2 ⟨A2, c2, rfl, o2, k2⟩
      have l2 := Lies.of_own (F := fun _ => True) o2 (fun _ _ => trivial)
      have HO2 := Lib.hid (own_keep HO.out k2 (fun _ _ h => h))
      have hsrc : Src Try.prog 1 22 (.slice A2 (L + 9) c2) (L + 9) ((frm r).map bv) w2 := src_lies Try.underlying22 l2 (by rw [List.length_map, frm_length, HL.out]) (bv_one _)
      clear o2 l2 hcell hxl2
      go_wp2_with (at_builtin; refine wpList_append_src rfl _ _ 22 22 rfl 5 (.int .u8 0) 1 1 Try.underlying22 Try.infoU8 rfl (.slice R N rc) N (ys.map bv) rfl (own_base (base' := 0) HO2.out (fun _ _ => Nat.zero_le _)) _ (L + 9) ((frm r).map bv) rfl hsrc ?c3 ?c4 ?_)
      case c3 => unfold maxLen; omega
      case c4 => omega
      intro A3 c3 w3 o3 k3 hat
      have g3 : Grew w2 w3 (.slice R N rc) (.slice A3 (N + (L + 9)) c3) := ⟨k3, hat⟩
      have g4 := g3.new (kr.step k2) (fun i hi => (HO.out.lt i hi).1)
      have O4 : Hid (w3.ownsRow w.heap.size 5 1 (.slice A3 (N + (L + 9)) c3) (N + (L + 9)) ((ys ++ frm r).map bv)) := Lib.hid (own_base (base := 0) (by rw [List.map_append]; exact o3) g4.2)
      have K4 := g4.1
      obtain ⟨N', hN'⟩ : ∃ N', N' = N + (L + 9) := ⟨_, rfl⟩
      rw [← hN'] at O4 ⊢
      have hNk' : N' ≤ 309 * (k + 1) := by omega
      have HN' := Lib.hid hN'
      clear o3 k3 hat g3 g4 hsrc hN'
      go_wp2
      go_roundw
      case rel => exact ⟨k + 1, N', A3, c3, ys ++ frm r, by omega, by go_num, rfl, Lib.hid (by rw [HSN.out, HY.out]), Lib.hid (by rw [List.length_append, frm_length, ← HN.out, HN'.out, HL.out]), hNk', O4, K4⟩
      case measure => simp [intOf]; omega
    · obtain rfl : k = n := by omega
      have e := HY.out
      rw [List.take_of_length_le (by omega)] at e
      go_wp2
      go_ret
      subst e
      exact ⟨R, rc, N, rfl, HN.out, HO.out, kr⟩

end Go.Proofs.Ythankjgebaanpaa
