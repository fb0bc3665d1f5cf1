/-
  The contracts of package frame, first part: words, and copies of bytes. No statement is proved here.
-/
import Derived.Test.YthankjgebaanpaaCheck
import Derived.Test.YthankjgebaanpaaFrm
import Derived.Lib.SliceRun
import Derived.Laws.MakeOwn
import Derived.Laws.OwnMore
namespace Go.Proofs.Ythankjgebaanpaa
open Go.RowKit

theorem Try.infoU8 : (Try.prog.info? 5).map (fun i => (i.zero, i.size, i.bytes)) = some (some (.int .u8 0), 1, 1) := by kernel_rfl

/-- What became of a row that grew: all else is as it was; it lies in its old block, or in a new one. -/
structure Grew (w w' : World) (v v' : Value) : Prop where
  kept : Kept (fun k => v.ownBlock = some k) w w'
  at_ : ∀ k, v'.ownBlock = some k → v.ownBlock = some k ∨ fresh w w' k
theorem Grew.refl (w : World) (v : Value) : Grew w w v v := ⟨Kept.refl _ _, fun _ h => .inl h⟩
theorem Grew.trans {a b c : World} {u v x : Value} (h : Grew a b u v) (k : Grew b c v x) : Grew a c u x := by
  refine ⟨h.kept.trans k.kept (fun i hi hv => ?_), fun i hi => ?_⟩
  · rcases h.at_ i hv with h1 | h1
    · exact h1
    · exact absurd h1.1 (by omega)
  · rcases k.at_ i hi with h1 | h1
    · rcases h.at_ i h1 with h2 | h2
      · exact .inl h2
      · exact .inr ⟨h2.1, Nat.lt_of_lt_of_le h2.2 k.kept.size⟩
    · exact .inr ⟨Nat.le_trans h.kept.size h1.1, h1.2⟩
/-- Behind steps that only made new blocks. -/
theorem Grew.after {a b c : World} {u v : Value} (k : Kept noBlock a b) (h : Grew b c u v) : Grew a c u v :=
  ⟨(k.mono (fun _ _ h => h.elim)).step h.kept, fun i hi => (h.at_ i hi).imp id (fun h1 => ⟨Nat.le_trans k.size h1.1, h1.2⟩)⟩
theorem Grew.then_ {a b c : World} {u v : Value} (h : Grew a b u v) (k : Kept noBlock b c) : Grew a c u v :=
  ⟨h.kept.trans k (fun _ _ h => h.elim), fun i hi => (h.at_ i hi).imp id (fun h1 => ⟨h1.1, Nat.lt_of_lt_of_le h1.2 k.size⟩)⟩
/-- A row that grew out of nothing, or out of one that came since. -/
theorem Grew.new {a b c : World} {u v : Value} (h : Grew b c u v) (k : Kept noBlock a b) (hu : ∀ i, u.ownBlock = some i → a.heap.size ≤ i) : Kept noBlock a c ∧ ∀ i, v.ownBlock = some i → a.heap.size ≤ i := by
  refine ⟨k.trans h.kept (fun i hi h1 => absurd (hu i h1) (by omega)), fun i hi => ?_⟩
  rcases h.at_ i hi with h1 | h1
  · exact hu i h1
  · exact Nat.le_trans k.size h1.1

theorem made_cells (z : Value) (hz : z.cells = #[z]) (n : Nat) : (madeCells z.cells n).toList = List.replicate n z := by
  unfold madeCells
  rw [hz]
  refine List.ext_getElem (by simp) fun i h1 h2 => ?_
  simp [Nat.mod_one]

/-- A row that is made: its cells are not written out. -/
theorem wpList_make {P : Program} {ops : Array Oper} {rest : List Oper} {o : Oper} {a : Act} {w : World} {Q : Exit → Act → World → Prop} (hgd : o.guard = none) (t e : TypeId) (x y : Operand) (ho : o.op = .makeSlice t x y) (z : Value)
    (ht : P.underlying t = some (.slice e)) (hinfo : (P.info? e).map (fun i => (i.zero, i.size, i.bytes)) = some (some z, 1, 1)) (hz1 : z.cells = #[z]) (kl kc : IntKind) (l c : Nat) (hx : a.eval x = .int kl (l : Int)) (hy : a.eval y = .int kc (c : Int)) (hlc : l ≤ c)
    (hc : c ≤ 140737488355328)
    (h : ∀ w', w'.ownsRow w.heap.size e 1 (.slice (some ⟨w.heap.size, 0, none⟩) l c) l (List.replicate l z) → Kept noBlock w w' → w.heap.size < w'.heap.size → wpList P ops Q rest (a.put o.dst (.slice (some ⟨w.heap.size, 0, none⟩) l c)) w') : wpList P ops Q (o :: rest) a w := by
  refine wpList_plain hgd fun K hK => ?_
  obtain ⟨i, hi, hz, h1, h2⟩ := info_parts hinfo
  have hr := run_make (P := P) w t e i z ht hi hz kl kc (l : Int) (c : Int) (by omega) (by omega) (by rw [h2]; omega) (by omega)
  rw [h1, Nat.mul_one, Int.toNat_natCast, Int.toNat_natCast] at hr
  unfold Oper.wp execOp
  simp only [ho, hx, hy, Sem.run_bind, hr, Result.andThen_ok]
  refine hK _ _ (h _ ⟨by simp, .inr ⟨w.heap.size, c, _, rfl, Nat.le_refl _, heap_alloc_new w _, hlc, by unfold maxLen; omega, by rw [size_madeCells]; omega, ?_⟩⟩ (Kept.alloc _ _ _) (by simp))
  rw [made_cells z hz1, List.take_replicate]
  congr 1
  omega

set_option maxHeartbeats 400000 in
theorem clone_any (F : Nat → Prop) (a : Option Addr) (n c : Nat) (l : List UInt8) (w : World) (h : Lies w F a (l.map bv)) (hl : l.length = n) (hx : n ≤ 200000000000000) :
    Calls Try.prog 24 #[.slice a n c] w fun e w' => ∃ A c', e = .returned (.slice A n c') ∧ w'.ownsRow w.heap.size 5 1 (.slice A n c') n (l.map bv) ∧ Kept noBlock w w' := by
  have hq : ∀ (w : World) (a : Option Addr) (n c n' c' : Nat), (binOp .eql 22 (.slice a n c) (.slice none n' c')).run Try.prog w = .ok (.bool a.isNone) w := fun w a n c n' c' => Lib.run_eql_slice_nil w _ _ a n c n' c' Try.underlying22
  cases a with
  | none =>
    obtain rfl : l = [] := by
      cases l with
      | nil => rfl
      | cons x r => obtain ⟨ad, h, _⟩ := h (by simp); cases h
    obtain rfl : n = 0 := hl.symm
    go_enter Try.func24, Try.ntmps24
    go_wp2
    go_ret
    exact ⟨none, 0, rfl, World.ownsRow_nil _ _ _ _, Kept.refl _ _⟩
  | some ad =>
    have hsrc : Src Try.prog 1 22 (.slice (some ad) n c) n (l.map bv) (w.alloc (.cells #[] 5)) :=
      src_lies Try.underlying22 (h.keep (Kept.alloc noBlock w _) (fun _ _ h => h)) (by simpa using hl) (bv_one l)
    have hown : (w.alloc (.cells #[] 5)).ownsRow 0 5 1 (.slice (some ⟨w.heap.size, 0, none⟩) 0 0) 0 [] := World.ownsRow_made w #[] 0 (Nat.zero_le _) (Nat.zero_le _) rfl
    go_enter Try.func24, Try.ntmps24
    go_wp2_with (at_builtin; refine wpList_append_src rfl (.tmp 5) (.tmp 6) 22 22 rfl 5 (.int .u8 0) 1 1 Try.underlying22 Try.infoU8 rfl _ 0 [] rfl hown _ n (l.map bv) rfl hsrc ?c3 ?c4 ?_)
    case c3 => unfold maxLen; omega
    case c4 => omega
    intro A' c' w1 hown1 k1 hat
    have R := Lib.hid hown1
    have k2 : Kept noBlock w w1 := (Kept.alloc noBlock w _).trans k1 (fun i hi h => by simp [Value.ownBlock] at h; omega)
    have hb2 : ∀ k, (Value.slice A' n c').ownBlock = some k → w.heap.size ≤ k := fun k hk => by
      rcases hat k hk with h | h
      · simp [Value.ownBlock] at h; omega
      · have := h.1; simp at this; omega
    clear hown1 hat k1
    go_wp2
    go_ret
    refine ⟨A', c', by simp, ?_, k2⟩
    have := own_base R.out hb2
    simpa using this

theorem be4_take (v k : Nat) (hk : k < 4) : (be4 v).take (k + 1) = (be4 v).take k ++ [hiByte v k] := by
  match k, hk with
  | 0, _ => rfl
  | 1, _ => rfl
  | 2, _ => rfl
  | 3, _ => rfl

set_option maxRecDepth 100000 in
set_option maxHeartbeats 1000000 in
theorem aword_any (A : Option Addr) (n c : Nat) (xs : List UInt8) (v : Nat) (w : World) (h : w.ownsRow 0 5 1 (.slice A n c) n (xs.map bv)) (hv : v < 4294967296) (hn : n + 4 ≤ 140737488355328) :
    Calls Try.prog 21 #[.slice A n c, .int .u32 (v : Int)] w fun e w' => ∃ A' c', e = .returned (.slice A' (n + 4) c') ∧ w'.ownsRow 0 5 1 (.slice A' (n + 4) c') (n + 4) ((xs ++ be4 v).map bv) ∧ Grew w w' (.slice A n c) (.slice A' (n + 4) c') := by
  have HV := Lib.hid hv; clear hv
  have H := Lib.hid h; clear h
  go_enter Try.func21, Try.ntmps21
  go_wp2
  go_loopw [0, 5] (fun b s wr => ∃ (k : Nat) (A' : Option Addr) (c' m : Nat) (ys : List UInt8), k ≤ 4 ∧ m = n + k ∧ b = .slice A' m c' ∧ s = .int .i64 (24 - 8 * (k : Int)) ∧ Hid (ys = xs ++ (be4 v).take k) ∧ Hid (wr.ownsRow 0 5 1 (.slice A' m c') m (ys.map bv)) ∧ Hid (Grew w wr (.slice A n c) (.slice A' m c'))) (fun _ s _ => (intOf s + 8).toNat)
  case atStart => exact ⟨0, A, c, n, xs, by omega, rfl, rfl, rfl, Lib.hid (by simp), H, Lib.hid (Grew.refl _ _)⟩
  case round =>
    obtain ⟨k, A', c', m, ys, hk, hm, rfl, rfl, HY, HO, HG⟩ := hrel
    have HM := Lib.hid hm
    have hm1 : m ≤ n + 4 := by omega
    have hm2 : k < 4 → m + 1 ≤ 140737488355328 := by omega
    clear hm
    by_cases hlt : k < 4
    · obtain ⟨s8, hs8⟩ : ∃ s8, s8 = 24 - 8 * k := ⟨_, rfl⟩
      have e8 : (24 - 8 * (k : Int)) = (s8 : Int) := by omega
      rw [e8]
      have hs32 : s8 < 32 := by omega
      have hb : IntKind.u8.wrap ((v : Int) / 2 ^ s8) = ((hiByte v k).toNat : Int) := by
        have e1 : (v : Int) / 2 ^ s8 = ((v / 2 ^ s8 : Nat) : Int) := by simp
        rw [e1, wrap_u8, hiByte_toNat, ← hs8]
      have H8 := Lib.hid hs8; clear hs8
      have E8 := Lib.hid e8; clear e8
      go_wp2_with (at_builtin; refine wpList_append_src rfl _ _ 22 22 rfl 5 (.int .u8 0) 1 1 Try.underlying22 Try.infoU8 rfl (.slice A' m c') m (ys.map bv) rfl (HO.out.alloc _) _ 1 [bv (hiByte v k)] rfl (src_new Try.underlying22 _ rfl (heap_alloc_new _ _)) ?c3 ?c4 ?_)
      case c3 => unfold maxLen; have := hm2 hlt; omega
      case c4 => have := hm2 hlt; omega
      intro A2 c2 w1 hown1 k1 hat
      have G2 : Grew wr w1 (.slice A' m c') (.slice A2 (m + 1) c2) := Grew.after (Kept.alloc noBlock wr _) ⟨k1, hat⟩
      have O2 := Lib.hid hown1
      have GG := Lib.hid (HG.out.trans G2)
      clear hown1 hat k1 G2
      go_wp2
      go_roundw
      case rel =>
        refine ⟨k + 1, A2, c2, m + 1, ys ++ [hiByte v k], by omega, by have := HM.out; omega, rfl, by have := E8.out; go_num, Lib.hid ?_, Lib.hid ?_, GG⟩
        · rw [HY.out, be4_take v k hlt, List.append_assoc]
        · rw [List.map_append]; exact O2.out
      case measure => have := E8.out; simp [intOf]; omega
    · obtain rfl : k = 4 := by omega
      obtain rfl : m = n + 4 := HM.out
      go_wp2
      go_ret
      have e := HY.out
      rw [List.take_of_length_le (by rw [be4_length]; omega)] at e
      subst e
      exact ⟨A', c', rfl, by simpa using HO.out, HG.out⟩

theorem wrd_take_lt {l : List UInt8} {k : Nat} (hk : k ≤ 4) (hl : 4 ≤ l.length) : wrd (l.take k) < 2 ^ (8 * k) := by
  match k, hk with
  | 0, _ => simp [wrd]
  | k + 1, hk =>
    obtain ⟨x, hx⟩ : ∃ x, l[k]? = some x := ⟨_, List.getElem?_eq_getElem (by omega)⟩
    rw [take_snoc l k x hx, wrd_snoc]
    have ih := wrd_take_lt (l := l) (k := k) (by omega) hl
    have := x.toNat_lt
    rw [show 8 * (k + 1) = 8 * k + 8 by omega, Nat.pow_add]
    omega

set_option maxRecDepth 100000 in
set_option maxHeartbeats 1000000 in
theorem word_any (F : Nat → Prop) (a : Option Addr) (n c : Nat) (l : List UInt8) (w : World) (h : Lies w F a (l.map bv)) (hl : l.length = n) (h4 : 4 ≤ n) (hc : n ≤ c) :
    Calls Try.prog 28 #[.slice a n c] w fun e w' => e = .returned (.int .u32 ((wrd (l.take 4) : Nat) : Int)) ∧ w = w' := by
  have hl4 : 4 ≤ l.length := by omega
  go_enter Try.func28, Try.ntmps28
  go_wp2
  go_loop [3, 9] (fun r i => ∃ k : Nat, k ≤ 4 ∧ i = .int .i64 k ∧ r = .int .u32 ((wrd (l.take k) : Nat) : Int)) (fun _ i => 4 - (intOf i).toNat)
  case atStart => exact ⟨0, by omega, rfl, rfl⟩
  case round =>
    obtain ⟨k, hk, rfl, rfl⟩ := hrel
    obtain ⟨r, hr⟩ : ∃ r, r = wrd (l.take k) := ⟨_, rfl⟩
    rw [← hr]
    by_cases hlt : k < 4
    · obtain ⟨x, hx⟩ : ∃ x, l[k]? = some x := ⟨_, List.getElem?_eq_getElem (by omega)⟩
      obtain ⟨ad, rfl, _, hcell⟩ := h.at_ (k := k) (u := bv x) (by simp [hx])
      unfold bv at hcell
      have hr24 : r < 16777216 := by
        have h1 := wrd_take_lt (l := l) (k := k) (by omega) hl4
        rw [← hr] at h1
        refine Nat.lt_of_lt_of_le h1 ?_
        exact Nat.pow_le_pow_right (n := 2) (i := 8 * k) (j := 24) (by omega) (by omega)
      have HX := Lib.hid hx; clear hx
      have HR := Lib.hid hr; clear hr
      go_wp2
      go_round
      case rel =>
        refine ⟨k + 1, by omega, by go_num, ?_⟩
        rw [take_snoc l k x HX.out, wrd_snoc, ← HR.out]
        have ho := u32_or_nat (r * 256) x.toNat (by omega) (by have := x.toNat_lt; omega)
        have he : (r * 256) ||| x.toNat = r * 256 + x.toNat := by
          have := Nat.two_pow_add_eq_or_of_lt (i := 8) (b := x.toNat) x.toNat_lt r
          rw [show (2 : Nat) ^ 8 = 256 from rfl, Nat.mul_comm 256 r] at this
          exact this.symm
        have hx : (x.toNat : Int) % 4294967296 = (x.toNat : Int) := by have := x.toNat_lt; omega
        rw [he] at ho
        rw [hx, ← ho]
        rfl
      case measure => simp [intOf]; omega
    · obtain rfl : k = 4 := by omega
      go_wp2
      go_ret
      exact ⟨rfl, rfl⟩

end Go.Proofs.Ythankjgebaanpaa
