/-
  A map from numbers, as a list of keys that rise, and what the operations on it do. No statement is proved here.
-/
import Derived.Test.YtohanlhfbfodlaaMem
import Derived.Test.YtohanlhfbfodlaaSrt
import Derived.Test.YtohanlhfbfodlaaProg
import Derived.Maps.RangeWalk
import Derived.Maps.OwnSet
import Derived.Maps.OwnOps
namespace Go.Proofs.Ytohanlhfbfodlaa.TI
open Go.RowKit Go.Maps Srt Tot

def ev : Int → Value := Value.int .i64
def dv : Int → DataW Unit := fun n => .lit (.int .i64 n)
/-- How a value in the map reads. -/
def rd : Value → Option (DataW Unit × List MemPlace)
  | .int .i64 n => some (.lit (.int .i64 n), [])
  | _ => none
theorem rd_mk (v : Int) : rd (ev v) = some (dv v, []) := rfl
theorem rd_inv {v : Value} {y : DataW Unit × List MemPlace} (h : rd v = some y) : ∃ n, v = ev n ∧ y = (dv n, []) := by
  unfold rd at h
  split at h
  · rename_i n
    exact ⟨n, rfl, by injection h with h; exact h.symm⟩
  · cases h
theorem dv_inj {a b : Int} (h : dv a = dv b) : a = b := by
  unfold dv at h
  injection h with h
  injection h
def entry (p : Int × Int) : Lit × DataW Unit := (.int .i64 p.1, dv p.2)
def enc (N : List (Int × Int)) : DataW Unit := .map (N.map entry)

def ins (x : Int × Int) : List (Int × Int) → List (Int × Int)
  | [] => [x]
  | y :: r => if decide (x.1 < y.1) then x :: y :: r else y :: ins x r
theorem mem_ins (x y : Int × Int) : ∀ N : List (Int × Int), y ∈ ins x N ↔ y = x ∨ y ∈ N
  | [] => by simp [ins]
  | z :: r => by
    unfold ins
    split
    · simp
    · simp [mem_ins x y r]
      constructor
      · rintro (h | h | h)
        · exact .inr (.inl h)
        · exact .inl h
        · exact .inr (.inr h)
      · rintro (h | h | h)
        · exact .inr (.inl h)
        · exact .inl h
        · exact .inr (.inr h)
theorem up_ins (x : Int × Int) : ∀ {N : List (Int × Int)}, Up N → (∀ p ∈ N, p.1 ≠ x.1) → Up (ins x N)
  | [], _, _ => by simp [ins, Up]
  | y :: r, hu, hn => by
    unfold ins
    split
    · rename_i h
      have h' : x.1 < y.1 := by simpa using h
      refine List.pairwise_cons.2 ⟨fun q hq => ?_, hu⟩
      rcases List.mem_cons.1 hq with rfl | hq
      · simpa [lt] using h'
      · exact tr (b := y.1) (by simpa [lt] using h') (hu.head q hq)
    · rename_i h
      have h' : ¬ x.1 < y.1 := by simpa using h
      have hy := hn y (by simp)
      refine List.pairwise_cons.2 ⟨fun q hq => ?_, up_ins x hu.tail (fun p hp => hn p (by simp [hp]))⟩
      rcases (mem_ins x q r).1 hq with rfl | hq
      · simp [lt]; omega
      · exact hu.head q hq
theorem filter_del {N : List (Int × Int)} (hu : Up N) (k : Int) : (N.filter fun p => !(p.1 == k)) = Srt.del N k := by
  refine up_ext (hu.sub (List.filter_sublist (l := N))) (up_del hu k) fun p => ?_
  rw [List.mem_filter, mem_del hu]
  simp
theorem same_key (k : Int) : ((fun p : Lit × DataW Unit => p.1.sameKey (.int .i64 k)) ∘ entry) = fun p : Int × Int => p.1 == k := by
  funext p
  simp only [Lit.sameKey, entry, Function.comp, true_and]
  rw [Bool.eq_iff_iff]
  simp
theorem enc_del {N : List (Int × Int)} (hu : Up N) (k : Int) : (enc N).del (.int .i64 k) = enc (Srt.del N k) := by
  rw [← filter_del hu k]
  unfold enc DataW.del
  simp only [List.filter_map]
  have e2 : ((fun p : Lit × DataW Unit => !p.1.sameKey (.int .i64 k)) ∘ entry) = fun p : Int × Int => !(p.1 == k) := by
    funext p
    have := congrFun (same_key k) p
    simp only [Function.comp] at this ⊢
    rw [this]
  rw [e2]
theorem insert_map (x : Int × Int) : ∀ N : List (Int × Int), DataW.insert (entry x) (N.map entry) = (ins x N).map entry
  | [] => rfl
  | y :: r => by
    unfold ins
    simp only [List.map_cons, DataW.insert]
    have e : (entry x).1.before (entry y).1 = decide (x.1 < y.1) := rfl
    rw [e]
    split
    · rfl
    · rw [insert_map x r]; rfl
theorem enc_put {N : List (Int × Int)} (hu : Up N) (k : Int) (v : Int) : (enc N).put (.int .i64 k) (dv v) = enc (Srt.put N k v) := by
  have e : Srt.put N k v = ins (k, v) (N.filter fun p => !(p.1 == k)) := by
    have hf : Up (N.filter fun p => !(p.1 == k)) := hu.sub (List.filter_sublist (l := N))
    refine up_ext (up_put hu k v) (up_ins (k, v) hf (fun p hp => by have := (List.mem_filter.1 hp).2; simpa using this)) fun p => ?_
    rw [mem_put hu, mem_ins, List.mem_filter]
    simp
  rw [e]
  unfold enc DataW.put
  simp only
  rw [← insert_map]
  congr 2
  rw [List.filter_map]
  have e2 : ((fun p : Lit × DataW Unit => !p.1.sameKey (.int .i64 k)) ∘ entry) = fun p : Int × Int => !(p.1 == k) := by
    funext p
    have := congrFun (same_key k) p
    simp only [Function.comp] at this ⊢
    rw [this]
  rw [e2]
theorem find_map {α β : Type} (g : α → β) (q : β → Bool) : ∀ l : List α, (l.map g).find? q = (l.find? (q ∘ g)).map g
  | [] => rfl
  | x :: r => by
    simp only [List.map_cons, List.find?_cons, Function.comp]
    split
    · rfl
    · exact find_map g q r
theorem look_find (N : List (Int × Int)) (k : Int) : Srt.look N k = (N.find? fun p => p.1 == k).map (·.2) := by
  unfold Srt.look
  congr 2
theorem enc_at (N : List (Int × Int)) (k : Int) : (enc N).atKey (.int .i64 k) (dv 0) = dv ((Srt.look N k).getD 0) := by
  rw [look_find]
  unfold enc DataW.atKey
  simp only
  rw [find_map]
  have e : ((fun p : Lit × DataW Unit => p.1.sameKey (.int .i64 k)) ∘ entry) = fun p : Int × Int => p.1 == k := same_key k
  rw [e]
  cases N.find? (fun p => p.1 == k) <;> rfl
theorem enc_has (N : List (Int × Int)) (k : Int) : Maps.has (enc N) (.int .i64 k) = Srt.has N k := by
  unfold Srt.has
  rw [look_find]
  unfold enc Maps.has
  simp only [List.any_map]
  have e : ((fun p : Lit × DataW Unit => p.1.sameKey (.int .i64 k)) ∘ entry) = fun p : Int × Int => p.1 == k := same_key k
  rw [e]
  cases hf : N.find? (fun p => p.1 == k) with
  | none =>
    simp only [Option.map_none, Option.isSome_none]
    rw [List.any_eq_false]
    intro p hp
    simpa using List.find?_eq_none.1 hf p hp
  | some q =>
    simp only [Option.map_some, Option.isSome_some]
    rw [List.any_eq_true]
    exact ⟨q, List.mem_of_find?_eq_some hf, by have := List.find?_some (p := fun p : Int × Int => p.1 == k) hf; simpa using this⟩
theorem enc_size (N : List (Int × Int)) : Maps.size (enc N) = N.length := by simp [enc, Maps.size]

theorem keyed : Keyed Try.prog 3 := int_keyed Try.underlying3
/-- A number that an int holds. -/
def Fits (k : Int) : Prop := -9223372036854775808 ≤ k ∧ k ≤ 9223372036854775807
theorem keyOf_fit (k : Int) (h : Fits k) : keyOf Try.prog 3 (.int .i64 k) = some (.int .i64 k) :=
  keyOf_int_mk Try.underlying3 (by simpa [Lit.wf, IntKind.min, IntKind.max, IntKind.signed, IntKind.bits, Fits] using h)

/-- The map at block b has the pairs N. -/
structure Tb (w : World) (b : Nat) (N : List (Int × Int)) : Prop where
  own : w.ownsMap Try.prog 3 rd b N.length (enc N)
  up : Up N
theorem Tb.tight {w : World} {b n : Nat} {N : List (Int × Int)} (h : w.ownsMap Try.prog 3 rd b n (enc N)) (hu : Up N) : Tb w b N := by
  obtain ⟨es, clock, hb, F, hs, hD⟩ := h
  refine ⟨⟨es, clock, hb, F, ?_, hD⟩, hu⟩
  have := congrArg Maps.size hD
  rw [enc_size] at this
  simp [Maps.size, length_sorted] at this
  omega
theorem Tb.keep {S : Nat → Prop} {w w' : World} {b : Nat} {N : List (Int × Int)} (h : Tb w b N) (k : Kept S w w') (hd : ¬ S b) : Tb w' b N := by
  obtain ⟨⟨es, clock, hb, rest⟩, hu⟩ := h
  exact ⟨⟨es, clock, k.blk hb hd, rest⟩, hu⟩
theorem Tb.same {w w' : World} {b : Nat} {N : List (Int × Int)} (h : Tb w b N) (hb : w'.heap[b]? = w.heap[b]?) : Tb w' b N := by
  obtain ⟨⟨es, clock, hh, rest⟩, hu⟩ := h
  exact ⟨⟨es, clock, hb.trans hh, rest⟩, hu⟩
theorem Tb.lt {w : World} {b : Nat} {N : List (Int × Int)} (h : Tb w b N) : b < w.heap.size := World.ownsMap.lt h.own
/-- A map's block is no row of cells. -/
theorem Tb.ne {w : World} {b g : Nat} {N : List (Int × Int)} {cs : Array Value} {t : TypeId} {fr : Nat × Nat} (h : Tb w b N) (hg : w.heap[g]? = some (.cells cs t fr)) : b ≠ g := by
  obtain ⟨⟨es, clock, hb, rest⟩, _⟩ := h
  rintro rfl
  rw [hb] at hg
  cases hg
theorem zeroV (w : World) : (zeroValue 3).run Try.prog w = .ok (.int .i64 0) w := Try.zeroValue3 w
theorem row_kept {w w' : World} {b : Nat} (h : w.grownBy w' (some b)) : Kept (fun k => k = b) w w' := Kept.grown h fun _ hk => (Option.some.inj hk).symm

section
variable {w : World} {ops : Array Oper} {rest : List Oper} {o : Oper} {a : Act} {Q : Exit → Act → World → Prop}
/-- 'v, ok := m[k]' -/
theorem wpList_look2 (hg : o.guard = none) (m x : Operand) (hop : o.op = Op.lookup 32 m x true) (b : Nat) (N : List (Int × Int)) (hm : a.eval m = .map (some b)) (hN : Tb w b N) (k : Int) (hx : a.eval x = .int .i64 k) (hk : Fits k)
    (hK : wpList Try.prog ops Q rest (a.put o.dst (.tuple #[ev ((Srt.look N k).getD 0), .bool (Srt.has N k)])) w) : wpList Try.prog ops Q (o :: rest) a w := by
  refine wpList_lookup_own_ok w hg m x 32 hop 3 3 keyed Try.underlying32 rd (zeroV w) (dv 0) [] rfl b N.length (enc N) hm hN.own _ _ hx (keyOf_fit k hk) fun v ps hv => ?_
  obtain ⟨n, rfl, h2⟩ := rd_inv hv
  have h3 := congrArg Prod.fst h2
  simp only [enc_at] at h3
  rw [← dv_inj h3, enc_has]
  exact hK
/-- 'm[k]' -/
theorem run_look1 (b : Nat) (N : List (Int × Int)) (hN : Tb w b N) (k : Int) (hk : Fits k) : (Instr.lookup 32 (.map (some b)) (.int .i64 k) false).run Try.prog w = .ok (ev ((Srt.look N k).getD 0)) w := by
  obtain ⟨v, ps, hrun, hv⟩ := World.ownsMap.lookup hN.own keyed Try.underlying32 (zeroV w) (zd := dv 0) (zp := []) rfl (keyOf_fit k hk)
  obtain ⟨n, rfl, h2⟩ := rd_inv hv
  have h3 := congrArg Prod.fst h2
  simp only [enc_at] at h3
  rw [← dv_inj h3] at hrun
  exact hrun
/-- 'len(m)' -/
theorem wpList_size (hg : o.guard = none) (m : Operand) (hop : o.op = Op.call { callee := Callee.builtin Builtin.len, args := #[m], argTypes := #[32] }) (b : Nat) (N : List (Int × Int)) (hm : a.eval m = .map (some b)) (hN : Tb w b N)
    (hK : wpList Try.prog ops Q rest (a.put o.dst (.int .i64 (N.length : Int))) w) : wpList Try.prog ops Q (o :: rest) a w := by
  refine wpList_len_own w hg m 32 hop 3 3 Try.underlying32 rd b N.length (enc N) hm hN.own ?_
  rw [enc_size]
  exact hK
theorem run_size (b : Nat) (N : List (Int × Int)) (hN : Tb w b N) (ty : TypeId) : (Builtin.len_ #[32] ty #[.map (some b)]).run Try.prog w = .ok (.int .i64 (N.length : Int)) w := by
  have hr := hN.own.len Try.underlying32 ty
  rw [enc_size] at hr
  exact hr
/-- 'delete(m, k)' -/
theorem wpList_del (hg : o.guard = none) (m x : Operand) (hop : o.op = Op.call { callee := Callee.builtin Builtin.delete, args := #[m, x], argTypes := #[32, 3] }) (b : Nat) (N : List (Int × Int)) (hm : a.eval m = .map (some b)) (hN : Tb w b N) (k : Int) (hx : a.eval x = .int .i64 k) (hk : Fits k)
    (hK : ∀ w', Tb w' b (Srt.del N k) → Kept (fun i => i = b) w w' → wpList Try.prog ops Q rest (a.put o.dst (.tuple #[])) w') : wpList Try.prog ops Q (o :: rest) a w := by
  refine wpList_delete_own w hg m x 32 3 hop 3 keyed Try.underlying32 rd b N.length (enc N) hm hN.own _ _ hx (keyOf_fit k hk) fun w' h1 h2 => ?_
  rw [enc_del hN.up] at h1
  exact hK w' (Tb.tight h1 (up_del hN.up k)) (row_kept h2.grown)
/-- 'm[k] = v' -/
theorem wpList_put (hg : o.guard = none) (m x y : Operand) (hop : o.op = Op.mapUpdate 32 m x y) (b : Nat) (N : List (Int × Int)) (hm : a.eval m = .map (some b)) (hN : Tb w b N) (k : Int) (hx : a.eval x = .int .i64 k) (hk : Fits k) (hn : N.length < maxLen) (v : Int) (hv : a.eval y = ev v)
    (hK : ∀ w', Tb w' b (Srt.put N k v) → Kept (fun i => i = b) w w' → wpList Try.prog ops Q rest (a.put o.dst undef) w') : wpList Try.prog ops Q (o :: rest) a w := by
  refine wpList_mapUpdate_own w hg m x y 32 hop 3 3 keyed Try.underlying32 rd b N.length (enc N) hm hN.own hn _ _ _ hx hv (keyOf_fit k hk) (dv v) [] (rd_mk v) fun w' h1 h2 => ?_
  rw [enc_put hN.up] at h1
  exact hK w' (Tb.tight h1 (up_put hN.up k v)) (row_kept h2)
end
end Go.Proofs.Ytohanlhfbfodlaa.TI
