/-
  Names of files: a map from texts to pointers, as a list of names and blocks, and what the operations on such a map do. No statement is proved here.
-/
import Derived.Test.YtdcccjkondjhbaaMem
import Derived.Test.YtdcccjkondjhbaaStr
import Derived.Test.YtdcccjkondjhbaaProg
import Derived.Maps.RangeWalk
import Derived.Maps.OwnSet
import Derived.Maps.OwnOps
import Derived.Shelf.SlMaps.Clone
import Derived.Laws.Externs
import Derived.StringKeys
import Derived.Lib.SliceRun
namespace Go.Proofs.Ytdcccjkondjhbaa
open Go.RowKit Go.Maps

/-- Names, each with its file's block, rising. -/
abbrev Dir := List (List UInt8 × Nat)
def Dir.ins (x : List UInt8 × Nat) : Dir → Dir
  | [] => [x]
  | y :: r => if bytesBefore x.1 y.1 then x :: y :: r else y :: Dir.ins x r
def Dir.del (N : Dir) (s : List UInt8) : Dir := N.filter fun p => !(p.1 == s)
def Dir.put (N : Dir) (s : List UInt8) (f : Nat) : Dir := Dir.ins (s, f) (Dir.del N s)
def Dir.look (N : Dir) (s : List UInt8) : Option Nat := (N.find? fun p => p.1 == s).map (·.2)
/-- The map's reading. -/
def Dir.entry (p : List UInt8 × Nat) : Lit × DataW Unit := (.string p.1, .lit (.int .i64 p.2))
def Dir.enc (N : Dir) : DataW Unit := .map (N.map Dir.entry)
def fileD : Option Nat → DataW Unit
  | none => .nil
  | some f => .lit (.int .i64 f)
/-- A pointer to a block, or nil. -/
def ptrOf (o : Option Nat) : Value := .pointer (o.map fun f => ⟨f, 0, none⟩)
/-- How a pointer in a map reads. -/
def fileR : Value → Option (DataW Unit × List MemPlace)
  | .pointer none => some (.nil, [])
  | .pointer (some ⟨f, 0, none⟩) => some (.lit (.int .i64 f), [])
  | _ => none
theorem fileR_mk (o : Option Nat) : fileR (ptrOf o) = some (fileD o, []) := by cases o <;> rfl
theorem fileR_inv {v : Value} {y : DataW Unit × List MemPlace} (h : fileR v = some y) : ∃ o, v = ptrOf o ∧ y = (fileD o, []) := by
  unfold fileR at h
  split at h
  · exact ⟨none, rfl, by injection h with h; exact h.symm⟩
  · rename_i f
    exact ⟨some f, rfl, by injection h with h; exact h.symm⟩
  · cases h
theorem fileD_inj {a b : Option Nat} (h : fileD a = fileD b) : a = b := by
  cases a <;> cases b <;> simp [fileD] at h ⊢
  omega

namespace Dir
variable (N : Dir) (s t : List UInt8) (f : Nat)
theorem ins_len (x : List UInt8 × Nat) : ∀ N : Dir, (ins x N).length = N.length + 1
  | [] => rfl
  | y :: r => by unfold ins; split <;> simp [ins_len x r]
theorem put_len : (put N s f).length ≤ N.length + 1 := by
  unfold put
  rw [ins_len]
  have := List.length_filter_le (fun p : List UInt8 × Nat => !(p.1 == s)) N
  unfold del
  omega
theorem del_len : (del N s).length ≤ N.length := List.length_filter_le _ _
theorem mem_ins (x y : List UInt8 × Nat) : ∀ N : Dir, y ∈ ins x N ↔ y = x ∨ y ∈ N
  | [] => by simp [ins]
  | z :: r => by
    unfold ins
    split
    · simp
    · simp [mem_ins x y r]
      constructor
      · rintro (h | h | h)
        · exact .inr (.inl h)
        · exact .inl h
        · exact .inr (.inr h)
      · rintro (h | h | h)
        · exact .inr (.inl h)
        · exact .inl h
        · exact .inr (.inr h)
theorem mem_del (p : List UInt8 × Nat) : p ∈ del N s ↔ p ∈ N ∧ p.1 ≠ s := by unfold del; simp [List.mem_filter]
theorem mem_put (p : List UInt8 × Nat) : p ∈ put N s f ↔ p = (s, f) ∨ (p ∈ N ∧ p.1 ≠ s) := by unfold put; rw [mem_ins, mem_del]
theorem find_ins_hit {g : List UInt8 × Nat → Bool} {x : List UInt8 × Nat} (hx : g x = true) : ∀ N : Dir, (∀ p ∈ N, g p = false) → (ins x N).find? g = some x
  | [], _ => by simp [ins, hx]
  | y :: r, h => by
    unfold ins
    split
    · simp [hx]
    · simp [h y (by simp), find_ins_hit hx r (fun p hp => h p (by simp [hp]))]
theorem find_ins_miss {g : List UInt8 × Nat → Bool} {x : List UInt8 × Nat} (hx : g x = false) : ∀ N : Dir, (ins x N).find? g = N.find? g
  | [] => by simp [ins, hx]
  | y :: r => by
    unfold ins
    split
    · simp [hx]
    · cases hy : g y <;> simp [hy, find_ins_miss hx r]
theorem find_filter_keep {α : Type} {f g : α → Bool} (h : ∀ p, f p = true → g p = true) : ∀ l : List α, (l.filter g).find? f = l.find? f
  | [] => rfl
  | y :: r => by
    cases hg : g y
    · have hf : f y = false := by
        cases hf : f y
        · rfl
        · rw [h y hf] at hg; cases hg
      simp [hg, hf, find_filter_keep h r]
    · cases hf : f y <;> simp [hg, hf, find_filter_keep h r]
theorem look_put_same : look (put N s f) s = some f := by
  unfold look put
  rw [find_ins_hit (by simp)]
  · rfl
  · intro p hp
    have := ((mem_del N s p).1 hp).2
    simpa using this
theorem look_del_same : look (del N s) s = none := by
  unfold look
  rw [List.find?_eq_none.2]
  · rfl
  · intro p hp
    have := ((mem_del N s p).1 hp).2
    simpa using this
theorem look_del_other (h : t ≠ s) : look (del N s) t = look N t := by
  unfold look del
  rw [find_filter_keep]
  intro p hp
  simp at hp ⊢
  rw [hp]; exact h
theorem look_put_other (h : t ≠ s) : look (put N s f) t = look N t := by
  have e : look (put N s f) t = look (del N s) t := by
    unfold look put
    rw [find_ins_miss]
    simpa using fun e : s = t => h e.symm
  rw [e, look_del_other N s t h]
theorem look_nil : look [] s = none := rfl
theorem mem_of_look {N : Dir} {s : List UInt8} {f : Nat} (h : look N s = some f) : (s, f) ∈ N := by
  unfold look at h
  cases hf : N.find? (fun p => p.1 == s) with
  | none => rw [hf] at h; cases h
  | some p =>
    rw [hf] at h
    have h1 := List.mem_of_find?_eq_some hf
    have h2 := List.find?_some hf
    simp at h h2
    obtain ⟨a, b⟩ := p
    simp at h h2
    rw [← h, ← h2]
    exact h1
theorem look_some_of_mem {N : Dir} {p : List UInt8 × Nat} (h : p ∈ N) : (look N p.1).isSome = true := by
  unfold look
  cases hf : N.find? (fun q => q.1 == p.1) with
  | none => have := List.find?_eq_none.1 hf p h; simp at this
  | some q => rfl
/-! the map's reading -/
theorem enc_del : (enc N).del (.string s) = enc (del N s) := by
  unfold enc del DataW.del
  simp only [List.filter_map]
  congr 1
theorem insert_map (x : List UInt8 × Nat) : ∀ N : Dir, DataW.insert (entry x) (N.map entry) = (ins x N).map entry
  | [] => rfl
  | y :: r => by
    unfold ins
    simp only [List.map_cons, DataW.insert]
    have e : (entry x).1.before (entry y).1 = bytesBefore x.1 y.1 := rfl
    rw [e]
    split
    · rfl
    · rw [insert_map x r]; rfl
theorem enc_put : (enc N).put (.string s) (.lit (.int .i64 f)) = enc (put N s f) := by
  unfold put
  unfold enc DataW.put
  simp only
  rw [← insert_map]
  congr 2
  unfold del
  rw [List.filter_map]
  congr 1
theorem find_map {α β : Type} (g : α → β) (q : β → Bool) : ∀ l : List α, (l.map g).find? q = (l.find? (q ∘ g)).map g
  | [] => rfl
  | x :: r => by
    simp only [List.map_cons, List.find?_cons, Function.comp]
    split
    · rfl
    · exact find_map g q r
theorem enc_at : (enc N).atKey (.string s) .nil = fileD (look N s) := by
  unfold enc DataW.atKey look
  simp only
  rw [find_map]
  have e : ((fun p : Lit × DataW Unit => p.1.sameKey (.string s)) ∘ entry) = fun p : List UInt8 × Nat => p.1 == s := rfl
  rw [e]
  cases N.find? (fun p => p.1 == s) <;> rfl
theorem enc_has : Maps.has (enc N) (.string s) = (look N s).isSome := by
  unfold enc Maps.has look
  simp only [List.any_map]
  have e : ((fun p : Lit × DataW Unit => p.1.sameKey (.string s)) ∘ entry) = fun p : List UInt8 × Nat => p.1 == s := rfl
  rw [e]
  cases hf : N.find? (fun p => p.1 == s) with
  | none =>
    simp only [Option.map_none, Option.isSome_none]
    rw [List.any_eq_false]
    intro p hp
    simpa using List.find?_eq_none.1 hf p hp
  | some q =>
    simp only [Option.map_some, Option.isSome_some]
    rw [List.any_eq_true]
    exact ⟨q, List.mem_of_find?_eq_some hf, by have := List.find?_some (p := fun p : List UInt8 × Nat => p.1 == s) hf; simpa using this⟩
theorem enc_size : Maps.size (enc N) = N.length := by simp [enc, Maps.size]
end Dir

theorem keyed : Keyed Try.prog 9 := string_keyed Try.underlying9
theorem keyOf_str (s : List UInt8) (h : s.length ≤ maxLen) : keyOf Try.prog 9 (.string (str s)) = some (.string s) := by
  have := WideMaps.keyOf_string_mk (P := Try.prog) (k := 9) Try.underlying9 (s := str s) (by rw [str_size]; exact h)
  rw [this]
  simp [str]

/-- The map at v (a block, or nil) has the names N. -/
def Nm (w : World) (v : Option Nat) (N : Dir) : Prop :=
  match v with
  | none => N = []
  | some b => w.ownsMap Try.prog 9 fileR b N.length (Dir.enc N)

theorem Nm.tight {w : World} {b n : Nat} {N : Dir} (h : w.ownsMap Try.prog 9 fileR b n (Dir.enc N)) : Nm w (some b) N := by
  obtain ⟨es, clock, hb, F, hs, hD⟩ := h
  refine ⟨es, clock, hb, F, ?_, hD⟩
  have := congrArg Maps.size hD
  rw [Dir.enc_size] at this
  simp [Maps.size, length_sorted] at this
  omega
theorem Nm.keep {S : Nat → Prop} {w w' : World} {v : Option Nat} {N : Dir} (h : Nm w v N) (k : Kept S w w') (hd : ∀ b, v = some b → ¬ S b) : Nm w' v N := by
  cases v with
  | none => exact h
  | some b =>
    obtain ⟨es, clock, hb, rest⟩ := h
    exact ⟨es, clock, k.blk hb (hd b rfl), rest⟩
theorem Kept.row {w w' : World} {b : Nat} (h : w.grownBy w' (some b)) : Kept (fun k => k = b) w w' := Kept.grown h fun _ hk => (Option.some.inj hk).symm
theorem Nm.lt {w : World} {b : Nat} {N : Dir} (h : Nm w (some b) N) : b < w.heap.size := World.ownsMap.lt h
/-- A map's block is no row of cells. -/
theorem Nm.ne {w : World} {b g : Nat} {N : Dir} {cs : Array Value} {t : TypeId} {fr : Nat × Nat} (h : Nm w (some b) N) (hg : w.heap[g]? = some (.cells cs t fr)) : b ≠ g := by
  obtain ⟨es, clock, hb, rest⟩ := h
  rintro rfl
  rw [hb] at hg
  cases hg

section
variable {w : World} {ops : Array Oper} {rest : List Oper} {o : Oper} {a : Act} {Q : Exit → Act → World → Prop}
/-- 'f, ok := m[s]' -/
theorem wpList_look (hg : o.guard = none) (m x : Operand) (t e : TypeId) (hop : o.op = Op.lookup t m x true) (ht : Try.prog.underlying t = some (.map 9 e)) (hz : ∀ w, (zeroValue e).run Try.prog w = .ok (.pointer none) w)
    (v : Option Nat) (N : Dir) (hm : a.eval m = .map v) (hN : Nm w v N) (s : List UInt8) (hx : a.eval x = .string (str s)) (hs : s.length ≤ maxLen)
    (hK : wpList Try.prog ops Q rest (a.put o.dst (.tuple #[ptrOf (Dir.look N s), .bool (Dir.look N s).isSome])) w) : wpList Try.prog ops Q (o :: rest) a w := by
  cases v with
  | none =>
    obtain rfl : N = [] := hN
    refine wpList_plain hg fun K' hK' => ?_
    have hrun := Maps.look_nil (w := w) true keyed ht (hz w) (keyOf_str s hs)
    unfold Oper.wp
    simp [execOp, hop, hm, hx, hrun, Result.andThen]
    exact hK' _ _ hK
  | some b =>
    refine wpList_lookup_own_ok w hg m x t hop 9 e keyed ht fileR (hz w) .nil [] rfl b N.length (Dir.enc N) hm hN _ _ hx (keyOf_str s hs) fun v ps hv => ?_
    obtain ⟨o', rfl, h2⟩ := fileR_inv hv
    have h3 := congrArg Prod.fst h2
    simp only [Dir.enc_at] at h3
    rw [← fileD_inj h3, Dir.enc_has]
    exact hK
theorem wpList_look_none (hg : o.guard = none) (m x : Operand) (t e : TypeId) (hop : o.op = Op.lookup t m x true) (ht : Try.prog.underlying t = some (.map 9 e)) (hz : ∀ w, (zeroValue e).run Try.prog w = .ok (.pointer none) w)
    (v : Option Nat) (N : Dir) (hm : a.eval m = .map v) (hN : Nm w v N) (s : List UInt8) (hx : a.eval x = .string (str s)) (hs : s.length ≤ maxLen) (hl : Dir.look N s = none)
    (hK : wpList Try.prog ops Q rest (a.put o.dst (.tuple #[.pointer none, .bool false])) w) : wpList Try.prog ops Q (o :: rest) a w :=
  wpList_look hg m x t e hop ht hz v N hm hN s hx hs (by rw [hl]; exact hK)
theorem wpList_look_some (hg : o.guard = none) (m x : Operand) (t e : TypeId) (hop : o.op = Op.lookup t m x true) (ht : Try.prog.underlying t = some (.map 9 e)) (hz : ∀ w, (zeroValue e).run Try.prog w = .ok (.pointer none) w)
    (v : Option Nat) (N : Dir) (hm : a.eval m = .map v) (hN : Nm w v N) (s : List UInt8) (hx : a.eval x = .string (str s)) (hs : s.length ≤ maxLen) (f : Nat) (hl : Dir.look N s = some f)
    (hK : wpList Try.prog ops Q rest (a.put o.dst (.tuple #[.pointer (some ⟨f, 0, none⟩), .bool true])) w) : wpList Try.prog ops Q (o :: rest) a w :=
  wpList_look hg m x t e hop ht hz v N hm hN s hx hs (by rw [hl]; exact hK)
/-- 'm[s]' -/
theorem wpList_look1 (hg : o.guard = none) (m x : Operand) (t e : TypeId) (hop : o.op = Op.lookup t m x false) (ht : Try.prog.underlying t = some (.map 9 e)) (hz : ∀ w, (zeroValue e).run Try.prog w = .ok (.pointer none) w)
    (v : Option Nat) (N : Dir) (hm : a.eval m = .map v) (hN : Nm w v N) (s : List UInt8) (hx : a.eval x = .string (str s)) (hs : s.length ≤ maxLen)
    (hK : wpList Try.prog ops Q rest (a.put o.dst (ptrOf (Dir.look N s))) w) : wpList Try.prog ops Q (o :: rest) a w := by
  refine wpList_plain hg fun K' hK' => ?_
  cases v with
  | none =>
    obtain rfl : N = [] := hN
    have hrun := Maps.look_nil (w := w) false keyed ht (hz w) (keyOf_str s hs)
    unfold Oper.wp
    simp [execOp, hop, hm, hx, hrun, Result.andThen]
    exact hK' _ _ hK
  | some b =>
    obtain ⟨v, ps, hrun, hv⟩ := World.ownsMap.lookup hN keyed ht (hz w) (zd := .nil) (zp := []) rfl (keyOf_str s hs)
    obtain ⟨o', rfl, h2⟩ := fileR_inv hv
    have h3 := congrArg Prod.fst h2
    simp only [Dir.enc_at] at h3
    rw [← fileD_inj h3] at hrun
    unfold Oper.wp
    simp [execOp, hop, hm, hx, hrun, Result.andThen]
    exact hK' _ _ hK
/-- 'len(m)' -/
theorem wpList_mlen (hg : o.guard = none) (m : Operand) (t e : TypeId) (hop : o.op = Op.call { callee := Callee.builtin Builtin.len, args := #[m], argTypes := #[t] }) (ht : Try.prog.underlying t = some (.map 9 e))
    (v : Option Nat) (N : Dir) (hm : a.eval m = .map v) (hN : Nm w v N)
    (hK : wpList Try.prog ops Q rest (a.put o.dst (.int .i64 (N.length : Int))) w) : wpList Try.prog ops Q (o :: rest) a w := by
  cases v with
  | none =>
    obtain rfl : N = [] := hN
    refine wpList_plain hg fun K' hK' => ?_
    have hrun := Maps.len_nil (w := w) ht o.type
    unfold Oper.wp
    simp [execOp, hop, resolve, invoke, builtin, hm, hrun, Result.andThen]
    exact hK' _ _ hK
  | some b =>
    refine wpList_len_own w hg m t hop 9 e ht fileR b N.length (Dir.enc N) hm hN ?_
    rw [Dir.enc_size]
    exact hK
/-- 'delete(m, s)' -/
theorem wpList_mdel (hg : o.guard = none) (m x : Operand) (t e : TypeId) (hop : o.op = Op.call { callee := Callee.builtin Builtin.delete, args := #[m, x], argTypes := #[t, 9] }) (ht : Try.prog.underlying t = some (.map 9 e))
    (b : Nat) (N : Dir) (hm : a.eval m = .map (some b)) (hN : Nm w (some b) N) (s : List UInt8) (hx : a.eval x = .string (str s)) (hs : s.length ≤ maxLen)
    (hK : ∀ w', Nm w' (some b) (Dir.del N s) → Kept (fun k => k = b) w w' → wpList Try.prog ops Q rest (a.put o.dst (.tuple #[])) w') : wpList Try.prog ops Q (o :: rest) a w := by
  refine wpList_delete_own w hg m x t 9 hop e keyed ht fileR b N.length (Dir.enc N) hm hN _ _ hx (keyOf_str s hs) fun w' h1 h2 => ?_
  rw [Dir.enc_del] at h1
  exact hK w' (Nm.tight h1) (Kept.row h2.grown)
/-- 'm[s] = f' -/
theorem wpList_mput (hg : o.guard = none) (m x v : Operand) (t e : TypeId) (hop : o.op = Op.mapUpdate t m x v) (ht : Try.prog.underlying t = some (.map 9 e))
    (b : Nat) (N : Dir) (hm : a.eval m = .map (some b)) (hN : Nm w (some b) N) (s : List UInt8) (hx : a.eval x = .string (str s)) (hs : s.length ≤ maxLen) (hn : N.length < maxLen) (f : Nat) (hv : a.eval v = .pointer (some ⟨f, 0, none⟩))
    (hK : ∀ w', Nm w' (some b) (Dir.put N s f) → Kept (fun k => k = b) w w' → wpList Try.prog ops Q rest (a.put o.dst undef) w') : wpList Try.prog ops Q (o :: rest) a w := by
  refine wpList_mapUpdate_own w hg m x v t hop 9 e keyed ht fileR b N.length (Dir.enc N) hm hN hn _ _ _ hx hv (keyOf_str s hs) (.lit (.int .i64 f)) [] (fileR_mk (some f)) fun w' h1 h2 => ?_
  rw [Dir.enc_put] at h1
  exact hK w' (Nm.tight h1) (Kept.row h2)
end
/-- An empty map that was just made. -/
theorem Nm.made (w : World) : Nm (w.alloc (.map #[] 0)) (some w.heap.size) [] := World.ownsMap_made w Try.prog 9 fileR

/-! ### going over a map -/
/-- Those names of N that are still to come. -/
def Dir.still (N : Dir) (left : Lit → Bool) : Dir := N.filter fun p => left (.string p.1)
/-- A range over the map of the names N is under way. -/
def Rng (w : World) (b r : Nat) (N : Dir) (left : Lit → Bool) (cnt : Nat) : Prop := w.ranges Try.prog 9 fileR b r N.length (Dir.enc N) left cnt
theorem Rng.keep {S : Nat → Prop} {w w' : World} {b r : Nat} {N : Dir} {left : Lit → Bool} {cnt : Nat} (h : Rng w b r N left cnt) (k : Kept S w w') (hb : ¬ S b) (hr : ¬ S r) : Rng w' b r N left cnt := by
  obtain ⟨es, clock, since, seen, c0, h1, F, hs, hD, h2, rest⟩ := h
  exact ⟨es, clock, since, seen, c0, k.blk h1 hb, F, hs, hD, k.blk h2 hr, rest⟩
theorem Rng.nm {w : World} {b r : Nat} {N : Dir} {left : Lit → Bool} {cnt : Nat} (h : Rng w b r N left cnt) : Nm w (some b) N := World.ranges.owns h
theorem Rng.ne {w : World} {b r g : Nat} {N : Dir} {left : Lit → Bool} {cnt : Nat} {cs : Array Value} {t : TypeId} {fr : Nat × Nat} (h : Rng w b r N left cnt) (hg : w.heap[g]? = some (.cells cs t fr)) : r ≠ g := by
  obtain ⟨es, clock, since, seen, c0, h1, F, hs, hD, h2, rest⟩ := h
  rintro rfl
  rw [h2] at hg
  cases hg
/-- No name stands twice. -/
theorem Nm.nodup {w : World} {b : Nat} {N : Dir} (h : Nm w (some b) N) : N.Pairwise fun p q => p.1 ≠ q.1 := by
  obtain ⟨es, h1, h2, _⟩ := World.ownsMap.entries h keyed
  unfold Dir.enc at h1
  injection h1 with h1
  subst h1
  rw [List.pairwise_map] at h2
  exact h2.imp fun {a b} hab e => hab (by simp [Dir.entry, e])
theorem nodup_del {N : Dir} (h : N.Pairwise fun p q => p.1 ≠ q.1) (s : List UInt8) : (Dir.del N s).Pairwise fun p q => p.1 ≠ q.1 := h.filter _
/-- A name comes: those still to come are those that were but for it. -/
theorem still_step {N : Dir} (h : N.Pairwise fun p q => p.1 ≠ q.1) {left : Lit → Bool} {s : List UInt8} {f : Nat} (hm : (s, f) ∈ N) (hl : left (.string s) = true) (g : List UInt8 × Nat → Nat) :
    ((Dir.still N left).map g).sum = g (s, f) + ((Dir.still N fun z => left z && !z.sameKey (.string s)).map g).sum := by
  unfold Dir.still
  induction N with
  | nil => simp at hm
  | cons y r ih =>
    obtain ⟨h1, h2⟩ := List.pairwise_cons.1 h
    by_cases hy : y.1 = s
    · have hyf : y = (s, f) := by
        rcases List.mem_cons.1 hm with h' | h'
        · exact h'.symm
        · exact absurd hy (h1 _ h')
      subst hyf
      have er : List.filter (fun p => left (Lit.string p.1)) r = List.filter (fun p => left (Lit.string p.1) && !(Lit.string p.1).sameKey (.string s)) r := by
        refine List.filter_congr fun p hp => ?_
        have hps : (Lit.string p.1).sameKey (.string s) = false := by
          have := h1 p hp
          simp only [Lit.sameKey]
          simpa using fun e : p.1 = s => this e.symm
        rw [hps]; simp
      have es : (Lit.string s).sameKey (.string s) = true := by simp [Lit.sameKey]
      rw [List.filter_cons, List.filter_cons]
      simp only [hl, es, if_true, Bool.not_true, Bool.and_false, Bool.false_eq_true, if_false, List.map_cons, List.sum_cons]
      rw [er]
    · have hys : (Lit.string y.1).sameKey (.string s) = false := by simp only [Lit.sameKey]; simpa using hy
      have hm' : (s, f) ∈ r := by
        rcases List.mem_cons.1 hm with h' | h'
        · exact absurd (by rw [← h']) hy
        · exact h'
      have := ih h2 hm'
      simp only [] at this ⊢
      rw [List.filter_cons, List.filter_cons]
      simp only [hys, Bool.not_false, Bool.and_true]
      cases left (.string y.1)
      · simpa using this
      · simp only [if_true, List.map_cons, List.sum_cons]
        omega

section
variable {w : World} {ops : Array Oper} {rest : List Oper} {o : Oper} {a : Act} {Q : Exit → Act → World → Prop}
theorem wpList_mrange (hg : o.guard = none) (m : Operand) (t e : TypeId) (hop : o.op = Op.range t m) (ht : Try.prog.underlying t = some (.map 9 e)) (b : Nat) (N : Dir) (hm : a.eval m = .map (some b)) (hN : Nm w (some b) N)
    (hK : ∀ w' left, Rng w' b w.heap.size N left N.length → Dir.still N left = N → Kept noBlock w w' → w'.heap.size = w.heap.size + 1 → wpList Try.prog ops Q rest (a.put o.dst (.pointer (some ⟨w.heap.size, 0, none⟩))) w') : wpList Try.prog ops Q (o :: rest) a w := by
  refine wpList_range_own w hg m t hop 9 e keyed ht fileR b N.length (Dir.enc N) hm hN fun w' h1 h2 h3 => ?_
  rw [Dir.enc_size] at h1
  refine hK w' _ h1 ?_ (Kept.grown h2 (fun k hk => by cases hk)) h3
  unfold Dir.still
  rw [List.filter_eq_self]
  intro p hp
  rw [Dir.enc_has]
  exact Dir.look_some_of_mem hp
/-- The step: nothing is left, or a name of N that was still to come, with its file. -/
theorem wpList_mnext (hg : o.guard = none) (it : Operand) (hop : o.op = Op.next it false) (b r : Nat) (N : Dir) (left : Lit → Bool) (cnt : Nat) (hit : a.eval it = .pointer (some ⟨r, 0, none⟩)) (h : Rng w b r N left cnt)
    (hDone : Dir.still N left = [] → wpList Try.prog ops Q rest (a.put o.dst (.tuple #[.bool false])) w)
    (hMore : ∀ (s : List UInt8) (f : Nat) (w' : World) (cnt' : Nat), (s, f) ∈ N → left (.string s) = true → s.length ≤ maxLen → Rng w' b r N (fun z => left z && !z.sameKey (.string s)) cnt' → cnt' < cnt → Kept (fun k => k = r) w w' → w'.heap.size = w.heap.size →
      (Instr.entry (.pointer (some ⟨r, 0, none⟩))).run Try.prog w' = .ok (.tuple #[.string (str s), .pointer (some ⟨f, 0, none⟩)]) w' → wpList Try.prog ops Q rest (a.put o.dst (.tuple #[.bool true, .string (str s), .pointer (some ⟨f, 0, none⟩)])) w') :
    wpList Try.prog ops Q (o :: rest) a w := by
  refine wpList_plain hg fun K' hK' => ?_
  unfold Oper.wp
  rcases World.ranges.next h keyed o.type with ⟨h0, hl, hrun⟩ | ⟨key, v, kl, y, w', cnt', hkey, hlk, hv, hat, hrun, hrg, hlt, hgr, hsz, hen⟩
  · simp [execOp, hop, hit, hrun, Result.andThen]
    refine hK' _ _ (hDone ?_)
    unfold Dir.still
    rw [List.filter_eq_nil_iff]
    intro p _
    simp [hl]
  · obtain ⟨s0, rfl⟩ : ∃ s0, key = .string s0 := by
      cases key <;> simp [keyOf, Try.underlying9, mapKey] at hkey
      exact ⟨_, rfl⟩
    obtain ⟨hs1, rfl⟩ : s0.size ≤ maxLen ∧ .string s0.data.toList = kl := by
      simpa [keyOf, Try.underlying9, mapKey] using hkey
    obtain ⟨o', rfl, h2⟩ := fileR_inv hv
    have h3 := hat .nil
    rw [Dir.enc_at, h2] at h3
    have h4 := fileD_inj h3
    have h5 : o' ≠ none := by
      rintro rfl
      have h6 := has_true_of_atKey hat
      rw [Dir.enc_has, h4] at h6
      cases h6
    obtain ⟨f, rfl⟩ := Option.ne_none_iff_exists'.1 h5
    simp [execOp, hop, hit, hrun, Result.andThen]
    have hm := hMore s0.data.toList f w' cnt' (Dir.mem_of_look h4) hlk (by rw [Array.length_toList]; exact hs1) hrg hlt (Kept.row hgr) hsz
    rw [str_of] at hm
    exact hK' _ _ (hm hen)
end
end Go.Proofs.Ytdcccjkondjhbaa
