/-
  Several texts, one behind the other. No statement is proved here.
-/
import Derived.Test.YtollmkkbeeeccaaMem
import Derived.Test.YtollmkkbeeeccaaSrt
import Derived.Test.YtollmkkbeeeccaaStr
import Derived.Laws.CopyRow
import Derived.Laws.CopyOwn
import Derived.Lib.AppendZerosOnto
/-
  Cells of one type in a row, somewhere within a block; keys and values as such cells. No statement is proved here.
-/
namespace Go.Proofs.Ytollmkkbeeeccaa
open Go.RowKit

/-- The cells xs lie from 'a' on, in a block of cells of the type t (of no cells nothing is said). -/
def Rowed (w : World) (t : TypeId) (a : Option Addr) (xs : List Value) : Prop :=
  xs ≠ [] → ∃ g o cs, a = some ⟨g, o, none⟩ ∧ w.heap[g]? = some (.cells cs t (0, 0)) ∧ ∀ (j : Nat) u, xs[j]? = some u → cs[o + j]? = some u
section
variable {S : Nat → Prop} {w w' : World} {t : TypeId} {a : Option Addr} {xs : List Value}
theorem Rowed.nil (w : World) (t : TypeId) (a : Option Addr) : Rowed w t a [] := fun h => absurd rfl h
theorem Rowed.keep (h : Rowed w t a xs) (k : ∀ (g : Nat) (cs : Array Value), w.heap[g]? = some (.cells cs t (0, 0)) → w'.heap[g]? = some (.cells cs t (0, 0))) : Rowed w' t a xs := fun hx => by
  obtain ⟨g, o, cs, e, hg, hc⟩ := h hx
  exact ⟨g, o, cs, e, k g cs hg, hc⟩
/-- .. where its own block is kept. -/
theorem Rowed.keepAt (h : Rowed w t a xs) (k : ∀ (g o : Nat) (cs : Array Value), a = some ⟨g, o, none⟩ → w.heap[g]? = some (.cells cs t (0, 0)) → w'.heap[g]? = some (.cells cs t (0, 0))) : Rowed w' t a xs := fun hx => by
  obtain ⟨g, o, cs, e, hg, hc⟩ := h hx
  exact ⟨g, o, cs, e, k g o cs e hg, hc⟩
theorem Rowed.kept (h : Rowed w t a xs) (k : Kept noBlock w w') : Rowed w' t a xs := h.keep fun _ _ hg => k.blk hg (fun h => h)
theorem Rowed.take (h : Rowed w t a xs) (n : Nat) : Rowed w t a (xs.take n) := fun hx => by
  obtain ⟨g, o, cs, e, hg, hc⟩ := h (by rintro rfl; simp at hx)
  refine ⟨g, o, cs, e, hg, fun j u hu => hc j u ?_⟩
  rw [List.getElem?_take] at hu
  split at hu
  · exact hu
  · cases hu
theorem Rowed.drop (h : Rowed w t a xs) (n m : Nat) {cap : Nat} (hm : m < xs.length → n < cap) : Rowed w t (if cap = n then a else a.map (·.add m)) (xs.drop m) := fun hx => by
  have hn : m < xs.length := by
    rcases Nat.lt_or_ge m xs.length with h | h
    · exact h
    · exact absurd (List.drop_eq_nil_of_le h) hx
  obtain ⟨g, o, cs, rfl, hg, hc⟩ := h (by rintro rfl; simp at hx)
  have := hm hn
  rw [if_neg (by omega)]
  refine ⟨g, o + m, cs, by simp [add_plain], hg, fun j u hu => ?_⟩
  rw [Nat.add_assoc]
  exact hc _ u (by rw [← hu, List.getElem?_drop])
theorem Rowed.of_own {base : Nat} {size n c : Nat} (h : w.ownsRow base t size (.slice a n c) n xs) : Rowed w t a xs := fun hx => by
  rcases h.2 with ⟨_, rfl⟩ | ⟨g, cap, cur, e, _, hg, _, _, _, htk⟩
  · have := h.1
    rw [Nat.zero_mul] at this
    exact absurd (List.eq_nil_of_length_eq_zero this) hx
  · injection e with e
    refine ⟨g, 0, cur, e, hg, fun j u hu => ?_⟩
    rw [← htk, List.getElem?_take] at hu
    split at hu
    · simpa using hu
    · cases hu
theorem Rowed.cells (h : Rowed w t a xs) (hx : xs ≠ []) : ∃ g o, a = some ⟨g, o, none⟩ ∧ ∀ (j : Nat) u, xs[j]? = some u → w.cell? ⟨g, o + j, none⟩ = some u := by
  obtain ⟨g, o, cs, e, hg, hc⟩ := h hx
  exact ⟨g, o, e, fun j u hu => by rw [cell_of_row _ _ _ _ _ _ hg]; exact hc j u hu⟩
end

/-- Keys and values, one behind the other. -/
def pcells {α β : Type} (ek : α → Value) (ev : β → Value) (L : List (α × β)) : List Value := L.flatMap fun p => [ek p.1, ev p.2]
section
variable {α β : Type} (ek : α → Value) (ev : β → Value)
theorem pcells_cons (p : α × β) (L : List (α × β)) : pcells ek ev (p :: L) = ek p.1 :: ev p.2 :: pcells ek ev L := rfl
theorem pcells_append (L M : List (α × β)) : pcells ek ev (L ++ M) = pcells ek ev L ++ pcells ek ev M := by simp [pcells]
theorem pcells_len (L : List (α × β)) : (pcells ek ev L).length = L.length * 2 := by
  induction L with
  | nil => rfl
  | cons p r ih => rw [pcells_cons]; simp [ih]; omega
theorem pcells_key {L : List (α × β)} {k : Nat} {p : α × β} (h : L[k]? = some p) : (pcells ek ev L)[k * 2]? = some (ek p.1) := by
  induction L generalizing k with
  | nil => simp at h
  | cons q r ih =>
    rw [pcells_cons]
    cases k with
    | zero => simp at h; subst h; rfl
    | succ k => rw [show (k + 1) * 2 = k * 2 + 1 + 1 by omega]; simpa using ih (by simpa using h)
theorem pcells_val {L : List (α × β)} {k : Nat} {p : α × β} (h : L[k]? = some p) : (pcells ek ev L)[k * 2 + 1]? = some (ev p.2) := by
  induction L generalizing k with
  | nil => simp at h
  | cons q r ih =>
    rw [pcells_cons]
    cases k with
    | zero => simp at h; subst h; rfl
    | succ k => rw [show (k + 1) * 2 + 1 = (k * 2 + 1) + 1 + 1 by omega]; simpa using ih (by simpa using h)
theorem pcells_take (L : List (α × β)) (n : Nat) : pcells ek ev (L.take n) = (pcells ek ev L).take (n * 2) := by
  induction L generalizing n with
  | nil => simp [pcells]
  | cons q r ih =>
    cases n with
    | zero => simp [pcells]
    | succ n => rw [List.take_succ_cons, pcells_cons, pcells_cons, ih, show (n + 1) * 2 = n * 2 + 1 + 1 by omega]; simp
theorem pcells_drop (L : List (α × β)) (n : Nat) : pcells ek ev (L.drop n) = (pcells ek ev L).drop (n * 2) := by
  induction L generalizing n with
  | nil => simp [pcells]
  | cons q r ih =>
    cases n with
    | zero => simp
    | succ n => rw [List.drop_succ_cons, pcells_cons, ih, show (n + 1) * 2 = n * 2 + 1 + 1 by omega]; simp
theorem pcells_nil {L : List (α × β)} (h : pcells ek ev L = []) : L = [] := by
  have := congrArg List.length h
  rw [pcells_len] at this
  exact List.eq_nil_of_length_eq_zero (by simp at this; omega)
end
/-- A pair of the row, by its two cells. -/
theorem Rowed.pair {α β : Type} {ek : α → Value} {ev : β → Value} {w : World} {t : TypeId} {a : Option Addr} {L : List (α × β)} (h : Rowed w t a (pcells ek ev L)) {k : Nat} {p : α × β} (hk : L[k]? = some p) :
    ∃ g o, a = some ⟨g, o, none⟩ ∧ w.cell? ⟨g, o + k * 2, none⟩ = some (ek p.1) ∧ w.cell? ⟨g, o + k * 2 + 1, none⟩ = some (ev p.2) := by
  obtain ⟨g, o, e, hc⟩ := h.cells (fun e => by rw [pcells_nil ek ev e] at hk; simp at hk)
  exact ⟨g, o, e, hc _ _ (pcells_key ek ev hk), by rw [Nat.add_assoc]; exact hc _ _ (pcells_val ek ev hk)⟩
end Go.Proofs.Ytollmkkbeeeccaa

/-
  copy, clear and append of zeros on rows that are known whole, whatever an element's number of cells. No statement is proved here.
-/
namespace Go.Proofs.Ytollmkkbeeeccaa
open Go.RowKit

section
variable {P : Program} {w : World} {ops : Array Oper} {rest : List Oper} {o : Oper} {a : Act} {K : Act → World → Prop} {Q : Exit → Act → World → Prop}
theorem kept_setRow (w : World) (g : Nat) (cs : Array Value) : Kept (fun k => k = g) w (w.setRow g cs) := ⟨rfl, rfl, rfl, by simp [World.setRow], fun k _ hn => setRow_other w g k cs (fun e => hn e)⟩

theorem run_copy_k (w : World) (dT sT ty elem : TypeId) (g o1 dLen dCap : Nat) (g2 o2 sLen sCap : Nat) (cur : List Value) (t : TypeId) (cs : List Value) (size : Nat)
    (hu : P.underlying dT = some (.slice elem)) (hs : (P.info? elem).map (·.size) = some size)
    (hg : w.heap[g]? = some (.cells cur.toArray t (0, 0))) (hn : cs.length = Nat.min sLen dLen * size)
    (hsrc : ∀ (j : Nat) v, cs[j]? = some v → w.cell? ⟨g2, o2 + j, none⟩ = some v) (hfit : o1 + cs.length ≤ cur.length) (h1 : ∀ v ∈ cs, v.oneCell' = true) :
    (Builtin.copy_ #[dT, sT] ty #[.slice (some ⟨g, o1, none⟩) dLen dCap, .slice (some ⟨g2, o2, none⟩) sLen sCap]).run P w =
      .ok (goInt (Nat.min sLen dLen)) (w.setRow g (splice cur o1 cs).toArray) := by
  have hl := run_loadCells_list (P := P) w ⟨g2, o2, none⟩ cs (fun j v h => by rw [add_plain]; exact hsrc j v h)
  have hst := run_storeCells_at P g o1 t cs 0 cur.toArray w hg (by simpa using hfit) h1
  rw [hn] at hl
  simp only [Nat.add_zero, List.append_assoc] at hst
  cases hq : P.info? elem with
  | none => simp [hq] at hs
  | some i =>
    have hi : i.size = size := by simpa [hq] using hs
    simp [Builtin.copy_, run_underlying hu, Builtin.lenOf, Builtin.firstCells, sizeOf, typeInfo, hq, hi, hl, hst, splice]

theorem wp_copy_k (d s : Operand) (dT sT : TypeId) (ho : o.op = .call { callee := .builtin .copy, args := #[d, s], argTypes := #[dT, sT] }) (elem : TypeId) (size : Nat) (hu : P.underlying dT = some (.slice elem)) (hs : (P.info? elem).map (·.size) = some size)
    (g o1 dLen dCap g2 o2 sLen sCap : Nat) (hd : a.eval d = .slice (some ⟨g, o1, none⟩) dLen dCap) (hx : a.eval s = .slice (some ⟨g2, o2, none⟩) sLen sCap)
    (cur : List Value) (t : TypeId) (hg : w.heap[g]? = some (.cells cur.toArray t (0, 0))) (cs : List Value) (hn : cs.length = Nat.min sLen dLen * size)
    (hsrc : ∀ (j : Nat) v, cs[j]? = some v → w.cell? ⟨g2, o2 + j, none⟩ = some v) (hfit : o1 + cs.length ≤ cur.length) (h1 : ∀ v ∈ cs, v.oneCell' = true)
    (h : ∀ w', Hid (w'.heap[g]? = some (.cells (splice cur o1 cs).toArray t (0, 0))) → Hid (Kept (fun k => k = g) w w') → K (a.put o.dst (goInt (Nat.min sLen dLen))) w') : o.wp P a w K Q := by
  have hr := run_copy_k w dT sT o.type elem g o1 dLen dCap g2 o2 sLen sCap cur t cs size hu hs hg hn hsrc hfit h1
  unfold Oper.wp execOp
  simp only [ho, resolve, invoke, builtin, Sem.run_bind, Sem.run_pure, Result.andThen_ok, List.map_toArray, List.map_cons, List.map_nil, hd, hx, hr]
  exact h _ (Lib.hid (setRow_heap w g _ _ t _ hg)) (Lib.hid (kept_setRow w g _))
theorem wpList_copy_k (hgd : o.guard = none) (d s : Operand) (dT sT : TypeId) (ho : o.op = .call { callee := .builtin .copy, args := #[d, s], argTypes := #[dT, sT] }) (elem : TypeId) (size : Nat) (hu : P.underlying dT = some (.slice elem)) (hs : (P.info? elem).map (·.size) = some size)
    (g o1 dLen dCap g2 o2 sLen sCap : Nat) (hd : a.eval d = .slice (some ⟨g, o1, none⟩) dLen dCap) (hx : a.eval s = .slice (some ⟨g2, o2, none⟩) sLen sCap)
    (cur : List Value) (t : TypeId) (hg : w.heap[g]? = some (.cells cur.toArray t (0, 0))) (cs : List Value) (hn : cs.length = Nat.min sLen dLen * size)
    (hsrc : ∀ (j : Nat) v, cs[j]? = some v → w.cell? ⟨g2, o2 + j, none⟩ = some v) (hfit : o1 + cs.length ≤ cur.length) (h1 : ∀ v ∈ cs, v.oneCell' = true)
    (h : ∀ w', Hid (w'.heap[g]? = some (.cells (splice cur o1 cs).toArray t (0, 0))) → Hid (Kept (fun k => k = g) w w') → wpList P ops Q rest (a.put o.dst (goInt (Nat.min sLen dLen))) w') : wpList P ops Q (o :: rest) a w :=
  wpList_plain hgd fun _ hK => wp_copy_k d s dT sT ho elem size hu hs g o1 dLen dCap g2 o2 sLen sCap hd hx cur t hg cs hn hsrc hfit h1 fun w' h2 h3 => hK _ _ (h w' h2 h3)
theorem step_copy_k {E : Prop} (hgd : o.guard = none) (d s : Operand) (dT sT : TypeId) (ho : o.op = .call { callee := .builtin .copy, args := #[d, s], argTypes := #[dT, sT] }) (elem : TypeId) (size : Nat) (hu : P.underlying dT = some (.slice elem)) (hs : (P.info? elem).map (·.size) = some size)
    (g o1 dLen dCap g2 o2 sLen sCap : Nat) (hd : a.eval d = .slice (some ⟨g, o1, none⟩) dLen dCap) (hx : a.eval s = .slice (some ⟨g2, o2, none⟩) sLen sCap)
    (cur : List Value) (t : TypeId) (hg : w.heap[g]? = some (.cells cur.toArray t (0, 0))) (cs : List Value) (hn : cs.length = Nat.min sLen dLen * size)
    (hsrc : ∀ (j : Nat) v, cs[j]? = some v → w.cell? ⟨g2, o2 + j, none⟩ = some v) (hfit : o1 + cs.length ≤ cur.length) (h1 : ∀ v ∈ cs, v.oneCell' = true)
    (h : ∀ w', Hid (w'.heap[g]? = some (.cells (splice cur o1 cs).toArray t (0, 0))) → Hid (Kept (fun k => k = g) w w') → K (a.put o.dst (goInt (Nat.min sLen dLen))) w') :
    if Region.wanted o (yielded ops a.tmps) = true then Oper.wp P o a w K Q else E := by
  have hw : Region.wanted o (yielded ops a.tmps) = true := by simp [Region.wanted, hgd]
  rw [if_pos hw]
  exact wp_copy_k d s dT sT ho elem size hu hs g o1 dLen dCap g2 o2 sLen sCap hd hx cur t hg cs hn hsrc hfit h1 h

/-- clear of what stands from a place on: the row behind it has as many cells. -/
theorem wpList_clear_k (hgd : o.guard = none) (x : Operand) (t : TypeId) (ho : o.op = .call { callee := .builtin .clear, args := #[x], argTypes := #[t] }) (elem : TypeId) (z : Value) (hu : P.underlying t = some (.slice elem)) (hz : ∀ w, (zeroValue elem).run P w = .ok z w) (h1 : ∀ v ∈ z.cells.toList, v.oneCell' = true)
    (g o1 n c : Nat) (hn : 0 < n) (hx : a.eval x = .slice (some ⟨g, o1, none⟩) n c) (cur : List Value) (e : TypeId) (hg : w.heap[g]? = some (.cells cur.toArray e (0, 0))) (hfit : o1 + n * z.cells.size ≤ cur.length)
    (h : ∀ w' zs, zs.length = n * z.cells.size → Hid (w'.heap[g]? = some (.cells (splice cur o1 zs).toArray e (0, 0))) → Hid (Kept (fun k => k = g) w w') → wpList P ops Q rest (a.put o.dst (.tuple #[])) w') : wpList P ops Q (o :: rest) a w := by
  refine wpList_plain hgd fun K' hK' => ?_
  have hlen : (Builtin.zeroCells z.cells n).toList.length = n * z.cells.size := by simp [size_zeroCells]
  have hone : ∀ v ∈ (Builtin.zeroCells z.cells n).toList, v.oneCell' = true := by
    intro v hv
    unfold Builtin.zeroCells at hv
    simp only [Array.toList_map, List.mem_map] at hv
    obtain ⟨i, hi, rfl⟩ := hv
    have hi' : i < n * z.cells.size := by simpa using hi
    have hpos : 0 < z.cells.size := by
      rcases Nat.eq_zero_or_pos z.cells.size with h0 | h0
      · rw [h0] at hi'; simp at hi'
      · exact h0
    have hlt := Nat.mod_lt i hpos
    rw [getElem!_pos z.cells _ hlt]
    exact h1 _ (by simp)
  have hst := run_storeCells_at P g o1 e (Builtin.zeroCells z.cells n).toList 0 cur.toArray w hg (by rw [hlen]; simpa using hfit) hone
  simp only [Nat.add_zero, List.append_assoc] at hst
  have hr : (Builtin.clear_ #[t] o.type #[.slice (some ⟨g, o1, none⟩) n c]).run P w = .ok (.tuple #[]) (w.setRow g (splice cur o1 (Builtin.zeroCells z.cells n).toList).toArray) := by
    obtain ⟨m, rfl⟩ : ∃ m, n = m + 1 := ⟨n - 1, by omega⟩
    simp [Builtin.clear_, run_underlying hu, hz, hst, splice]
  unfold Oper.wp execOp
  simp only [ho, resolve, invoke, builtin, Sem.run_bind, Sem.run_pure, Result.andThen_ok, List.map_toArray, List.map_cons, List.map_nil, hx, hr]
  exact hK' _ _ (h _ _ hlen (Lib.hid (setRow_heap w g _ _ e _ hg)) (Lib.hid (kept_setRow w g _)))

/-- append where there is room, onto a row that is known whole. -/
theorem step_append_room {E : Prop} (hgd : o.guard = none) (s x : Operand) (t tx : TypeId) (ho : o.op = .call { callee := .builtin .append, args := #[s, x], argTypes := #[t, tx] }) (e : TypeId) (z : Value) (size bytes : Nat) (ht : P.underlying t = some (.slice e))
    (hinfo : (P.info? e).map (fun i => (i.zero, i.size, i.bytes)) = some (some z, size, bytes)) (g n c : Nat) (hs : a.eval s = .slice (some ⟨g, 0, none⟩) n c) (xv : Value) (hx : a.eval x = xv) (m : Nat) (news : List Value) (hsrc : Src P size tx xv m news w)
    (cur : List Value) (hg : w.heap[g]? = some (.cells cur.toArray e (0, 0))) (hroom : n + m ≤ c) (hfit : n * size + news.length ≤ cur.length) (h63 : n + m ≤ maxLen)
    (h : ∀ w', Hid (w'.heap[g]? = some (.cells (splice cur (n * size) news).toArray e (0, 0))) → Hid (Kept (fun k => k = g) w w') → K (a.put o.dst (.slice (some ⟨g, 0, none⟩) (n + m) c)) w') :
    if Region.wanted o (yielded ops a.tmps) = true then Oper.wp P o a w K Q else E := by
  obtain ⟨i, hi, hz, h1, h2⟩ := info_parts hinfo
  subst h1
  have hsmall : n + m ≤ 9223372036854775807 := by simp only [maxLen] at h63; omega
  have hst := run_storeCells_at P g (n * i.size) e news 0 cur.toArray w hg (by simpa using hfit) hsrc.one
  simp only [Nat.add_zero] at hst
  have hr : (Builtin.append_ #[t, tx] o.type #[.slice (some ⟨g, 0, none⟩) n c, xv]).run P w = .ok (.slice (some ⟨g, 0, none⟩) (n + m) c) (w.setRow g (splice cur (n * i.size) news).toArray) := by
    rcases hsrc.kind with ⟨e', hk⟩ | hk <;> simp [Builtin.append_, run_underlying ht, run_underlying hk, sizeOf, typeInfo, hi, hsrc.len, hroom, hsrc.cells, Addr.add_lit, hst, splice]
  have hw : Region.wanted o (yielded ops a.tmps) = true := by simp [Region.wanted, hgd]
  rw [if_pos hw]
  unfold Oper.wp execOp
  simp only [ho, resolve, invoke, builtin, Sem.run_bind, Sem.run_pure, Result.andThen_ok, List.map_toArray, List.map_cons, List.map_nil, hs, hx, hr]
  exact h _ (Lib.hid (setRow_heap w g _ _ e _ hg)) (Lib.hid (kept_setRow w g _))

/-- append of zeros where there is no room: a new row. -/
theorem wpList_append_zeros (hgd : o.guard = none) (s x : Operand) (t tn : TypeId) (ho : o.op = .call { callee := .builtin .append, args := #[s, x], argTypes := #[t, tn] }) (e : TypeId) (z : Value) (size bytes : Nat) (hu : P.underlying t = some (.slice e)) (hun : P.underlying tn = some (.int .i64))
    (hinfo : (P.info? e).map (fun i => (i.zero, i.size, i.bytes)) = some (some z, size, bytes)) (hzs : z.cells.size = size) (hpos : 0 < size)
    (g n c k : Nat) (hs : a.eval s = .slice (some ⟨g, 0, none⟩) n c) (hx : a.eval x = .int .i64 (k : Int)) (xs : List Value) (hl : xs.length = n * size) (hc : ∀ (j : Nat) u, xs[j]? = some u → w.cell? ⟨g, j, none⟩ = some u)
    (h0 : 0 < k) (hroom : c < n + k) (h63 : n + k ≤ maxLen) (hb : (n + k) * bytes ≤ 140737488355328)
    (h : ∀ w' cap cur, Hid (w'.heap[w.heap.size]? = some (.cells (List.toArray cur) e (0, 0))) → cur.length = cap * size → n + k ≤ cap → cap ≤ maxLen → Hid (cur.take (n * size) = xs) → Hid (Kept noBlock w w') → w.heap.size < w'.heap.size →
      wpList P ops Q rest (a.put o.dst (.slice (some ⟨w.heap.size, 0, none⟩) (n + k) cap)) w') : wpList P ops Q (o :: rest) a w := by
  obtain ⟨i, hi, hz, h1, h2⟩ := info_parts hinfo
  have hr := Lib.run_append_grow_zeros w t tn o.type e i z .i64 .i64 hu hun hi hz (some ⟨g, 0, none⟩) n c xs
    (run_firstCells_some w.drew i.size n ⟨g, 0, none⟩ n c xs (by rw [h1]; exact hl) (fun j u hu => by rw [add_plain, Nat.zero_add]; exact hc j u hu)) k h0 (by omega) hroom (by unfold maxLen at h63; omega) (by rw [h2]; have := Nat.mul_le_mul_right bytes (Nat.le_add_left k n); omega) (by rw [h2]; exact growslice_fits hroom hb)
  refine Lib.wpList_append_run w hgd s x t tn ho _ _ hs hx _ _ hr ?_
  have hge := grownCap_ge w (n + k) c e
  refine h _ _ (xs ++ ((Builtin.zeroCells z.cells k).toList ++ (Builtin.zeroCells z.cells (grownCap w (n + k) c e - (n + k))).toList)) ?_ ?_ hge (grownCap_le_maxLen w (n + k) c e h63) (Lib.hid ?_) (Lib.hid ?_) ?_
  · refine Lib.hid ?_
    have := heap_alloc_new w.drew (.cells (xs.toArray ++ Builtin.zeroCells z.cells k ++ Builtin.zeroCells z.cells (grownCap w (n + k) c e - (n + k))) e)
    rw [show w.heap.size = w.drew.heap.size from rfl, this]
    congr 2
    apply Array.ext'
    simp
  · simp only [List.length_append, Array.length_toList, size_zeroCells, hzs, hl, ← Nat.add_mul]
    congr 1
    omega
  · rw [List.take_left' hl]
  · exact (Kept.drew _ w).step (Kept.alloc _ _ _)
  · simp
end

/-- A row into which two cells came. -/
theorem ins_eq (xs F : List Value) (p : Nat) (x y : Value) (hp : p ≤ xs.length) (h1 : ∀ j, j < p → F[j]? = xs[j]?) (hx : F[p]? = some x) (hy : F[p + 1]? = some y) (h2 : ∀ j, p ≤ j → j < xs.length → F[j + 2]? = xs[j]?) :
    F.take (xs.length + 2) = xs.take p ++ (x :: y :: xs.drop p) := by
  apply List.ext_getElem?
  intro j
  rw [List.getElem?_take]
  by_cases hj : j < p
  · rw [if_pos (by omega), List.getElem?_append_left (by rw [List.length_take]; omega), List.getElem?_take, if_pos hj, h1 j hj]
  · rw [List.getElem?_append_right (by rw [List.length_take]; omega), List.length_take, Nat.min_eq_left hp]
    by_cases e0 : j = p
    · subst e0
      rw [if_pos (by omega), hx, Nat.sub_self]
      rfl
    · by_cases e1 : j = p + 1
      · subst e1
        rw [if_pos (by omega), hy, show p + 1 - p = 1 by omega]
        rfl
      · obtain ⟨q, rfl⟩ : ∃ q, j = q + 2 := ⟨j - 2, by omega⟩
        rw [show q + 2 - p = (q - p) + 1 + 1 by omega, List.getElem?_cons_succ, List.getElem?_cons_succ, List.getElem?_drop, show p + (q - p) = q by omega]
        by_cases hq : q < xs.length
        · rw [if_pos (by omega), h2 q (by omega) hq]
        · rw [if_neg (by omega), List.getElem?_eq_none (by omega)]

/-- What stands in a row that was written over. -/
theorem splice_get {α : Type} (l : List α) (o : Nat) (cs : List α) (h : o + cs.length ≤ l.length) (j : Nat) : (splice l o cs)[j]? = if o ≤ j ∧ j < o + cs.length then cs[j - o]? else l[j]? := by
  unfold splice
  by_cases h1 : j < o
  · rw [List.getElem?_append_left (by rw [List.length_take]; omega), List.getElem?_take, if_pos h1, if_neg (by omega)]
  · rw [List.getElem?_append_right (by rw [List.length_take]; omega), List.length_take, Nat.min_eq_left (by omega)]
    by_cases h2 : j < o + cs.length
    · rw [List.getElem?_append_left (by omega), if_pos ⟨by omega, h2⟩]
    · rw [List.getElem?_append_right (by omega), if_neg (by omega), List.getElem?_drop]
      congr 1
      omega
theorem splice_len {α : Type} (l : List α) (o : Nat) (cs : List α) (h : o + cs.length ≤ l.length) : (splice l o cs).length = l.length := length_splice l o cs h
theorem ins_room (xs cur : List Value) (p : Nat) (x y : Value) (hp : p ≤ xs.length) (hF : xs.length + 2 ≤ cur.length) (ht : cur.take xs.length = xs) :
    (splice (splice cur (p + 2) (xs.drop p)) p [x, y]).take (xs.length + 2) = xs.take p ++ (x :: y :: xs.drop p) := by
  have hd : (xs.drop p).length = xs.length - p := List.length_drop
  have h1 : p + 2 + (xs.drop p).length ≤ cur.length := by omega
  have h2 : p + ([x, y] : List Value).length ≤ (splice cur (p + 2) (xs.drop p)).length := by rw [splice_len _ _ _ h1]; simp; omega
  have hc : ∀ j, j < xs.length → cur[j]? = xs[j]? := fun j hj => by
    have := congrArg (fun l => l[j]?) ht
    simpa [List.getElem?_take, hj] using this
  refine ins_eq xs _ p x y hp (fun j hj => ?_) ?_ ?_ (fun j hj hj2 => ?_)
  · rw [splice_get _ _ _ h2, if_neg (by omega), splice_get _ _ _ h1, if_neg (by omega)]
    exact hc j (by omega)
  · rw [splice_get _ _ _ h2, if_pos (by simp), Nat.sub_self]
    rfl
  · rw [splice_get _ _ _ h2, if_pos (by simp), show p + 1 - p = 1 by omega]
    rfl
  · rw [splice_get _ _ _ h2, if_neg (by simp; omega), splice_get _ _ _ h1, if_pos (by omega), List.getElem?_drop]
    congr 1
    omega
/-- A row from which the two cells at a place went. -/
theorem del_room (xs cur zs : List Value) (p : Nat) (hp : p + 2 ≤ xs.length) (hF : xs.length ≤ cur.length) (ht : cur.take xs.length = xs) (hz : zs.length = 2) :
    (splice (splice cur p (xs.drop (p + 2))) (xs.length - 2) zs).take (xs.length - 2) = xs.take p ++ xs.drop (p + 2) ∧ (splice (splice cur p (xs.drop (p + 2))) (xs.length - 2) zs).length = cur.length := by
  have hd : (xs.drop (p + 2)).length = xs.length - (p + 2) := List.length_drop
  have h1 : p + (xs.drop (p + 2)).length ≤ cur.length := by omega
  have h2 : xs.length - 2 + zs.length ≤ (splice cur p (xs.drop (p + 2))).length := by rw [splice_len _ _ _ h1]; omega
  have hc : ∀ j, j < xs.length → cur[j]? = xs[j]? := fun j hj => by
    have := congrArg (fun l => l[j]?) ht
    simpa [List.getElem?_take, hj] using this
  refine ⟨List.ext_getElem? fun j => ?_, by rw [splice_len _ _ _ h2, splice_len _ _ _ h1]⟩
  rw [List.getElem?_take]
  by_cases hj : j < xs.length - 2
  · rw [if_pos hj, splice_get _ _ _ h2, if_neg (by omega), splice_get _ _ _ h1]
    by_cases hjp : j < p
    · rw [if_neg (by omega), List.getElem?_append_left (by rw [List.length_take]; omega), List.getElem?_take, if_pos hjp]
      exact hc j (by omega)
    · rw [if_pos (by omega), List.getElem?_append_right (by rw [List.length_take]; omega), List.length_take, Nat.min_eq_left (by omega)]
  · rw [if_neg hj, List.getElem?_eq_none (by rw [List.length_append, List.length_take, hd]; omega)]
theorem ins_grow (xs cur : List Value) (p : Nat) (x y : Value) (hp : p ≤ xs.length) (hF : xs.length + 2 ≤ cur.length) (ht : cur.take p = xs.take p) :
    (splice (splice cur p [x, y]) (p + 2) (xs.drop p)).take (xs.length + 2) = xs.take p ++ (x :: y :: xs.drop p) := by
  have hd : (xs.drop p).length = xs.length - p := List.length_drop
  have h1 : p + ([x, y] : List Value).length ≤ cur.length := by simp; omega
  have h2 : p + 2 + (xs.drop p).length ≤ (splice cur p [x, y]).length := by rw [splice_len _ _ _ h1]; omega
  have hc : ∀ j, j < p → cur[j]? = xs[j]? := fun j hj => by
    have := congrArg (fun l => l[j]?) ht
    simpa [List.getElem?_take, hj] using this
  refine ins_eq xs _ p x y hp (fun j hj => ?_) ?_ ?_ (fun j hj hj2 => ?_)
  · rw [splice_get _ _ _ h2, if_neg (by omega), splice_get _ _ _ h1, if_neg (by simp; omega)]
    exact hc j hj
  · rw [splice_get _ _ _ h2, if_neg (by omega), splice_get _ _ _ h1, if_pos (by simp), Nat.sub_self]
    rfl
  · rw [splice_get _ _ _ h2, if_neg (by omega), splice_get _ _ _ h1, if_pos (by simp), show p + 1 - p = 1 by omega]
    rfl
  · rw [splice_get _ _ _ h2, if_pos (by omega), List.getElem?_drop]
    congr 1
    omega
end Go.Proofs.Ytollmkkbeeeccaa

/-
  Elements of several cells each, one behind the other in a row; one that comes into a row, and one that goes. No statement is proved here.
-/
namespace Go.Proofs.Ytollmkkbeeeccaa
open Go.RowKit

/-- The cells of elements, one behind the other. -/
def flat {α : Type} (enc : α → List Value) (L : List α) : List Value := L.flatMap enc
section
variable {α : Type} {enc : α → List Value} {s : Nat}
theorem flat_cons (p : α) (L : List α) : flat enc (p :: L) = enc p ++ flat enc L := by simp [flat]
theorem flat_append (L M : List α) : flat enc (L ++ M) = flat enc L ++ flat enc M := by simp [flat]
theorem flat_one (p : α) : flat enc [p] = enc p := by simp [flat]
theorem flat_len (hs : ∀ a, (enc a).length = s) (L : List α) : (flat enc L).length = L.length * s := by
  induction L with
  | nil => simp [flat]
  | cons p r ih => rw [flat_cons, List.length_append, ih, hs, List.length_cons, Nat.add_mul, Nat.one_mul, Nat.add_comm]
theorem flat_at (hs : ∀ a, (enc a).length = s) : ∀ (L : List α) (k j : Nat) (p : α) (v : Value), L[k]? = some p → (enc p)[j]? = some v → (flat enc L)[k * s + j]? = some v
  | [], k, j, p, v, h, _ => by simp at h
  | q :: r, 0, j, p, v, h, hv => by
    obtain rfl : q = p := by simpa using h
    have hj : j < (enc q).length := (List.getElem?_eq_some_iff.1 hv).1
    rw [flat_cons, Nat.zero_mul, Nat.zero_add, List.getElem?_append_left hj]
    exact hv
  | q :: r, k + 1, j, p, v, h, hv => by
    have ih := flat_at hs r k j p v (by simpa using h) hv
    have e : (k + 1) * s = k * s + s := by rw [Nat.add_mul, Nat.one_mul]
    rw [flat_cons, List.getElem?_append_right (by rw [hs]; omega), hs, show (k + 1) * s + j - s = k * s + j by omega]
    exact ih
theorem flat_take (hs : ∀ a, (enc a).length = s) (L : List α) (n : Nat) : flat enc (L.take n) = (flat enc L).take (n * s) := by
  induction L generalizing n with
  | nil => simp [flat]
  | cons p r ih =>
    cases n with
    | zero => simp [flat]
    | succ n =>
      have e : (n + 1) * s = n * s + s := by rw [Nat.add_mul, Nat.one_mul]
      have h3 : (enc p).take ((n + 1) * s) = enc p := List.take_of_length_le (by rw [hs]; omega)
      rw [List.take_succ_cons, flat_cons, flat_cons, ih, List.take_append, hs, h3, show (n + 1) * s - s = n * s by omega]
theorem flat_drop (hs : ∀ a, (enc a).length = s) (L : List α) (n : Nat) : flat enc (L.drop n) = (flat enc L).drop (n * s) := by
  induction L generalizing n with
  | nil => simp [flat]
  | cons p r ih =>
    cases n with
    | zero => simp
    | succ n =>
      have e : (n + 1) * s = n * s + s := by rw [Nat.add_mul, Nat.one_mul]
      have h3 : (enc p).drop ((n + 1) * s) = [] := List.drop_eq_nil_of_le (by rw [hs]; omega)
      rw [List.drop_succ_cons, flat_cons, ih, List.drop_append, hs, h3, show (n + 1) * s - s = n * s by omega, List.nil_append]
theorem flat_nil (hs : ∀ a, (enc a).length = s) (h0 : 0 < s) {L : List α} (h : flat enc L = []) : L = [] := by
  have h1 := congrArg List.length h
  rw [flat_len hs] at h1
  cases L with
  | nil => rfl
  | cons p r =>
    rw [List.length_cons, Nat.add_mul, Nat.one_mul, List.length_nil] at h1
    omega
theorem flat_one' (h : ∀ a, ∀ u ∈ enc a, u.oneCell' = true) (L : List α) : ∀ u ∈ flat enc L, u.oneCell' = true := by
  intro u hu
  obtain ⟨p, _, hp⟩ := List.mem_flatMap.1 hu
  exact h p u hp
end

/-- A row into which cells came. -/
theorem insN_eq (xs F ns : List Value) (p : Nat) (hp : p ≤ xs.length) (h1 : ∀ j, j < p → F[j]? = xs[j]?) (hx : ∀ j, j < ns.length → F[p + j]? = ns[j]?) (h2 : ∀ j, p ≤ j → j < xs.length → F[j + ns.length]? = xs[j]?) :
    F.take (xs.length + ns.length) = xs.take p ++ (ns ++ xs.drop p) := by
  apply List.ext_getElem?
  intro j
  rw [List.getElem?_take]
  by_cases hj : j < p
  · rw [if_pos (by omega), List.getElem?_append_left (by rw [List.length_take]; omega), List.getElem?_take, if_pos hj, h1 j hj]
  · rw [List.getElem?_append_right (by rw [List.length_take]; omega), List.length_take, Nat.min_eq_left hp]
    by_cases hn : j - p < ns.length
    · rw [if_pos (by omega), List.getElem?_append_left hn, ← hx (j - p) hn, show p + (j - p) = j by omega]
    · obtain ⟨q, rfl⟩ : ∃ q, j = q + ns.length := ⟨j - ns.length, by omega⟩
      rw [List.getElem?_append_right (by omega), List.getElem?_drop, show p + (q + ns.length - p - ns.length) = q by omega]
      by_cases hq : q < xs.length
      · rw [if_pos (by omega), h2 q (by omega) hq]
      · rw [if_neg (by omega), List.getElem?_eq_none (by omega)]
theorem insN_room (xs cur ns : List Value) (p : Nat) (hp : p ≤ xs.length) (hF : xs.length + ns.length ≤ cur.length) (ht : cur.take xs.length = xs) :
    (splice (splice cur (p + ns.length) (xs.drop p)) p ns).take (xs.length + ns.length) = xs.take p ++ (ns ++ xs.drop p) := by
  have hd : (xs.drop p).length = xs.length - p := List.length_drop
  have h1 : p + ns.length + (xs.drop p).length ≤ cur.length := by omega
  have h2 : p + ns.length ≤ (splice cur (p + ns.length) (xs.drop p)).length := by rw [splice_len _ _ _ h1]; omega
  have hc : ∀ j, j < xs.length → cur[j]? = xs[j]? := fun j hj => by
    have := congrArg (fun l => l[j]?) ht
    simpa [List.getElem?_take, hj] using this
  refine insN_eq xs _ ns p hp (fun j hj => ?_) (fun j hj => ?_) (fun j hj hj2 => ?_)
  · rw [splice_get _ _ _ h2, if_neg (by omega), splice_get _ _ _ h1, if_neg (by omega)]
    exact hc j (by omega)
  · rw [splice_get _ _ _ h2, if_pos (by omega), show p + j - p = j by omega]
  · rw [splice_get _ _ _ h2, if_neg (by omega), splice_get _ _ _ h1, if_pos (by omega), List.getElem?_drop]
    congr 1
    omega
theorem insN_grow (xs cur ns : List Value) (p : Nat) (hp : p ≤ xs.length) (hF : xs.length + ns.length ≤ cur.length) (ht : cur.take p = xs.take p) :
    (splice (splice cur p ns) (p + ns.length) (xs.drop p)).take (xs.length + ns.length) = xs.take p ++ (ns ++ xs.drop p) := by
  have hd : (xs.drop p).length = xs.length - p := List.length_drop
  have h1 : p + ns.length ≤ cur.length := by omega
  have h2 : p + ns.length + (xs.drop p).length ≤ (splice cur p ns).length := by rw [splice_len _ _ _ h1]; omega
  have hc : ∀ j, j < p → cur[j]? = xs[j]? := fun j hj => by
    have := congrArg (fun l => l[j]?) ht
    simpa [List.getElem?_take, hj] using this
  refine insN_eq xs _ ns p hp (fun j hj => ?_) (fun j hj => ?_) (fun j hj hj2 => ?_)
  · rw [splice_get _ _ _ h2, if_neg (by omega), splice_get _ _ _ h1, if_neg (by omega)]
    exact hc j hj
  · rw [splice_get _ _ _ h2, if_neg (by omega), splice_get _ _ _ h1, if_pos (by omega), show p + j - p = j by omega]
  · rw [splice_get _ _ _ h2, if_pos (by omega), List.getElem?_drop]
    congr 1
    omega
/-- A row from which the cells at a place went. -/
theorem delN_room (xs cur zs : List Value) (p s : Nat) (hp : p + s ≤ xs.length) (hF : xs.length ≤ cur.length) (ht : cur.take xs.length = xs) (hz : zs.length = s) :
    (splice (splice cur p (xs.drop (p + s))) (xs.length - s) zs).take (xs.length - s) = xs.take p ++ xs.drop (p + s) ∧ (splice (splice cur p (xs.drop (p + s))) (xs.length - s) zs).length = cur.length := by
  have hd : (xs.drop (p + s)).length = xs.length - (p + s) := List.length_drop
  have h1 : p + (xs.drop (p + s)).length ≤ cur.length := by omega
  have h2 : xs.length - s + zs.length ≤ (splice cur p (xs.drop (p + s))).length := by rw [splice_len _ _ _ h1]; omega
  have hc : ∀ j, j < xs.length → cur[j]? = xs[j]? := fun j hj => by
    have := congrArg (fun l => l[j]?) ht
    simpa [List.getElem?_take, hj] using this
  refine ⟨List.ext_getElem? fun j => ?_, by rw [splice_len _ _ _ h2, splice_len _ _ _ h1]⟩
  rw [List.getElem?_take]
  by_cases hj : j < xs.length - s
  · rw [if_pos hj, splice_get _ _ _ h2, if_neg (by omega), splice_get _ _ _ h1]
    by_cases hjp : j < p
    · rw [if_neg (by omega), List.getElem?_append_left (by rw [List.length_take]; omega), List.getElem?_take, if_pos hjp]
      exact hc j (by omega)
    · rw [if_pos (by omega), List.getElem?_append_right (by rw [List.length_take]; omega), List.length_take, Nat.min_eq_left (by omega)]
  · rw [if_neg hj, List.getElem?_eq_none (by rw [List.length_append, List.length_take, hd]; omega)]

/-- An element of a row, by its cells. -/
theorem Rowed.elem {α : Type} {enc : α → List Value} {s : Nat} (hs : ∀ a, (enc a).length = s) (h0 : 0 < s) {w : World} {t : TypeId} {a : Option Addr} {L : List α} (h : Rowed w t a (flat enc L)) {k : Nat} {p : α} (hk : L[k]? = some p) :
    ∃ g o, a = some ⟨g, o, none⟩ ∧ ∀ (j : Nat) v, (enc p)[j]? = some v → w.cell? ⟨g, o + k * s + j, none⟩ = some v := by
  obtain ⟨g, o, e, hc⟩ := h.cells (fun e => by rw [flat_nil hs h0 e] at hk; simp at hk)
  exact ⟨g, o, e, fun j v hv => by rw [Nat.add_assoc]; exact hc _ _ (flat_at hs L k j p v hk hv)⟩
theorem Lies.elem {α : Type} {enc : α → List Value} {s : Nat} (hs : ∀ a, (enc a).length = s) (h0 : 0 < s) {w : World} {F : Nat → Prop} {a : Option Addr} {L : List α} (h : Lies w F a (flat enc L)) {k : Nat} {p : α} (hk : L[k]? = some p) :
    ∃ g o, a = some ⟨g, o, none⟩ ∧ F g ∧ ∀ (j : Nat) v, (enc p)[j]? = some v → w.cell? ⟨g, o + k * s + j, none⟩ = some v := by
  obtain ⟨g, o, e, hf, hc⟩ := h.norm (fun e => by rw [flat_nil hs h0 e] at hk; simp at hk)
  exact ⟨g, o, e, hf, fun j v hv => by rw [Nat.add_assoc]; exact hc _ _ (flat_at hs L k j p v hk hv)⟩
end Go.Proofs.Ytollmkkbeeeccaa
