/-
  A map, as a list of keys that rise, and what the operations on it do. No statement is proved here.
-/
import Derived.Test.YtollmkkbeeeccaaMem
import Derived.Test.YtollmkkbeeeccaaStr
import Derived.Test.YtollmkkbeeeccaaEdt
import Derived.Test.YtollmkkbeeeccaaProg
import Derived.Maps.RangeWalk
import Derived.Maps.OwnSet
import Derived.Maps.OwnOps
import Derived.StringKeys
import Derived.WideKeyEntry
namespace Go.Proofs.Ytollmkkbeeeccaa.MG
open Go.RowKit Go.Maps Go.ChangeMaps Srt Tot

theorem text_list (k : ByteArray) : k.toList = k.data.toList := by
  have := str_toList k.data.toList
  rw [str_of] at this
  exact this
theorem before_less : ∀ a b : List UInt8, bytesBefore a b = Op.bytesLess a b
  | [], [] => rfl
  | [], _ :: _ => rfl
  | _ :: _, [] => rfl
  | a :: r, b :: s => by simp [bytesBefore, Op.bytesLess, before_less r s]
def kv : ByteArray → Value := Value.string
def kl : ByteArray → Lit := fun k => .string k.data.toList
def Fits (k : ByteArray) : Prop := k.size ≤ maxLen
theorem kl_same (a b : ByteArray) : (kl a).sameKey (kl b) = true ↔ a = b := by
  constructor; intro h; have h' : a.data.toList = b.data.toList := by simpa [kl, Lit.sameKey] using h
  exact ByteArray.ext (Array.toList_inj.1 h'); rintro rfl; simp [kl, Lit.sameKey]
theorem kl_before (a b : ByteArray) : (kl a).before (kl b) = lt a b := by
  show bytesBefore a.data.toList b.data.toList = Op.bytesLess a.toList b.toList; rw [text_list, text_list, before_less]
def ev : (Option (Nat × Nat) × (Nat × Nat)) → Value := fun s => .slice (s.1.map fun q => ⟨q.1, q.2, none⟩) s.2.1 s.2.2
def dv : (Option (Nat × Nat) × (Nat × Nat)) → DataW Unit := fun s => .agg [(match s.1 with | none => .agg [] | some q => .agg [.lit (.int .i64 (q.1 : Int)), .lit (.int .i64 (q.2 : Int))]), .lit (.int .i64 (s.2.1 : Int)), .lit (.int .i64 (s.2.2 : Int))]
/-- How a value in the map reads. -/
def rd : Value → Option (DataW Unit × List MemPlace) := fun v => match v with | .slice none n c => some (.agg [.agg [], .lit (.int .i64 (n : Int)), .lit (.int .i64 (c : Int))], []) | .slice (some ⟨b, o, none⟩) n c => some (.agg [.agg [.lit (.int .i64 (b : Int)), .lit (.int .i64 (o : Int))], .lit (.int .i64 (n : Int)), .lit (.int .i64 (c : Int))], []) | _ => none
theorem rd_mk (v : (Option (Nat × Nat) × (Nat × Nat))) : rd (ev v) = some (dv v, []) := by obtain ⟨a, n, c⟩ := v; cases a <;> rfl
theorem rd_inv {v : Value} {y : DataW Unit × List MemPlace} (h : rd v = some y) : ∃ n, v = ev n ∧ y = (dv n, []) := by
  unfold rd at h
  split at h
  rename_i n c; exact ⟨(none, (n, c)), rfl, by injection h with h; exact h.symm⟩; rename_i b o n c; exact ⟨(some (b, o), (n, c)), rfl, by injection h with h; exact h.symm⟩; cases h
theorem dv_inj {a b : (Option (Nat × Nat) × (Nat × Nat))} (h : dv a = dv b) : a = b := by
  unfold dv at h
  rcases a with ⟨_ | ⟨p, o⟩, n1, c1⟩ <;> rcases b with ⟨_ | ⟨p2, o2⟩, n2, c2⟩ <;> simp at h ⊢ <;> omega
def entry (p : ByteArray × (Option (Nat × Nat) × (Nat × Nat))) : Lit × DataW Unit := (kl p.1, dv p.2)
def enc (N : List (ByteArray × (Option (Nat × Nat) × (Nat × Nat)))) : DataW Unit := .map (N.map entry)

def ins (x : ByteArray × (Option (Nat × Nat) × (Nat × Nat))) : List (ByteArray × (Option (Nat × Nat) × (Nat × Nat))) → List (ByteArray × (Option (Nat × Nat) × (Nat × Nat)))
  | [] => [x]
  | y :: r => if lt x.1 y.1 = true then x :: y :: r else y :: ins x r
theorem mem_ins (x y : ByteArray × (Option (Nat × Nat) × (Nat × Nat))) : ∀ N : List (ByteArray × (Option (Nat × Nat) × (Nat × Nat))), y ∈ ins x N ↔ y = x ∨ y ∈ N
  | [] => by simp [ins]
  | z :: r => by
    unfold ins
    split
    · simp
    · simp [mem_ins x y r]
      constructor
      · rintro (h | h | h)
        · exact .inr (.inl h)
        · exact .inl h
        · exact .inr (.inr h)
      · rintro (h | h | h)
        · exact .inr (.inl h)
        · exact .inl h
        · exact .inr (.inr h)
theorem up_ins (x : ByteArray × (Option (Nat × Nat) × (Nat × Nat))) : ∀ {N : List (ByteArray × (Option (Nat × Nat) × (Nat × Nat)))}, Up N → (∀ p ∈ N, p.1 ≠ x.1) → Up (ins x N)
  | [], _, _ => by simp [ins, Up]
  | y :: r, hu, hn => by
    unfold ins
    split
    · rename_i h
      refine List.pairwise_cons.2 ⟨fun q hq => ?_, hu⟩
      rcases List.mem_cons.1 hq with rfl | hq
      · exact h
      · exact tr (b := y.1) h (hu.head q hq)
    · rename_i h
      have hy := hn y (by simp)
      refine List.pairwise_cons.2 ⟨fun q hq => ?_, up_ins x hu.tail (fun p hp => hn p (by simp [hp]))⟩
      rcases (mem_ins x q r).1 hq with rfl | hq
      · exact Srt.lt_of_ne (by simpa using h) (fun e => hy e.symm)
      · exact hu.head q hq
def other (k : ByteArray) (p : ByteArray × (Option (Nat × Nat) × (Nat × Nat))) : Bool := !(kl p.1).sameKey (kl k)
def same (k : ByteArray) (p : ByteArray × (Option (Nat × Nat) × (Nat × Nat))) : Bool := (kl p.1).sameKey (kl k)
theorem other_iff (k : ByteArray) (p : ByteArray × (Option (Nat × Nat) × (Nat × Nat))) : other k p = true ↔ p.1 ≠ k := by
  unfold other
  have := kl_same p.1 k
  cases h : (kl p.1).sameKey (kl k)
  · rw [h] at this
    simpa using this
  · rw [h] at this
    simpa using this
theorem filter_del {N : List (ByteArray × (Option (Nat × Nat) × (Nat × Nat)))} (hu : Up N) (k : ByteArray) : (N.filter (other k)) = Srt.del N k := by
  refine up_ext (hu.sub (List.filter_sublist (l := N))) (up_del hu k) fun p => ?_
  rw [List.mem_filter, mem_del hu, other_iff]
theorem enc_del {N : List (ByteArray × (Option (Nat × Nat) × (Nat × Nat)))} (hu : Up N) (k : ByteArray) : (enc N).del (kl k) = enc (Srt.del N k) := by
  rw [← filter_del hu k]
  unfold enc DataW.del
  simp only [List.filter_map]
  congr 1
theorem insert_map (x : ByteArray × (Option (Nat × Nat) × (Nat × Nat))) : ∀ N : List (ByteArray × (Option (Nat × Nat) × (Nat × Nat))), DataW.insert (entry x) (N.map entry) = (ins x N).map entry
  | [] => rfl
  | y :: r => by
    unfold ins
    simp only [List.map_cons, DataW.insert]
    have e : (entry x).1.before (entry y).1 = lt x.1 y.1 := kl_before _ _
    rw [e]
    split
    · rfl
    · rw [insert_map x r]; rfl
theorem enc_put {N : List (ByteArray × (Option (Nat × Nat) × (Nat × Nat)))} (hu : Up N) (k : ByteArray) (v : (Option (Nat × Nat) × (Nat × Nat))) : (enc N).put (kl k) (dv v) = enc (Srt.put N k v) := by
  have e : Srt.put N k v = ins (k, v) (N.filter (other k)) := by
    have hf : Up (N.filter (other k)) := hu.sub (List.filter_sublist (l := N))
    refine up_ext (up_put hu k v) (up_ins (k, v) hf (fun p hp => (other_iff k p).1 (List.mem_filter.1 hp).2)) fun p => ?_
    rw [mem_put hu, mem_ins, List.mem_filter, other_iff]
  rw [e]
  unfold enc DataW.put
  simp only
  rw [← insert_map]
  congr 2
  rw [List.filter_map]
  congr 1
theorem find_map {α β : Type} (g : α → β) (q : β → Bool) : ∀ l : List α, (l.map g).find? q = (l.find? (q ∘ g)).map g
  | [] => rfl
  | x :: r => by
    simp only [List.map_cons, List.find?_cons, Function.comp]
    split
    · rfl
    · exact find_map g q r
theorem look_find (N : List (ByteArray × (Option (Nat × Nat) × (Nat × Nat)))) (k : ByteArray) : Srt.look N k = (N.find? (same k)).map (·.2) := by
  unfold Srt.look
  congr 2
  funext p
  rw [Bool.eq_iff_iff]
  unfold same
  rw [kl_same]
  simp
theorem enc_at (N : List (ByteArray × (Option (Nat × Nat) × (Nat × Nat)))) (k : ByteArray) : (enc N).atKey (kl k) (dv (none, (0, 0))) = dv ((Srt.look N k).getD (none, (0, 0))) := by
  rw [look_find]
  unfold enc DataW.atKey
  simp only
  rw [find_map]
  have e : ((fun p : Lit × DataW Unit => p.1.sameKey (kl k)) ∘ entry) = same k := rfl
  rw [e]
  cases N.find? (same k) <;> rfl
theorem enc_has (N : List (ByteArray × (Option (Nat × Nat) × (Nat × Nat)))) (k : ByteArray) : Maps.has (enc N) (kl k) = Srt.has N k := by
  unfold Srt.has
  rw [look_find]
  unfold enc Maps.has
  simp only [List.any_map]
  have e : ((fun p : Lit × DataW Unit => p.1.sameKey (kl k)) ∘ entry) = same k := rfl
  rw [e]
  cases hf : N.find? (same k) with
  | none =>
    simp only [Option.map_none, Option.isSome_none]
    rw [List.any_eq_false]
    intro p hp
    exact List.find?_eq_none.1 hf p hp
  | some q =>
    simp only [Option.map_some, Option.isSome_some]
    rw [List.any_eq_true]
    exact ⟨q, List.mem_of_find?_eq_some hf, List.find?_some hf⟩
theorem enc_size (N : List (ByteArray × (Option (Nat × Nat) × (Nat × Nat)))) : Maps.size (enc N) = N.length := by simp [enc, Maps.size]

theorem keyed : Keyed Try.prog 9 := string_keyed Try.underlying9
theorem keyOf_fit (k : ByteArray) (h : Fits k) : keyOf Try.prog 9 (kv k) = some (kl k) := WideMaps.keyOf_string_mk Try.underlying9 h

/-- The map at block b has the pairs N. -/
structure Tb (w : World) (b : Nat) (N : List (ByteArray × (Option (Nat × Nat) × (Nat × Nat)))) : Prop where
  own : w.ownsMap Try.prog 9 rd b N.length (enc N)
  up : Up N
theorem Tb.tight {w : World} {b n : Nat} {N : List (ByteArray × (Option (Nat × Nat) × (Nat × Nat)))} (h : w.ownsMap Try.prog 9 rd b n (enc N)) (hu : Up N) : Tb w b N := by
  obtain ⟨es, clock, hb, F, hs, hD⟩ := h
  refine ⟨⟨es, clock, hb, F, ?_, hD⟩, hu⟩
  have := congrArg Maps.size hD
  rw [enc_size] at this
  simp [Maps.size, length_sorted] at this
  omega
theorem Tb.made (w : World) : Tb (w.alloc (.map #[] 0)) w.heap.size [] := ⟨World.ownsMap_made w Try.prog 9 rd, List.Pairwise.nil⟩
theorem Tb.keep {S : Nat → Prop} {w w' : World} {b : Nat} {N : List (ByteArray × (Option (Nat × Nat) × (Nat × Nat)))} (h : Tb w b N) (k : Kept S w w') (hd : ¬ S b) : Tb w' b N := by
  obtain ⟨⟨es, clock, hb, rest⟩, hu⟩ := h
  exact ⟨⟨es, clock, k.blk hb hd, rest⟩, hu⟩
theorem Tb.lt {w : World} {b : Nat} {N : List (ByteArray × (Option (Nat × Nat) × (Nat × Nat)))} (h : Tb w b N) : b < w.heap.size := World.ownsMap.lt h.own
/-- A map's block is no row of cells. -/
theorem Tb.ne {w : World} {b g : Nat} {N : List (ByteArray × (Option (Nat × Nat) × (Nat × Nat)))} {cs : Array Value} {t : TypeId} {fr : Nat × Nat} (h : Tb w b N) (hg : w.heap[g]? = some (.cells cs t fr)) : b ≠ g := by
  obtain ⟨⟨es, clock, hb, rest⟩, _⟩ := h
  rintro rfl
  rw [hb] at hg
  cases hg
theorem zeroV (w : World) : (zeroValue 25).run Try.prog w = .ok (ev (none, (0, 0))) w := Try.zeroValue25 w
theorem row_kept {w w' : World} {b : Nat} (h : w.grownBy w' (some b)) : Kept (fun k => k = b) w w' := Kept.grown h fun _ hk => (Option.some.inj hk).symm

section
variable {w : World} {ops : Array Oper} {rest : List Oper} {o : Oper} {a : Act} {Q : Exit → Act → World → Prop}
theorem run_look2 {b : Nat} {N : List (ByteArray × (Option (Nat × Nat) × (Nat × Nat)))} (hN : Tb w b N) (k : ByteArray) (hk : Fits k) : (Instr.lookup 73 (.map (some b)) (kv k) true).run Try.prog w = .ok (.tuple #[ev ((Srt.look N k).getD (none, (0, 0))), .bool (Srt.has N k)]) w := by
  obtain ⟨v, ps, hrun, hv⟩ := World.ownsMap.look_ok hN.own keyed Try.underlying73 (zeroV w) (zd := dv (none, (0, 0))) (zp := []) rfl (keyOf_fit k hk)
  obtain ⟨n, rfl, h2⟩ := rd_inv hv
  have h3 := congrArg Prod.fst h2
  simp only [enc_at] at h3
  rw [← dv_inj h3, enc_has] at hrun
  exact hrun
/-- 'v, ok := m[k]' -/
theorem wpList_look2 (hg : o.guard = none) (m x : Operand) (hop : o.op = Op.lookup 73 m x true) (b : Nat) (N : List (ByteArray × (Option (Nat × Nat) × (Nat × Nat)))) (hm : a.eval m = .map (some b)) (hN : Tb w b N) (k : ByteArray) (hx : a.eval x = kv k) (hk : Fits k)
    (hK : wpList Try.prog ops Q rest (a.put o.dst (.tuple #[ev ((Srt.look N k).getD (none, (0, 0))), .bool (Srt.has N k)])) w) : wpList Try.prog ops Q (o :: rest) a w := by
  refine wpList_lookup_own_ok w hg m x 73 hop 9 25 keyed Try.underlying73 rd (zeroV w) (dv (none, (0, 0))) [] rfl b N.length (enc N) hm hN.own _ _ hx (keyOf_fit k hk) fun v ps hv => ?_
  obtain ⟨n, rfl, h2⟩ := rd_inv hv
  have h3 := congrArg Prod.fst h2
  simp only [enc_at] at h3
  rw [← dv_inj h3, enc_has]
  exact hK
/-- 'm[k]' -/
theorem run_look1 {b : Nat} {N : List (ByteArray × (Option (Nat × Nat) × (Nat × Nat)))} (hN : Tb w b N) (k : ByteArray) (hk : Fits k) : (Instr.lookup 73 (.map (some b)) (kv k) false).run Try.prog w = .ok (ev ((Srt.look N k).getD (none, (0, 0)))) w := by
  obtain ⟨v, ps, hrun, hv⟩ := World.ownsMap.lookup hN.own keyed Try.underlying73 (zeroV w) (zd := dv (none, (0, 0))) (zp := []) rfl (keyOf_fit k hk)
  obtain ⟨n, rfl, h2⟩ := rd_inv hv
  have h3 := congrArg Prod.fst h2
  simp only [enc_at] at h3
  rw [← dv_inj h3] at hrun
  exact hrun
/-- 'len(m)' -/
theorem run_size {b : Nat} {N : List (ByteArray × (Option (Nat × Nat) × (Nat × Nat)))} (hN : Tb w b N) (ty : TypeId) : (Builtin.len_ #[73] ty #[.map (some b)]).run Try.prog w = .ok (.int .i64 (N.length : Int)) w := by
  have hr := hN.own.len Try.underlying73 ty
  rw [enc_size] at hr
  exact hr
theorem wpList_size (hg : o.guard = none) (m : Operand) (hop : o.op = Op.call { callee := Callee.builtin Builtin.len, args := #[m], argTypes := #[73] }) (b : Nat) (N : List (ByteArray × (Option (Nat × Nat) × (Nat × Nat)))) (hm : a.eval m = .map (some b)) (hN : Tb w b N)
    (hK : wpList Try.prog ops Q rest (a.put o.dst (.int .i64 (N.length : Int))) w) : wpList Try.prog ops Q (o :: rest) a w := by
  refine wpList_len_own w hg m 73 hop 9 25 Try.underlying73 rd b N.length (enc N) hm hN.own ?_
  rw [enc_size]
  exact hK
/-- 'delete(m, k)' -/
theorem wpList_del (hg : o.guard = none) (m x : Operand) (hop : o.op = Op.call { callee := Callee.builtin Builtin.delete, args := #[m, x], argTypes := #[73, 9] }) (b : Nat) (N : List (ByteArray × (Option (Nat × Nat) × (Nat × Nat)))) (hm : a.eval m = .map (some b)) (hN : Tb w b N) (k : ByteArray) (hx : a.eval x = kv k) (hk : Fits k)
    (hK : ∀ w', Tb w' b (Srt.del N k) → Kept (fun i => i = b) w w' → wpList Try.prog ops Q rest (a.put o.dst (.tuple #[])) w') : wpList Try.prog ops Q (o :: rest) a w := by
  refine wpList_delete_own w hg m x 73 9 hop 25 keyed Try.underlying73 rd b N.length (enc N) hm hN.own _ _ hx (keyOf_fit k hk) fun w' h1 h2 => ?_
  rw [enc_del hN.up] at h1
  exact hK w' (Tb.tight h1 (up_del hN.up k)) (row_kept h2.grown)
/-- 'm[k] = v' -/
theorem wpList_put (hg : o.guard = none) (m x y : Operand) (hop : o.op = Op.mapUpdate 73 m x y) (b : Nat) (N : List (ByteArray × (Option (Nat × Nat) × (Nat × Nat)))) (hm : a.eval m = .map (some b)) (hN : Tb w b N) (k : ByteArray) (hx : a.eval x = kv k) (hk : Fits k) (hn : N.length < maxLen) (v : (Option (Nat × Nat) × (Nat × Nat))) (hv : a.eval y = ev v)
    (hK : ∀ w', Tb w' b (Srt.put N k v) → Kept (fun i => i = b) w w' → wpList Try.prog ops Q rest (a.put o.dst undef) w') : wpList Try.prog ops Q (o :: rest) a w := by
  refine wpList_mapUpdate_own w hg m x y 73 hop 9 25 keyed Try.underlying73 rd b N.length (enc N) hm hN.own hn _ _ _ hx hv (keyOf_fit k hk) (dv v) [] (rd_mk v) fun w' h1 h2 => ?_
  rw [enc_put hN.up] at h1
  exact hK w' (Tb.tight h1 (up_put hN.up k v)) (row_kept h2)
theorem run_del {b : Nat} {N : List (ByteArray × (Option (Nat × Nat) × (Nat × Nat)))} (hN : Tb w b N) (k : ByteArray) (hk : Fits k) : ∃ w', (∀ ty, (Builtin.delete_ #[73, 9] ty #[.map (some b), kv k]).run Try.prog w = .ok (.tuple #[]) w') ∧ Tb w' b (Srt.del N k) ∧ Kept (fun i => i = b) w w' := by
  obtain ⟨w', hrun, h1, h2⟩ := hN.own.drop keyed Try.underlying73 (keyOf_fit k hk) 0
  rw [enc_del hN.up] at h1
  exact ⟨w', fun ty => hrun, Tb.tight h1 (up_del hN.up k), row_kept h2.grown⟩
theorem run_put {b : Nat} {N : List (ByteArray × (Option (Nat × Nat) × (Nat × Nat)))} (hN : Tb w b N) (k : ByteArray) (hk : Fits k) (hn : N.length < maxLen) (v : (Option (Nat × Nat) × (Nat × Nat))) : ∃ w', (Instr.mapUpdate 73 (.map (some b)) (kv k) (ev v)).run Try.prog w = .ok () w' ∧ Tb w' b (Srt.put N k v) ∧ Kept (fun i => i = b) w w' := by
  obtain ⟨w', hrun, h1, h2⟩ := World.ownsMap.update hN.own keyed Try.underlying73 hn (keyOf_fit k hk) (rd_mk v)
  rw [enc_put hN.up] at h1
  exact ⟨w', hrun, Tb.tight h1 (up_put hN.up k v), row_kept h2⟩
/-- 'm[k], .. = v, ..': the entry first, what it has later. -/
theorem entry_store {b : Nat} {N : List (ByteArray × (Option (Nat × Nat) × (Nat × Nat)))} (hN : Tb w b N) (k : ByteArray) (hk : Fits k) (hn : N.length < maxLen) :
    ∃ (v0 : Value) (st : Nat) (w1 : World), (Instr.mapEntry 73 (.map (some b)) (kv k)).run Try.prog w = .ok (.tuple #[v0, goInt st]) w1 ∧ Kept (fun i => i = b) w w1 ∧
      ∀ (w2 : World) (v : (Option (Nat × Nat) × (Nat × Nat))), w2.heap[b]? = w1.heap[b]? → ∃ w3, (Instr.entryStore 73 (.map (some b)) (goInt st) (ev v)).run Try.prog w2 = .ok () w3 ∧ Kept (fun i => i = b) w2 w3 ∧ Tb w3 b (Srt.put N k v) := by
  have hkey := keyOf_fit k hk
  have hup := hN.up
  obtain ⟨⟨es, clock, hb, F, hs, hD⟩, _⟩ := hN
  have KS : ∀ (u : World) (o : Obj) {fs : Array MapEntry} {cl : Nat}, u.heap[b]? = some (.map fs cl) → Kept (fun i => i = b) u (Go.ChangeMaps.setBlock u b o) ∧ (Go.ChangeMaps.setBlock u b o).heap[b]? = some o := fun u o _ _ hu =>
    ⟨Kept.grown (row := some b) ⟨rfl, rfl, rfl, by simp [Go.ChangeMaps.setBlock], fun i _ hi => heap_setBlock_other hu _ (fun e => hi (by rw [e]))⟩ (fun _ hk => (Option.some.inj hk).symm), heap_setBlock_same hu _⟩
  have FIN : ∀ (w3 : World) (v : (Option (Nat × Nat) × (Nat × Nat))) (es' : Array MapEntry) (clock' : Nat), (Instr.mapUpdate 73 (.map (some b)) (kv k) (ev v)).run Try.prog w = .ok () (Go.ChangeMaps.setBlock w b (.map es' clock')) → w3.heap[b]? = some (.map es' clock') → Tb w3 b (Srt.put N k v) := fun w3 v es' clock' hrun h3 => by
    obtain ⟨w', hrun', h1, _⟩ := World.ownsMap.update (R := rd) ⟨es, clock, hb, F, hs, hD⟩ keyed Try.underlying73 hn hkey (rd_mk v)
    rw [hrun] at hrun'
    injection hrun' with _ hw
    subst hw
    rw [enc_put hup] at h1
    have ht := Tb.tight h1 (up_put hup k v)
    obtain ⟨⟨e2, c2, hb2, rest⟩, hu2⟩ := ht
    rw [(KS w (.map es' clock') hb).2] at hb2
    injection hb2 with hb2
    injection hb2 with he hc
    subst he hc
    exact ⟨⟨es', clock', h3, rest⟩, hu2⟩
  obtain ⟨s1, s2, _⟩ := F.stamped
  rcases keyed.find w hkey es.toList F.keys with ⟨h1, h2⟩ | ⟨j, e0, h1, h2, h3⟩
  · refine ⟨ev (none, (0, 0)), clock, Go.ChangeMaps.setBlock w b (.map (es.push ⟨kv k, ev (none, (0, 0)), clock⟩) (clock + 1)), ?_, (KS w _ hb).1, fun w2 v hw2 => ?_⟩
    · simp [Instr.mapEntry, run_underlying Try.underlying73, MapKept.run_getObj_map hb, keyed.check w false hkey, h1, MapKept.run_setObj_map _ hb, Result.andThen, Go.ChangeMaps.setBlock]
      try exact ⟨rfl, rfl⟩
    · rw [(KS w _ hb).2] at hw2
      have hidx : (es.push ⟨kv k, ev (none, (0, 0)), clock⟩).findIdx? (fun e => ((e.born : Nat) : Int) == ((clock : Nat) : Int)) = some es.size := by
        rw [WideElems.findIdx_arr]
        exact WideElems.findIdx_born (l := (es.push ⟨kv k, ev (none, (0, 0)), clock⟩).toList) (j := es.size) (e0 := ⟨kv k, ev (none, (0, 0)), clock⟩) (by
          simp only [Array.toList_push, List.map_append, List.map_cons, List.map_nil]
          refine List.nodup_append.2 ⟨s2, by simp, fun a ha c hc e1 => ?_⟩
          simp only [List.mem_singleton] at hc
          obtain ⟨x, hx, rfl⟩ := List.mem_map.1 ha
          have := s1 x hx
          omega) (by simp)
      have hmod : (es.push ⟨kv k, ev (none, (0, 0)), clock⟩).modify es.size (fun e => { e with val := ev v }) = es.push ⟨kv k, ev v, clock⟩ := by
        apply Array.ext'
        rw [Array.toList_modify, Array.toList_push, Array.toList_push, ← Array.length_toList, WideElems.modify_last]
      refine ⟨Go.ChangeMaps.setBlock w2 b (.map (es.push ⟨kv k, ev v, clock⟩) (clock + 1)), ?_, (KS w2 _ hw2).1, FIN _ v _ _ ?_ (KS w2 _ hw2).2⟩
      · simp [Instr.entryStore, MapKept.run_getObj_map hw2, asInt, asIntOf, goInt, hidx, hmod, MapKept.run_setObj_map _ hw2, Result.andThen, Go.ChangeMaps.setBlock]
      · simp [Instr.mapUpdate, run_underlying Try.underlying73, MapKept.run_getObj_map hb, keyed.check w false hkey, h1, MapKept.run_setObj_map _ hb, Result.andThen, Go.ChangeMaps.setBlock]
  · have hj : es[j]? = some e0 := by simpa using h2
    have hsame : es.modify j (fun e => { e with key := kv k }) = es := by
      apply Array.ext'
      rw [Array.toList_modify, modify_eq_set _ _ _ _ h2]
      have : ({ e0 with key := kv k } : MapEntry) = e0 := by rw [← h3]
      rw [this]
      exact WideElems.set_self _ _ _ h2
    refine ⟨e0.val, e0.born, Go.ChangeMaps.setBlock w b (.map es clock), ?_, (KS w _ hb).1, fun w2 v hw2 => ?_⟩
    · simp [Instr.mapEntry, run_underlying Try.underlying73, MapKept.run_getObj_map hb, keyed.check w false hkey, h1, hj, h3, keyed.stays w hkey, hsame, MapKept.run_setObj_map _ hb, Result.andThen, Go.ChangeMaps.setBlock]
    · rw [(KS w _ hb).2] at hw2
      have hidx : es.findIdx? (fun e => ((e.born : Nat) : Int) == ((e0.born : Nat) : Int)) = some j := by
        rw [WideElems.findIdx_arr]
        exact WideElems.findIdx_born s2 h2
      have hmod : es.modify j (fun e => { e with val := ev v }) = es.modify j (fun e' => { e' with key := kv k, val := ev v }) := by
        apply Array.ext'
        rw [Array.toList_modify, Array.toList_modify, modify_eq_set _ _ _ _ h2, modify_eq_set _ _ _ _ h2, ← h3]
      refine ⟨Go.ChangeMaps.setBlock w2 b (.map (es.modify j (fun e' => { e' with key := kv k, val := ev v })) clock), ?_, (KS w2 _ hw2).1, FIN _ v _ _ ?_ (KS w2 _ hw2).2⟩
      · simp [Instr.entryStore, MapKept.run_getObj_map hw2, asInt, asIntOf, goInt, hidx, hmod, MapKept.run_setObj_map _ hw2, Result.andThen, Go.ChangeMaps.setBlock]
      · simp [Instr.mapUpdate, run_underlying Try.underlying73, MapKept.run_getObj_map hb, keyed.check w false hkey, h1, hj, h3, keyed.stays w hkey, MapKept.run_setObj_map _ hb, Result.andThen, Go.ChangeMaps.setBlock]
end
end Go.Proofs.Ytollmkkbeeeccaa.MG
