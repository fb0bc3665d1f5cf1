/-
  A map from files to bools: which files have come. No statement is proved here.
-/
import Derived.Test.YtdcccjkondjhbaaMdl6c
import Derived.LaidEqlPtr
namespace Go.Proofs.Ytdcccjkondjhbaa
open Go.RowKit Go.Maps Go.MapKept Go.ChangeMaps

def ptrB (i : Nat) : Value := .pointer (some ⟨i, 0, none⟩)
/-- A block of cells. -/
def isCells (w : World) (i : Nat) : Prop := ∃ cs t, w.heap[i]? = some (.cells cs t (0, 0))
theorem isCells.keep {T : Nat → Prop} {w w' : World} {i : Nat} (h : isCells w i) (k : Kept T w w') (hi : ¬ T i) : isCells w' i := by
  obtain ⟨cs, t, h⟩ := h
  exact ⟨cs, t, k.blk h hi⟩
theorem equal_ptr (w : World) {a b : Nat} (ha : isCells w a) (hb : isCells w b) : (Op.equal 44 (ptrB a) (ptrB b)).run Try.prog w = .ok (decide (a = b)) w := by
  obtain ⟨ca, ta, ha⟩ := ha
  obtain ⟨cb, tb, hb⟩ := hb
  have hinfo : (Try.prog.info? 48).map (·.size) = some 2 := by kernel_rfl
  obtain ⟨j, hte, hsz⟩ := Option.map_eq_some_iff.1 hinfo
  have hp : Try.prog.underlying 44 = some (.pointer 48) := Try.underlying44
  by_cases e : a = b
  · subst e
    have h : ∀ d : Nat, (Op.equalIn (d + 1) 44 (ptrB a) (ptrB a)).run Try.prog w = .ok true w := fun d => by
      simp [ptrB, Op.equalIn, run_underlying hp, sizeOf, typeInfo, hte, run_sameAddr_same]
    have := h 9999
    simp only [decide_true]
    exact this
  · have hne : (⟨a, 0, none⟩ : Addr) ≠ ⟨b, 0, none⟩ := fun h => e (by injection h)
    have h : ∀ d : Nat, (Op.equalIn (d + 1) 44 (ptrB a) (ptrB b)).run Try.prog w = .ok false w := fun d => by
      simp [ptrB, Op.equalIn, run_underlying hp, sizeOf, typeInfo, hte, hsz, run_sameAddr_other w hne ha hb]
    have := h 9999
    rw [decide_eq_false e]
    exact this
/-- All keys are files' blocks, and have true. -/
def Ptrs (w : World) (es : List MapEntry) : Prop := ∀ e ∈ es, e.val = .bool true ∧ ∃ i, e.key = ptrB i ∧ isCells w i
theorem find_ptr (w : World) {a : Nat} (ha : isCells w a) : ∀ (es : List MapEntry) (n : Nat), Ptrs w es →
    ((Instr.findAsking 44 (ptrB a) es n).run Try.prog w = .ok none w ∧ ∀ e ∈ es, e.key ≠ ptrB a) ∨ (∃ j, (Instr.findAsking 44 (ptrB a) es n).run Try.prog w = .ok (some (j, .bool true)) w ∧ ∃ e ∈ es, e.key = ptrB a)
  | [], n, _ => .inl ⟨by simp [Instr.findAsking], fun e h => by cases h⟩
  | e :: es, n, h => by
    obtain ⟨hv, i, hk, hi⟩ := h e (by simp)
    have heq := equal_ptr w ha hi
    by_cases hai : a = i
    · subst hai
      right
      refine ⟨n, ?_, e, by simp, hk⟩
      unfold Instr.findAsking
      simp [hk, heq, hv]
    · have hne : e.key ≠ ptrB a := by
        rw [hk]
        intro h9
        simp only [ptrB, Value.pointer.injEq, Option.some.injEq, Addr.mk.injEq, and_true] at h9
        exact hai h9.symm
      rcases find_ptr w ha es (n + 1) (fun e he => h e (by simp [he])) with ⟨h1, h2⟩ | ⟨j, h1, h2⟩
      · left
        refine ⟨?_, fun e' he' => ?_⟩
        · unfold Instr.findAsking
          simp [hk, heq, hai, h1]
        · rcases List.mem_cons.1 he' with rfl | h9
          · exact hne
          · exact h2 e' h9
      · right
        obtain ⟨e', he', hk'⟩ := h2
        refine ⟨j, ?_, e', by simp [he'], hk'⟩
        unfold Instr.findAsking
        simp [hk, heq, hai, h1]
theorem findKey_ptr (w : World) {a : Nat} (ha : isCells w a) (es : List MapEntry) (h : Ptrs w es) :
    ((Instr.findKey 44 (ptrB a) es).run Try.prog w = .ok none w ∧ ∀ e ∈ es, e.key ≠ ptrB a) ∨ (∃ j, (Instr.findKey 44 (ptrB a) es).run Try.prog w = .ok (some (j, .bool true)) w ∧ ∃ e ∈ es, e.key = ptrB a) := by
  have hp : Try.prog.underlying 44 = some (.pointer 48) := Try.underlying44
  cases es with
  | nil => left; exact ⟨by simp [Instr.findKey, run_underlying hp, Instr.findNow], fun e h => by cases h⟩
  | cons e es =>
    have hn : Instr.findNow (.pointer 48) (ptrB a) (e :: es) 0 = none := by simp [Instr.findNow, Instr.sameNow]
    have hr : (Instr.findKey 44 (ptrB a) (e :: es)).run Try.prog w = (Instr.findAsking 44 (ptrB a) (e :: es) 0).run Try.prog w := by simp [Instr.findKey, run_underlying hp, hn]
    rw [hr]
    exact find_ptr w ha (e :: es) 0 h
theorem check_ptr (w : World) (em : Bool) (a : Nat) : (Instr.checkKey em 10000 44 (ptrB a)).run Try.prog w = .ok () w := by
  have hp : Try.prog.underlying 44 = some (.pointer 48) := Try.underlying44
  have : ∀ n, (Instr.checkKey em (n + 1) 44 (ptrB a)).run Try.prog w = .ok () w := fun n => by simp [Instr.checkKey, run_underlying hp, ptrB]
  exact this 9999
section
variable {w : World} {ops : Array Oper} {rest : List Oper} {o : Oper} {a : Act} {Q : Exit → Act → World → Prop}
/-- 'done[f]' -/
theorem wpList_came (hg : o.guard = none) (m x : Operand) (hop : o.op = Op.lookup 64 m x false) (D : Nat) (es : Array MapEntry) (clock : Nat) (hm : a.eval m = .map (some D)) (hD : w.heap[D]? = some (.map es clock)) (hes : Ptrs w es.toList) (i : Nat) (hi : isCells w i) (hx : a.eval x = ptrB i)
    (hT : Hid (∃ e ∈ es.toList, e.key = ptrB i) → wpList Try.prog ops Q rest (a.put o.dst (.bool true)) w) (hF : Hid (∀ e ∈ es.toList, e.key ≠ ptrB i) → wpList Try.prog ops Q rest (a.put o.dst (.bool false)) w) : wpList Try.prog ops Q (o :: rest) a w := by
  refine wpList_plain hg fun K' hK' => ?_
  have hz : (zeroValue 4).run Try.prog w = .ok (.bool false) w := Try.zeroValue4 w
  unfold Oper.wp
  rcases findKey_ptr w hi es.toList hes with ⟨h1, h2⟩ | ⟨j, h1, h2⟩
  · have hr : (Instr.lookup 64 (.map (some D)) (ptrB i) false).run Try.prog w = .ok (.bool false) w := by
      simp [Instr.lookup, run_underlying Try.underlying64, MapKept.run_getObj_map hD, check_ptr, h1, hz]
    simp [execOp, hop, hm, hx, hr, Result.andThen]
    exact hK' _ _ (hF (Lib.hid h2))
  · have hr : (Instr.lookup 64 (.map (some D)) (ptrB i) false).run Try.prog w = .ok (.bool true) w := by
      simp [Instr.lookup, run_underlying Try.underlying64, MapKept.run_getObj_map hD, check_ptr, h1]
    simp [execOp, hop, hm, hx, hr, Result.andThen]
    exact hK' _ _ (hT (Lib.hid h2))
/-- 'done[f] = true', where f has not come. -/
theorem wpList_comes (hg : o.guard = none) (m x v : Operand) (hop : o.op = Op.mapUpdate 64 m x v) (D : Nat) (es : Array MapEntry) (clock : Nat) (hm : a.eval m = .map (some D)) (hD : w.heap[D]? = some (.map es clock)) (hes : Ptrs w es.toList) (i : Nat) (hi : isCells w i) (hx : a.eval x = ptrB i) (hv : a.eval v = .bool true)
    (hno : ∀ e ∈ es.toList, e.key ≠ ptrB i)
    (hK : ∀ w' es' clock', w'.heap[D]? = some (.map es' clock') → (∀ e ∈ es'.toList, e ∈ es.toList ∨ (e.key = ptrB i ∧ e.val = .bool true)) → Kept (fun k => k = D) w w' → wpList Try.prog ops Q rest (a.put o.dst undef) w') : wpList Try.prog ops Q (o :: rest) a w := by
  refine wpList_plain hg fun K' hK' => ?_
  unfold Oper.wp
  rcases findKey_ptr w hi es.toList hes with ⟨h1, h2⟩ | ⟨j, h1, e, he, hk⟩
  · have hr : (Instr.mapUpdate 64 (.map (some D)) (ptrB i) (.bool true)).run Try.prog w = .ok () (setBlock w D (.map (es.push { key := ptrB i, val := .bool true, born := clock }) (clock + 1))) := by
      simp [Instr.mapUpdate, run_underlying Try.underlying64, MapKept.run_getObj_map hD, check_ptr, h1, MapKept.run_setObj_map _ hD, Result.andThen, setBlock]
    simp [execOp, hop, hm, hx, hv, hr, Result.andThen]
    refine hK' _ _ (hK _ _ _ (heap_setBlock_same hD _) (fun e he => ?_) ⟨rfl, rfl, rfl, by simp [setBlock], fun i _ hi => heap_setBlock_other hD _ (fun e => hi e)⟩)
    simp at he
    rcases he with h9 | rfl
    · exact .inl (by simpa using h9)
    · exact .inr ⟨rfl, rfl⟩
  · exact absurd hk (hno e he)
end
end Go.Proofs.Ytdcccjkondjhbaa
