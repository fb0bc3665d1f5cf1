/-
  Rows of bytes, and the bytes of steps' edits. No statement is proved here.
-/
import Derived.Test.YtjijdkdpmbfdmaaL10Round
import Derived.Test.YtjijdkdpmbfdmaaE10Bytes
import Derived.Test.YtjijdkdpmbfdmaaL10Bytes
import Derived.Test.YtjijdkdpmbfdmaaE10Read
import Derived.Test.YtjijdkdpmbfdmaaEdtRep
import Derived.Test.YtjijdkdpmbfdmaaFrame4
namespace Go.Proofs.Ytjijdkdpmbfdmaa
open Go.RowKit Tot

theorem run_str10 {w : World} {F : Nat → Prop} {a : Option Addr} {n : Nat} {l : List UInt8} (h : Lies w F a (l.map bv)) (hl : l.length = n) (c : Nat) : (convert 28 9 (.slice a n c)).run Try.prog w = .ok (.string (str l)) w :=
  run_str_lies 28 9 5 Try.underlying28 Try.underlying5 Try.underlying9 h hl c
/-- The bytes of a step's edit are few, but for one name. -/
theorem editOf_bytes (x : StepV) : 24 ≤ (editOf x).bytes.length ∧ (editOf x).bytes.length ≤ 300 + x.any.name.size := by
  have h4 := editOf_drop x
  have h8 := flatMap_cap tx 10 (editOf x).drop (fun k hk => by
    rw [tx_length]
    unfold editOf at hk
    simp only [List.mem_map] at hk
    obtain ⟨n, _, rfl⟩ := hk
    rw [nmE_size]
    omega)
  have h9 : ((editOf x).add.flatMap refB).length ≤ 4 * 27 + (25 + x.any.name.size) := by
    unfold editOf
    simp only [List.flatMap_append, List.length_append]
    have h1 := flatMap_cap refB 27 ((x.add.take 4).map refOf) (fun r hr => by
      rw [refB_length]
      simp only [List.mem_map] at hr
      obtain ⟨n, _, rfl⟩ := hr
      unfold refOf
      simp only
      rw [nmE_size]
      omega)
    have h2 : ((x.add.take 4).map refOf).length ≤ 4 := by rw [List.length_map, List.length_take]; omega
    have h3 : ((if x.odd = true then [x.any] else []).flatMap refB).length ≤ 25 + x.any.name.size := by
      split
      · simp [refB_length]
      · simp
    omega
  rw [EditV.bytes_length]
  omega
/-- A row of bytes. -/
structure RwV where
  a : Option Addr
  c : Nat
  l : List UInt8
def RwV.val (y : RwV) : Value := .slice y.a y.l.length y.c
/-- Rows of bytes that come one behind the other. -/
structure AllR (w wr : World) (P : Option Addr) (m pc : Nat) (ys : List RwV) : Prop where
  own : wr.ownsRow 0 28 1 (.slice P m pc) m (ys.map RwV.val)
  lie : ∀ y ∈ ys, Lies wr (fun i => ¬ (Value.slice P m pc).ownBlock = some i) y.a (y.l.map bv)
  sml : ∀ y ∈ ys, y.l.length ≤ 1100000
  blo : ∀ i, (Value.slice P m pc).ownBlock = some i → w.heap.size ≤ i
  len : ys.length = m
  kept : Kept noBlock w wr
theorem AllR.keep {w wr u : World} {P : Option Addr} {m pc : Nat} {ys : List RwV} (h : AllR w wr P m pc ys) (k : Kept noBlock wr u) : AllR w u P m pc ys :=
  ⟨own_keep h.own k (fun _ _ h => h), fun y hy => (h.lie y hy).keep k (fun _ _ h => h), h.sml, h.blo, h.len, h.kept.step k⟩
/-- Two rows more. -/
theorem AllR.two {w wr u v : World} {P P' : Option Addr} {m pc pc' : Nat} {ys : List RwV} (h : AllR w wr P m pc ys) (k : Kept noBlock wr u) (y1 y2 : RwV) (l1 : Lies u (fun i => wr.heap.size ≤ i ∧ i < u.heap.size) y1.a (y1.l.map bv)) (l2 : Lies u (fun i => wr.heap.size ≤ i ∧ i < u.heap.size) y2.a (y2.l.map bv)) (s1 : y1.l.length ≤ 1100000) (s2 : y2.l.length ≤ 1100000)
    (o : v.ownsRow 0 28 1 (.slice P' (m + 2) pc') (m + 2) (ys.map RwV.val ++ [y1.val, y2.val])) (kv : Kept (fun i => (Value.slice P m pc).ownBlock = some i) u v) (hat : ∀ i, (Value.slice P' (m + 2) pc').ownBlock = some i → (Value.slice P m pc).ownBlock = some i ∨ fresh u v i) : AllR w v P' (m + 2) pc' (ys ++ [y1, y2]) := by
  have hP : ∀ i, (Value.slice P m pc).ownBlock = some i → i < wr.heap.size := fun i hi => (h.own.lt i hi).2
  have key : ∀ y : RwV, Lies u (fun i => ¬ (Value.slice P m pc).ownBlock = some i ∧ i < u.heap.size) y.a (y.l.map bv) → Lies v (fun i => ¬ (Value.slice P' (m + 2) pc').ownBlock = some i) y.a (y.l.map bv) := fun y hy =>
    (hy.keep kv (fun i hi => hi.1)).mono (fun i hi e => by
      rcases hat i e with h | h
      · exact hi.1 h
      · have := h.1; omega)
  refine ⟨by rw [List.map_append]; exact o, fun y hy => ?_, fun y hy => ?_, fun i hi => ?_, by rw [List.length_append, h.len]; rfl, ?_⟩
  · rcases List.mem_append.1 hy with hy | hy
    · have h1 := h.lie y hy
      have h2 := Lies.and h1 h1.lt
      exact key y ((h2.keep k (fun _ _ h => h)).mono (fun i hi => ⟨hi.1, Nat.lt_of_lt_of_le hi.2 k.size⟩))
    · simp only [List.mem_cons, List.not_mem_nil, or_false] at hy
      rcases hy with rfl | rfl
      · exact key _ (l1.mono (fun i hi => ⟨fun e => by have := hP i e; omega, hi.2⟩))
      · exact key _ (l2.mono (fun i hi => ⟨fun e => by have := hP i e; omega, hi.2⟩))
  · rcases List.mem_append.1 hy with hy | hy
    · exact h.sml y hy
    · simp only [List.mem_cons, List.not_mem_nil, or_false] at hy
      rcases hy with rfl | rfl
      · exact s1
      · exact s2
  · rcases hat i hi with h1 | h1
    · exact h.blo i h1
    · exact Nat.le_trans (Nat.le_trans h.kept.size k.size) h1.1
  · exact (h.kept.step k).trans kv (fun i hi e => by have := h.blo i e; omega)
end Go.Proofs.Ytjijdkdpmbfdmaa
