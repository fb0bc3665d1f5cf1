/-
  Going over a map whose keys are texts. No statement is proved here.
-/
import Derived.Test.YtjijdkdpmbfdmaaTblMF
namespace Go.Proofs.Ytjijdkdpmbfdmaa.MF
open Go.RowKit Go.Maps Go.ChangeMaps Srt Tot

/-- A value that is not taken apart. -/
structure One where
  out : RefV
/-- Those that are still to come. -/
def still (N : List (ByteArray × RefV)) (left : Lit → Bool) : List (ByteArray × RefV) := N.filter fun p => left (kl p.1)
/-- A range over the map of the pairs N is under way. -/
structure Rng (w : World) (b r : Nat) (N : List (ByteArray × RefV)) (left : Lit → Bool) (cnt : Nat) : Prop where
  own : w.ranges Try.prog 9 rd b r N.length (enc N) left cnt
  up : Up N
theorem Rng.keep {S : Nat → Prop} {w w' : World} {b r : Nat} {N : List (ByteArray × RefV)} {left : Lit → Bool} {cnt : Nat} (h : Rng w b r N left cnt) (k : Kept S w w') (hb : ¬ S b) (hr : ¬ S r) : Rng w' b r N left cnt := by
  obtain ⟨⟨es, clock, since, seen, c0, h1, F, hs, hD, h2, rest⟩, hu⟩ := h
  exact ⟨⟨es, clock, since, seen, c0, k.blk h1 hb, F, hs, hD, k.blk h2 hr, rest⟩, hu⟩
theorem Rng.tb {w : World} {b r : Nat} {N : List (ByteArray × RefV)} {left : Lit → Bool} {cnt : Nat} (h : Rng w b r N left cnt) : Tb w b N := ⟨World.ranges.owns h.own, h.up⟩
theorem Rng.lt {w : World} {b r : Nat} {N : List (ByteArray × RefV)} {left : Lit → Bool} {cnt : Nat} (h : Rng w b r N left cnt) : r < w.heap.size := by
  obtain ⟨⟨es, clock, since, seen, c0, h1, F, hs, hD, h2, rest⟩, hu⟩ := h
  exact lt_of_blk h2
theorem Rng.ne {w : World} {b r g : Nat} {N : List (ByteArray × RefV)} {left : Lit → Bool} {cnt : Nat} {cs : Array Value} {t : TypeId} {fr : Nat × Nat} (h : Rng w b r N left cnt) (hg : w.heap[g]? = some (.cells cs t fr)) : r ≠ g := by
  obtain ⟨⟨es, clock, since, seen, c0, h1, F, hs, hD, h2, rest⟩, hu⟩ := h
  rintro rfl
  rw [h2] at hg
  cases hg
theorem Rng.left_eq {w : World} {b r : Nat} {N : List (ByteArray × RefV)} {left : Lit → Bool} {cnt : Nat} (h : Rng w b r N left cnt) : w.rangeLeft b r = cnt := World.ranges.left_eq h.own
/-- A pair comes: those still to come are those that were but for it. -/
theorem still_step {N : List (ByteArray × RefV)} (h : Up N) {left : Lit → Bool} {k : ByteArray} {v : RefV} (hm : (k, v) ∈ N) (hl : left (kl k) = true) (g : ByteArray × RefV → Nat) :
    ((still N left).map g).sum = g (k, v) + ((still N fun z => left z && !z.sameKey (kl k)).map g).sum := by
  unfold still
  induction N with
  | nil => simp at hm
  | cons y r ih =>
    by_cases hy : y.1 = k
    · have hyf : y = (k, v) := by
        rcases List.mem_cons.1 hm with h' | h'
        · exact h'.symm
        · exact absurd hy (ne_of_lt (h.head _ h'))
      subst hyf
      have er : List.filter (fun p => left (kl p.1)) r = List.filter (fun p => left (kl p.1) && !(kl p.1).sameKey (kl k)) r := by
        refine List.filter_congr fun p hp => ?_
        have hps : (kl p.1).sameKey (kl k) = false := by
          cases hs : (kl p.1).sameKey (kl k) with
          | false => rfl
          | true => exact absurd ((kl_same p.1 k).1 hs).symm (ne_of_lt (h.head _ hp))
        rw [hps]; simp
      have es : (kl k).sameKey (kl k) = true := (kl_same k k).2 rfl
      rw [List.filter_cons, List.filter_cons]
      simp only [hl, es, if_true, Bool.not_true, Bool.and_false, Bool.false_eq_true, if_false, List.map_cons, List.sum_cons]
      rw [er]
    · have hys : (kl y.1).sameKey (kl k) = false := by
        cases hs : (kl y.1).sameKey (kl k) with
        | false => rfl
        | true => exact absurd ((kl_same y.1 k).1 hs) hy
      have hm' : (k, v) ∈ r := by
        rcases List.mem_cons.1 hm with h' | h'
        · exact absurd (by rw [← h']) hy
        · exact h'
      have := ih h.tail hm'
      simp only [] at this ⊢
      rw [List.filter_cons, List.filter_cons]
      simp only [hys, Bool.not_false, Bool.and_true]
      cases left (kl y.1)
      · simpa using this
      · simp only [if_true, List.map_cons, List.sum_cons]
        omega

section
variable {w : World} {ops : Array Oper} {rest : List Oper} {o : Oper} {a : Act} {Q : Exit → Act → World → Prop}
theorem wpList_range (hg : o.guard = none) (m : Operand) (hop : o.op = Op.range 27 m) (b : Nat) (N : List (ByteArray × RefV)) (hm : a.eval m = .map (some b)) (hN : Tb w b N)
    (hK : ∀ w' left, Rng w' b w.heap.size N left N.length → still N left = N → Kept noBlock w w' → w'.heap.size = w.heap.size + 1 → wpList Try.prog ops Q rest (a.put o.dst (.pointer (some ⟨w.heap.size, 0, none⟩))) w') : wpList Try.prog ops Q (o :: rest) a w := by
  refine wpList_range_own w hg m 27 hop 9 31 keyed Try.underlying27 rd b N.length (enc N) hm hN.own fun w' h1 h2 h3 => ?_
  rw [enc_size] at h1
  refine hK w' _ ⟨h1, hN.up⟩ ?_ (Kept.grown h2 (fun k hk => by cases hk)) h3
  unfold still
  rw [List.filter_eq_self]
  intro p hp
  rw [enc_has]
  exact (has_iff N p.1).2 ⟨p.2, look_of_mem hN.up hp⟩
/-- The step: nothing is left, or a pair of N that was still to come. -/
theorem wpList_next (hg : o.guard = none) (it : Operand) (hop : o.op = Op.next it false) (b r : Nat) (N : List (ByteArray × RefV)) (left : Lit → Bool) (cnt : Nat) (hit : a.eval it = .pointer (some ⟨r, 0, none⟩)) (h : Rng w b r N left cnt)
    (hDone : still N left = [] → wpList Try.prog ops Q rest (a.put o.dst (.tuple #[.bool false])) w)
    (hMore : ∀ (k : ByteArray) (v : One) (w' : World) (cnt' : Nat), (k, v.out) ∈ N → left (kl k) = true → k.size ≤ maxLen → Rng w' b r N (fun z => left z && !z.sameKey (kl k)) cnt' → cnt' < cnt → Kept (fun i => i = r) w w' → w'.heap.size = w.heap.size →
      (Instr.entry (.pointer (some ⟨r, 0, none⟩))).run Try.prog w' = .ok (.tuple #[.string k, ev v.out]) w' → wpList Try.prog ops Q rest (a.put o.dst (.tuple #[.bool true, .string k, ev v.out])) w') :
    wpList Try.prog ops Q (o :: rest) a w := by
  refine wpList_plain hg fun K' hK' => ?_
  unfold Oper.wp
  rcases World.ranges.next h.own keyed o.type with ⟨h0, hl, hrun⟩ | ⟨key, v, kl', y, w', cnt', hkey, hlk, hv, hat, hrun, hrg, hlt, hgr, hsz, hen⟩
  · simp [execOp, hop, hit, hrun, Result.andThen]
    refine hK' _ _ (hDone ?_)
    unfold still
    rw [List.filter_eq_nil_iff]
    intro p _
    simp [hl]
  · obtain ⟨s0, rfl⟩ : ∃ s0, key = .string s0 := by
      cases key <;> simp [keyOf, Try.underlying9, mapKey] at hkey
      exact ⟨_, rfl⟩
    obtain ⟨hs1, rfl⟩ : s0.size ≤ maxLen ∧ .string s0.data.toList = kl' := by
      simpa [keyOf, Try.underlying9, mapKey] using hkey
    obtain ⟨n, rfl, h2⟩ := rd_inv hv
    have h3 := hat (dv noRef)
    have h6 := has_true_of_atKey hat
    change (enc N).atKey (kl s0) (dv noRef) = _ at h3
    rw [enc_at, h2] at h3
    have h4 := dv_inj h3
    change Maps.has (enc N) (kl s0) = true at h6
    rw [enc_has] at h6
    obtain ⟨v', hv'⟩ := (has_iff N s0).1 h6
    rw [hv'] at h4
    have h5 : v' = n := h4
    subst h5
    simp [execOp, hop, hit, hrun, Result.andThen]
    exact hK' _ _ (hMore s0 ⟨v'⟩ w' cnt' (mem_of_look hv') hlk hs1 ⟨hrg, h.up⟩ hlt (row_kept hgr) hsz hen)
end
end Go.Proofs.Ytjijdkdpmbfdmaa.MF
