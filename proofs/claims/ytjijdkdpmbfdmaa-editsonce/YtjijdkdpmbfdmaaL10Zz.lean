/-
  A file whose name is behind all others: it comes once and goes once: plain mathematics. No statement is proved here.
-/
import Derived.Test.YtjijdkdpmbfdmaaL10Round
import Derived.Test.YtjijdkdpmbfdmaaE10Find
namespace Go.Proofs.Ytjijdkdpmbfdmaa
open Go.RowKit Tot

theorem dropV_names {P : ByteArray → Prop} {ns : List ByteArray} : ∀ {N M : Fls}, Good N → (∀ p ∈ N, P p.1) → dropV N ns = some M → ∀ p ∈ M, P p.1 := by
  induction ns with
  | nil => intro N M _ h e; injection e with e; exact e ▸ h
  | cons k r ih =>
    intro N M hg h e
    unfold dropV at e
    split at e
    · exact ih (hg.del k) (fun p hp => h p ((Srt.mem_del hg.up _ p).1 hp).1) e
    · cases e
theorem addV_names {P : ByteArray → Prop} {l : List RefV} : ∀ {N : Fls}, Good N → (∀ p ∈ N, P p.1) → (∀ r ∈ l, P r.name) → ∀ p ∈ (addV N l).1, P p.1 := by
  induction l with
  | nil => intro N _ h _; exact h
  | cons r l ih =>
    intro N hg h hl
    unfold addV
    split
    · exact h
    · rename_i hr
      split
      · exact h
      · refine ih (hg.put (Decidable.not_not.1 hr)) (fun p hp => ?_) (fun q hq => hl q (by simp [hq]))
        rcases (Srt.mem_put hg.up _ _ p).1 hp with rfl | ⟨hp, _⟩
        · exact hl r (by simp)
        · exact h p hp
theorem doE_names {P : ByteArray → Prop} {N : Fls} {f : Int} {e : EditV} (hg : Good N) (h : ∀ p ∈ N, P p.1) (he : ∀ r ∈ e.add, P r.name) : ∀ p ∈ (doE N f e).1, P p.1 := by
  unfold doE
  split
  · intro p hp; cases hp
  · rename_i M hM
    have hMg := dropV_good hg hM
    have hMn := dropV_names hg h hM
    split
    · intro p hp; cases hp
    · split
      · exact addV_names hMg hMn he
      · intro p hp; cases hp
/-- One of the few names. -/
def Few (k : ByteArray) : Prop := ∃ j, j < 8 ∧ k = nmE j
theorem editOf_few {x : StepV} (h : x.odd = false) : ∀ r ∈ (editOf x).add, Few r.name := fun r hr => by
  unfold editOf at hr
  rw [h] at hr
  simp only [Bool.false_eq_true, if_false, List.append_nil, List.mem_map] at hr
  obtain ⟨n, _, rfl⟩ := hr
  exact ⟨n.toNat % 8, by omega, rfl⟩
def zz : ByteArray := ⟨#[122, 122]⟩
def rZ (g : Nat) : RefV := ⟨zz, 2, (g : Int), (g : Int)⟩
theorem rZ_may {g : Nat} (h : g < 256) : (rZ g).May := by
  unfold rZ RefV.May
  refine ⟨by show 1 ≤ 2; omega, by show 2 ≤ 16; omega, by simp only; omega, by simp only; omega, by simp only; omega, Int.le_refl _, by simp only; omega, fun h => ?_⟩
  simp only at h
  omega
theorem few_lt {k : ByteArray} (h : Few k) : lt k zz = true := by
  obtain ⟨j, hj, rfl⟩ := h
  exact (by decide +kernel : ∀ j, j < 8 → lt (nmE j) zz = true) j hj
theorem zz_up {N : Fls} {r : RefV} (hg : Good N) (h : ∀ p ∈ N, Few p.1) : Srt.Up (N ++ [(zz, r)]) :=
  Srt.Up.append.2 ⟨hg.up, List.pairwise_singleton _ _, fun p hp q hq => by
    rw [List.mem_singleton] at hq
    subst hq
    exact few_lt (h p hp)⟩
theorem once_add {N : Fls} {f : Int} {g : Nat} (hg : Good N) (h : ∀ p ∈ N, Few p.1) (hb : g < 256) (hf : f ≤ 1048576) : doE N f ⟨[rZ g], [], f⟩ = (N ++ [(zz, rZ g)], 0) ∧ Good (N ++ [(zz, rZ g)]) := by
  obtain ⟨h1, h2⟩ := put_last (zz_up (r := rZ g) hg h)
  have h3 := hg.put (rZ_may hb)
  have e : Srt.put N (rZ g).name (rZ g) = N ++ [(zz, rZ g)] := h1
  have e2 : Srt.has N (rZ g).name = false := h2
  rw [e] at h3
  have ea : addV N [rZ g] = (N ++ [(zz, rZ g)], 0) := by
    simp only [addV]
    rw [if_neg (Decidable.not_not.2 (rZ_may hb)), e2, if_neg (by simp), e]
  refine ⟨?_, h3⟩
  unfold doE
  simp only [dropV]
  rw [ea]
  simp [hf]
theorem zz_has {N : Fls} {r : RefV} (h : Srt.Up (N ++ [(zz, r)])) : Srt.has (N ++ [(zz, r)]) zz = true := (Srt.has_iff _ _).2 ⟨r, Srt.look_of_mem h (by simp)⟩
theorem once_again {N : Fls} {f : Int} {g : Nat} (hb : g < 256) (hu : Srt.Up (N ++ [(zz, rZ g)])) : doE (N ++ [(zz, rZ g)]) f ⟨[rZ g], [], f⟩ = ([], 5) := by
  have e2 : Srt.has (N ++ [(zz, rZ g)]) (rZ g).name = true := zz_has hu
  have ea : addV (N ++ [(zz, rZ g)]) [rZ g] = (N ++ [(zz, rZ g)], 5) := by
    simp only [addV]
    rw [if_neg (Decidable.not_not.2 (rZ_may hb)), e2, if_pos rfl]
  unfold doE
  simp only [dropV]
  rw [ea]
  simp
theorem once_del {N : Fls} {f : Int} {g : Nat} (hg : Good N) (hf : f ≤ 1048576) (hu : Srt.Up (N ++ [(zz, rZ g)])) : doE (N ++ [(zz, rZ g)]) f ⟨[], [zz], f⟩ = (N, 0) := by
  have hd : Srt.del (N ++ [(zz, rZ g)]) zz = N := by
    refine Srt.up_ext (Srt.up_del hu zz) hg.up fun p => ?_
    rw [Srt.mem_del hu, List.mem_append, List.mem_singleton]
    constructor
    · rintro ⟨h | h, hn⟩
      · exact h
      · exact absurd (by rw [h]) hn
    · intro h
      exact ⟨.inl h, Srt.ne_of_lt ((Srt.Up.append.1 hu).2.2 p h (zz, rZ g) (by simp))⟩
  unfold doE
  simp only [dropV, addV, zz_has hu, if_true, hd]
  simp [hf]
theorem once_none {N : Fls} {f : Int} (h : ∀ p ∈ N, Few p.1) : doE N f ⟨[], [zz], f⟩ = ([], 6) := by
  have hh : Srt.has N zz = false := (Srt.has_false N zz).2 (Srt.look_none_of (fun p hp => Srt.ne_of_lt (few_lt (h p hp))))
  unfold doE
  simp only [dropV, hh]
  simp
theorem fndV_last {k : ByteArray} {r : RefV} (hr : r.name = k) : ∀ {L : List RefV} {i : Nat}, (∀ x ∈ L, x.name ≠ k) → fndV (L ++ [r]) k i = ((i + L.length : Nat) : Int)
  | [], i, _ => by simp [fndV, hr]
  | x :: l, i, h => by
    rw [List.cons_append]
    unfold fndV
    rw [if_neg (h x (by simp)), fndV_last hr (fun y hy => h y (by simp [hy])), List.length_cons]
    congr 1
    omega
theorem few_ne {N : Fls} (hg : Good N) (h : ∀ p ∈ N, Few p.1) : ∀ x ∈ N.map (·.2), x.name ≠ zz := fun x hx => by
  obtain ⟨p, hp, rfl⟩ := List.mem_map.1 hx
  rw [← hg.named p hp]
  exact Srt.ne_of_lt (few_lt (h p hp))
theorem once_find {N : Fls} {g : Nat} (hg : Good N) (h : ∀ p ∈ N, Few p.1) : fndV ((N ++ [(zz, rZ g)]).map (·.2)) zz 0 = (N.length : Int) ∧ fndV (N.map (·.2)) zz 0 = -1 := by
  have hn := few_ne hg h
  refine ⟨?_, fndV_none hn⟩
  rw [List.map_append]
  show fndV (N.map (·.2) ++ [rZ g]) zz 0 = _
  rw [fndV_last (k := zz) (r := rZ g) rfl hn, List.length_map, Nat.zero_add]
end Go.Proofs.Ytjijdkdpmbfdmaa
