/-
  Names that rise, and the files that they name: plain mathematics. No statement is proved here.
-/
import Derived.Test.YtollmkkbeeeccaaE10Ref
import Derived.Sort.Walk0
import Derived.Sort.KeysCollected
namespace Go.Proofs.Ytollmkkbeeeccaa
open Go.RowKit Tot

theorem strKeys_files (M : List (ByteArray × SlV)) : Go.strKeys (MG.enc M) = M.map fun p => p.1.data.toList := by
  unfold MG.enc Go.strKeys
  simp only
  rw [List.map_map]
  rfl
/-- The files that names name. -/
def pick (N : Fls) (ns : List (List UInt8)) : List RefV := ns.flatMap fun s => (Srt.look N (str s)).toList
theorem pick_snoc (N : Fls) (ns : List (List UInt8)) (k : Nat) (s : List UInt8) (h : ns[k]? = some s) : pick N (ns.take (k + 1)) = pick N (ns.take k) ++ (Srt.look N (str s)).toList := by
  unfold pick
  rw [take_snoc ns k s h, List.flatMap_append]
  simp
theorem pick_len (N : Fls) (ns : List (List UInt8)) : (pick N ns).length ≤ ns.length := by
  unfold pick
  induction ns with
  | nil => simp
  | cons a r ih =>
    rw [List.flatMap_cons, List.length_append, List.length_cons]
    have : (Srt.look N (str a)).toList.length ≤ 1 := by cases Srt.look N (str a) <;> simp
    omega
theorem le_tr10 (x y z : List UInt8) (h1 : decide (x ≤ y) = true) (h2 : decide (y ≤ z) = true) : decide (x ≤ z) = true := by
  simp only [decide_eq_true_eq] at *
  exact List.le_trans h1 h2
theorem le_tot10 (x y : List UInt8) : (decide (x ≤ y) || decide (y ≤ x)) = true := by
  simp only [Bool.or_eq_true, decide_eq_true_eq]
  exact List.le_total x y
theorem str_lt (x y : List UInt8) : lt (str x) (str y) = true ↔ x < y := by
  show Op.bytesLess (str x).toList (str y).toList = true ↔ _
  rw [str_toList, str_toList, Go.Proofs.bytesLess_eq]
  simp
theorem keys_nodup {β : Type} {M : List (ByteArray × β)} (h : Srt.Up M) : (M.map fun p => p.1.data.toList).Nodup := by
  unfold List.Nodup
  rw [List.pairwise_map]
  refine h.imp fun {a b} hab he => ?_
  have e : a.1 = b.1 := ByteArray.ext (Array.toList_inj.1 he)
  rw [e] at hab
  exact absurd (irr b.1) (by rw [hab]; simp)
/-- The files of all names that rise, among them those of the files, are all files. -/
theorem pick_all {N : Fls} (hN : Srt.Up N) {β : Type} {M : List (ByteArray × β)} (hM : Srt.Up M) {ss : List (List UInt8)} (hp : ss.Perm (M.map fun p => p.1.data.toList)) (hall : ∀ p ∈ N, Srt.has M p.1 = true) :
    pick N (ss.mergeSort fun x y => decide (x ≤ y)) = N.map (·.2) := by
  obtain ⟨ns, hns⟩ : ∃ ns, ns = ss.mergeSort fun x y => decide (x ≤ y) := ⟨_, rfl⟩
  rw [← hns]
  have hpm : ns.Perm (M.map fun p => p.1.data.toList) := by rw [hns]; exact (List.mergeSort_perm _ _).trans hp
  have hle : ns.Pairwise (fun x y => x ≤ y) := by rw [hns]; exact (List.pairwise_mergeSort le_tr10 le_tot10 ss).imp (fun h => by simpa using h)
  have hnd : ns.Nodup := hpm.nodup_iff.2 (keys_nodup hM)
  have hlt : ns.Pairwise (fun x y => x < y) := by
    refine (hle.and hnd).imp fun {a b} h => ?_
    by_cases hab : a < b
    · exact hab
    · exact absurd (List.le_antisymm h.1 (List.not_lt.1 hab)) h.2
  have e1 : pick N ns = (ns.filterMap fun s => (Srt.look N (str s)).map fun r => (str s, r)).map (·.2) := by
    unfold pick
    clear hns hpm hle hnd hlt
    induction ns with
    | nil => rfl
    | cons a r ih =>
      rw [List.flatMap_cons, List.filterMap_cons]
      cases Srt.look N (str a) <;> simp [ih]
  rw [e1]
  congr 1
  refine Srt.up_ext ?_ hN fun p => ?_
  · unfold Srt.Up
    rw [List.pairwise_filterMap]
    refine hlt.imp fun {a b} h x hx y hy => ?_
    simp only [Option.map_eq_some_iff] at hx hy
    obtain ⟨r, _, rfl⟩ := hx
    obtain ⟨q, _, rfl⟩ := hy
    exact (str_lt a b).2 h
  · rw [List.mem_filterMap]
    constructor
    · rintro ⟨s, _, hs⟩
      rw [Option.map_eq_some_iff] at hs
      obtain ⟨r, hr, rfl⟩ := hs
      exact Srt.mem_of_look hr
    · intro hp'
      have h1 := hall p hp'
      obtain ⟨v, hv⟩ := (Srt.has_iff M p.1).1 h1
      refine ⟨p.1.data.toList, hpm.mem_iff.2 (List.mem_map.2 ⟨_, Srt.mem_of_look hv, rfl⟩), ?_⟩
      rw [str_of, Srt.look_of_mem hN hp']
      rfl
end Go.Proofs.Ytollmkkbeeeccaa
