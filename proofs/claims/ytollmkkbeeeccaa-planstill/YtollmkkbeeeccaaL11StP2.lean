/-
  The files by their names, and what is left of them: plain mathematics. No statement is proved here.
-/
import Derived.Test.YtollmkkbeeeccaaL11StPl
import Derived.Test.YtollmkkbeeeccaaE10Keys
namespace Go.Proofs.Ytollmkkbeeeccaa
open Go.RowKit Tot

def nmN (L : List RefV) : Fls := L.map (fun r => (r.name, r))
theorem nmN_snd (L : List RefV) : (nmN L).map (·.2) = L := by unfold nmN; rw [List.map_map]; simp [Function.comp_def]
theorem nmN_up {L : List RefV} (h : L.Pairwise (fun a b => lt a.name b.name = true)) : Srt.Up (nmN L) := by unfold Srt.Up nmN; rw [List.pairwise_map]; exact h
theorem lt_nm {x y : List UInt8} (h : x < y) : lt (str x) (str y) = true := (str_lt x y).2 h
theorem setS_up (rs : List RfN) : (setS rs).Pairwise (fun a b => lt a.name b.name = true) := by
  rw [List.pairwise_iff_getElem]
  intro i j hi hj hij
  obtain ⟨r, h1, e1⟩ := setS_get (List.getElem?_eq_getElem hi)
  obtain ⟨s, h2, e2⟩ := setS_get (List.getElem?_eq_getElem hj)
  rw [e1, e2]
  show lt (nmS i) (nmS j) = true
  unfold nmS
  refine lt_nm ?_
  refine List.Lex.rel ?_
  rw [UInt8.lt_iff_toNat_lt]
  simp
  omega
theorem still_up (rs : List RfN) : (stillS rs).Pairwise (fun a b => lt a.name b.name = true) := by
  unfold stillS
  rw [List.pairwise_append]
  refine ⟨(setS_up rs).sublist List.filter_sublist, ?_, fun a ha b hb => ?_⟩
  · have h : ∀ j k : Nat, j < k → k < 4 → lt (pP j).name (pP k).name = true := fun j k hjk hk => by
      show lt (str [112, UInt8.ofNat (48 + j)]) (str [112, UInt8.ofNat (48 + k)]) = true
      refine lt_nm (List.Lex.cons (List.Lex.rel ?_))
      rw [UInt8.lt_iff_toNat_lt]
      simp
      omega
    unfold parts4
    simp only [List.pairwise_cons, List.mem_cons, List.not_mem_nil, or_false, forall_eq_or_imp, forall_eq, List.Pairwise.nil, and_true, false_imp_iff, implies_true]
    exact ⟨⟨h 0 1 (by omega) (by omega), h 0 2 (by omega) (by omega), h 0 3 (by omega) (by omega)⟩, ⟨h 1 2 (by omega) (by omega), h 1 3 (by omega) (by omega)⟩, h 2 3 (by omega) (by omega)⟩
  · obtain ⟨j, hj⟩ := List.mem_iff_getElem?.1 (List.mem_filter.1 ha).1
    obtain ⟨r, h1, e1⟩ := setS_get hj
    have hb2 : ∃ k, b.name = str [112, UInt8.ofNat (48 + k)] := by
      unfold parts4 at hb
      simp only [List.mem_cons, List.not_mem_nil, or_false] at hb
      rcases hb with rfl | rfl | rfl | rfl
      · exact ⟨0, rfl⟩
      · exact ⟨1, rfl⟩
      · exact ⟨2, rfl⟩
      · exact ⟨3, rfl⟩
    obtain ⟨k, hk⟩ := hb2
    rw [e1, hk]
    show lt (nmS j) (str [112, UInt8.ofNat (48 + k)]) = true
    unfold nmS
    refine lt_nm (List.Lex.rel ?_)
    rw [UInt8.lt_iff_toNat_lt]
    simp
    omega
theorem still_may (rs : List RfN) : ∀ r ∈ stillS rs, r.May := by
  intro r hr
  unfold stillS at hr
  rcases List.mem_append.1 hr with hr | hr
  · exact setS_good (List.mem_filter.1 hr).1
  · have h : ∀ k, k < 4 → (pP k).May := fun k hk => by
      unfold pP RefV.May
      refine ⟨by show 1 ≤ (str _).size; rw [str_size]; simp, by show (str _).size ≤ 16; rw [str_size]; simp, by simp only; omega, by simp only; omega, by simp only; omega, by simp only; omega, by simp only; omega, fun h => by simp at h⟩
    unfold parts4 at hr
    simp only [List.mem_cons, List.not_mem_nil, or_false] at hr
    rcases hr with rfl | rfl | rfl | rfl
    · exact h 0 (by omega)
    · exact h 1 (by omega)
    · exact h 2 (by omega)
    · exact h 3 (by omega)
theorem still_good (rs : List RfN) : Good (nmN (stillS rs)) := by
  refine ⟨nmN_up (still_up rs), fun p hp => ?_, fun p hp => ?_⟩
  · obtain ⟨r, _, rfl⟩ := List.mem_map.1 hp
    rfl
  · obtain ⟨r, hr, rfl⟩ := List.mem_map.1 hp
    exact still_may rs r hr
theorem up_one {L : List RefV} (h : L.Pairwise (fun a b => lt a.name b.name = true)) {j k : Nat} {x y : RefV} (hx : L[j]? = some x) (hy : L[k]? = some y) (he : x.name = y.name) : j = k := by
  obtain ⟨h1, e1⟩ := List.getElem?_eq_some_iff.1 hx
  obtain ⟨h2, e2⟩ := List.getElem?_eq_some_iff.1 hy
  rcases Nat.lt_trichotomy j k with hjk | hjk | hjk
  · have := List.pairwise_iff_getElem.1 h j k h1 h2 hjk
    rw [e1, e2, he] at this
    exact absurd (irr y.name) (by rw [this]; simp)
  · exact hjk
  · have := List.pairwise_iff_getElem.1 h k j h2 h1 hjk
    rw [e1, e2, he] at this
    exact absurd (irr y.name) (by rw [this]; simp)
def outB (ns : List ByteArray) (s : ByteArray) : Bool := ns.all (fun k => decide (k ≠ s))
theorem outB_iff {ns : List ByteArray} {s : ByteArray} : outB ns s = true ↔ s ∉ ns := by
  unfold outB
  rw [List.all_eq_true]
  constructor
  · intro h hs
    have := h s hs
    rw [decide_eq_true_iff] at this
    exact this rfl
  · intro h k hk
    rw [decide_eq_true_iff]
    exact fun e => h (e ▸ hk)
theorem dropV_all {ns : List ByteArray} : ∀ {N : Fls}, Srt.Up N → ns.Nodup → (∀ k ∈ ns, ∃ v, (k, v) ∈ N) → dropV N ns = some (N.filter (fun p => outB ns p.1)) := by
  induction ns with
  | nil =>
    intro N _ _ _
    rw [dropV]
    congr 1
    symm
    rw [List.filter_eq_self]
    intro p _
    rfl
  | cons k r ih =>
    intro N hu hn hm
    obtain ⟨hk, hr⟩ := List.nodup_cons.1 hn
    obtain ⟨v, hv⟩ := hm k (by simp)
    have hh : Srt.has N k = true := (Srt.has_iff N k).2 ⟨v, Srt.look_of_mem hu hv⟩
    rw [dropV, if_pos hh, ih (Srt.up_del hu k) hr (fun q hq => by
      obtain ⟨u, hq2⟩ := hm q (by simp [hq])
      exact ⟨u, (Srt.mem_del hu k _).2 ⟨hq2, fun e => hk (by simp only at e; rw [← e]; exact hq)⟩⟩)]
    congr 1
    refine Srt.up_ext ((Srt.up_del hu k).sub List.filter_sublist) (hu.sub List.filter_sublist) fun p => ?_
    rw [List.mem_filter, List.mem_filter, Srt.mem_del hu, outB_iff, outB_iff, List.mem_cons, not_or]
    constructor
    · rintro ⟨⟨h1, h2⟩, h3⟩; exact ⟨h1, h2, h3⟩
    · rintro ⟨h1, h2, h3⟩; exact ⟨⟨h1, h2⟩, h3⟩
theorem unnL_sub (lst : Option Nat) (b : Int) (L : List RefV) : List.Sublist (unnL lst b L) (L.map (·.name)) := by
  unfold unnL
  have h := (List.filter_sublist (p := fun x : RefV × Nat => decide (lst ≠ some x.2) && aheadV x.1 b) (l := L.zipIdx)).map (fun x => x.1.name)
  have e : L.zipIdx.map (fun x => x.1.name) = L.map (·.name) := by
    apply List.ext_getElem?
    intro i
    rw [List.getElem?_map, List.getElem?_map, List.getElem?_zipIdx]
    cases L[i]? <;> rfl
  rw [e] at h
  exact h
theorem names_nodup {L : List RefV} (h : L.Pairwise (fun a b => lt a.name b.name = true)) : (L.map (·.name)).Nodup := by
  unfold List.Nodup
  rw [List.pairwise_map]
  refine h.imp fun {a b} hab he => ?_
  rw [he] at hab
  exact absurd (irr b.name) (by rw [hab]; simp)
theorem mem_unn {L : List RefV} {fl : Int} {s : ByteArray} (h : s ∈ unnV L fl) : ∃ j x, L[j]? = some x ∧ x.name = s ∧ plcO (lastV L) ≠ some j ∧ aheadV x (baseV L fl) = true := by
  rw [unnV_eq] at h
  unfold unnL at h
  obtain ⟨q, hq, rfl⟩ := List.mem_map.1 h
  obtain ⟨h1, h2⟩ := List.mem_filter.1 hq
  rw [Bool.and_eq_true, decide_eq_true_iff] at h2
  obtain ⟨i, hi⟩ := List.mem_iff_getElem?.1 h1
  rw [List.getElem?_zipIdx] at hi
  cases hl : L[i]? with
  | none => rw [hl] at hi; cases hi
  | some r =>
    rw [hl] at hi
    injection hi with hi
    subst hi
    exact ⟨i, r, hl, rfl, by simpa using h2.1, h2.2⟩
def keepU (L : List RefV) (fl : Int) (r : RefV) : Bool := outB (unnV L fl) r.name
/-- What is left when the files that are not needed are dropped. -/
theorem unn_drop {L : List RefV} (hup : L.Pairwise (fun a b => lt a.name b.name = true)) (fl : Int) : dropV (nmN L) (unnV L fl) = some (nmN (L.filter (keepU L fl))) := by
  rw [dropV_all (nmN_up hup) ((names_nodup hup).sublist (by rw [unnV_eq]; exact unnL_sub _ _ _)) (fun k hk => by
    obtain ⟨j, x, hx, rfl, _⟩ := mem_unn hk
    exact ⟨x, List.mem_map.2 ⟨x, List.mem_of_getElem? hx, rfl⟩⟩)]
  congr 1
  unfold nmN
  rw [List.filter_map]
  rfl
theorem unn_drp {L : List RefV} (hup : L.Pairwise (fun a b => lt a.name b.name = true)) (hm : ∀ r ∈ L, r.May) (fl : Int) : Drp L fl (keepU L fl) := by
  refine ⟨fun r hr => (hm r hr).2.2.2.2.2.2.2, fun r hr => by have := hm r hr; unfold RefV.May at this; omega, fun r hr hk => ?_⟩
  unfold keepU at hk
  have hk : r.name ∈ unnV L fl := Classical.byContradiction fun h => by rw [outB_iff.2 h] at hk; cases hk
  obtain ⟨j, x, hx, hn, hl, ha⟩ := mem_unn hk
  obtain ⟨k, hk⟩ := List.mem_iff_getElem?.1 hr
  have hjk := up_one hup hx hk hn
  subst hjk
  rw [hx] at hk
  injection hk with hk
  subst hk
  refine ⟨ha, fun e => hl ?_⟩
  cases hv : lastV L with
  | none => rw [hv] at e; cases e
  | some q =>
    obtain ⟨k', c⟩ := q
    rw [hv] at e
    injection e with e
    simp only at e
    subst e
    obtain ⟨h1, _⟩ := lastV_at L k' c hv
    have := up_one hup h1 hx rfl
    rw [this]
    rfl
/-- The edit that drops what is not needed. -/
theorem still_edit (rs : List RfN) {fl : Int} (h0 : 0 ≤ fl) (h1 : fl ≤ 32) : doE (nmN (stillS rs)) 0 ⟨[], unnV (stillS rs) fl, fl⟩ = (nmN ((stillS rs).filter (keepU (stillS rs) fl)), 0) := by
  unfold doE
  simp only
  rw [unn_drop (still_up rs) fl]
  have h2 : fl ≤ 1048576 := by omega
  simp [addV, h0, h2]
theorem still_after {rs : List RfN} {fl n i : Int} (hf : fl ≤ i) (h0 : 0 ≤ i) (hi : i ≤ n) (hn : n ≤ 32) : (planV ((stillS rs).filter (keepU (stillS rs) fl)) fl n i).2 = 0 :=
  (unn_drp (still_up rs) (still_may rs) fl).plan hf n (still_plan h0 hi hn)
theorem still_len (rs : List RfN) : (stillS rs).length ≤ 18 := by
  unfold stillS
  rw [List.length_append]
  have h1 : (noPart (setS rs)).length ≤ (setS rs).length := List.length_filter_le _ _
  have h2 := setS_len rs
  show _ + 4 ≤ 18
  omega
end Go.Proofs.Ytollmkkbeeeccaa
