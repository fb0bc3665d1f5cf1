/-
  Several texts, one behind the other. No statement is proved here.
-/
import Derived.Test.YtollmkkbeeeccaaRows
import Derived.Test.YtollmkkbeeeccaaMem
import Derived.ProofKit
import Derived.OpenShut
import Derived.ShutString
import Derived.ChangeOld
import Derived.Below
import Derived.SizedLaws
import Derived.JoinedCond
import Derived.Deep.CondSized
import Derived.Deep.Slices
/-
  From what is read of the arguments to what the walks ask. No statement is proved here.
-/
namespace Go.Proofs.Ytollmkkbeeeccaa
open Go.ChangeShapes Go.WideShapes Go.ChangeAt Go.RowKit
open Go.ChangeMaps (open_string shut_string)

theorem Try.own : ownKnob Try.prog.godebug = none := by kernel_rfl
theorem Try.laidOut : laidOutB Try.prog = true := by kernel_rfl

theorem cells?_length {w : World} {base : Nat} {a : Addr} {n : Nat} {cs : List Value} (h : w.cells? base a n = some cs) : cs.length = n := (World.cells?_some h).2.1
theorem cells?_at {w : World} {base : Nat} {a : Addr} {n : Nat} {cs : List Value} (h : w.cells? base a n = some cs) (j : Nat) (hj : j < n) : w.cell? (a.add j) = cs[j]? := (World.cells?_some h).2.2 j hj

/-- Numbers that came in as a slice. -/
theorem open_nums {H : Type} {enc : TypeId × Value → H} {P : Program} {W : World} {t e : TypeId} {k : IntKind} {a : Option Addr} {len cap : Nat} {x : DataW H × List MemPlace} (ht : P.underlying t = some (.slice e)) (he : P.underlying e = some (.int k)) (hc : P.cellsOf e = 1)
    (h : ∃ fuel, DataW.trod enc P W 0 (fun _ => true) true fuel t [.slice a len cap] = some x) :
    ∃ zs : List Int, zs.length = len ∧ len ≤ cap ∧ cap ≤ maxLen ∧ Lies W (fun i => i < W.heap.size) a (zs.map (Value.int k)) ∧ (∀ n ∈ zs, (Lit.int k n).wf = true) := by
  obtain ⟨fuel, hf⟩ := h
  rcases open_ints ht he hc hf with ⟨hcs, _⟩ | ⟨ad, l, c, zs, hcs, _, hl, hm, hz, _, hcell, hwz⟩
  · simp at hcs
    obtain ⟨rfl, rfl, rfl⟩ := hcs
    exact ⟨[], rfl, Nat.le_refl _, Nat.zero_le _, Lies.nil _ _ _, fun _ h => by cases h⟩
  · simp at hcs
    obtain ⟨rfl, rfl, rfl⟩ := hcs
    simp only [if_true] at hz
    refine ⟨zs.take len, by rw [List.length_take]; omega, hl, hm, fun hx => ?_, fun n hn => hwz n (List.mem_of_mem_take hn)⟩
    have hne : 0 < zs.length := by
      rcases Nat.eq_zero_or_pos zs.length with h0 | h0
      · rw [List.length_eq_zero_iff.1 h0] at hx; simp at hx
      · exact h0
    refine ⟨ad, rfl, ?_, fun j u hu => ?_⟩
    · have h0 := hcell 0 hne
      have := World.block_lt_of_cell? _ _ h0
      rwa [block_add] at this
    · rw [List.map_take, List.getElem?_take] at hu
      split at hu
      · have hj : j < zs.length := by
          rcases Nat.lt_or_ge j zs.length with h | h
          · exact h
          · rw [List.getElem?_eq_none (by simpa using h)] at hu; cases hu
        rw [hcell j hj, ← hu]
        simp [List.getD, List.getElem?_eq_getElem hj]
      · cases hu

/-- How great a slice of numbers is, as it is read. -/
theorem nums_datum {H : Type} {enc : TypeId × Value → H} {P : Program} {W : World} {t e : TypeId} {k : IntKind} {a : Option Addr} {len cap : Nat} {d : DataW H} {p : List MemPlace} (ht : P.underlying t = some (.slice e)) (he : P.underlying e = some (.int k)) (hc : P.cellsOf e = 1)
    (h : ∃ fuel, DataW.trod enc P W 0 (fun _ => true) true fuel t [.slice a len cap] = some (d, p)) :
    (d = .nil ∧ len = 0 ∧ cap = 0) ∨ ∃ elems spare, d = .slice elems spare ∧ elems.length = len ∧ elems.length + spare.length = cap := by
  obtain ⟨fuel, hf⟩ := h
  rcases open_ints ht he hc hf with ⟨hcs, hx⟩ | ⟨ad, l, c, zs, hcs, _, hl, hm, hz, hx, hcell, hwz⟩
  · simp at hcs
    obtain ⟨rfl, rfl, rfl⟩ := hcs
    simp only [Prod.mk.injEq] at hx
    exact .inl ⟨hx.1, rfl, rfl⟩
  · simp at hcs
    obtain ⟨rfl, rfl, rfl⟩ := hcs
    simp only [Prod.mk.injEq] at hx
    simp only [if_true] at hz
    refine .inr ⟨_, _, hx.1, ?_, ?_⟩
    · simp [lits]; omega
    · simp [lits]; omega
/-- The reach of the row, of such a slice. -/
theorem nums_reach {H : Type} {enc : TypeId × Value → H} {P : Program} {W : World} {ts : List TypeId} {ds : List (DataW H)} {j : Nat} {t e : TypeId} {k : IntKind} {a : Option Addr} {len cap : Nat} {d : DataW H} {p : List MemPlace} (hsz : (DataW.weightsEach P ts ds).all (· ≤ reachBytes) = true)
    (hj : ts[j]? = some t) (hd : ds[j]? = some d) (ht : P.underlying t = some (.slice e)) (he : P.underlying e = some (.int k)) (hc : P.cellsOf e = 1)
    (h : ∃ fuel, DataW.trod enc P W 0 (fun _ => true) true fuel t [.slice a len cap] = some (d, p)) : cap * P.bytesOf e ≤ 140737488351232 := by
  rcases nums_datum ht he hc h with ⟨_, _, rfl⟩ | ⟨elems, spare, rfl, _, h2⟩
  · simp
  · have := sized_slice hsz hj hd ht
    rw [h2] at this
    simpa [reachBytes] using this

/-- A byte that came in. -/
theorem open_byte {z : Int} (h : (Lit.int .u8 z).wf = true) : ∃ y : UInt8, z = (y.toNat : Int) := by
  have hb : 0 ≤ z ∧ z ≤ 255 := by simpa [Lit.wf, IntKind.min, IntKind.max, IntKind.signed, IntKind.bits] using h
  refine ⟨UInt8.ofNat z.toNat, ?_⟩
  have : (UInt8.ofNat z.toNat).toNat = z.toNat % 256 := by simp
  rw [this]
  omega

/-- A word that came in. -/
theorem open_word {z : Int} (h : (Lit.int .u32 z).wf = true) : ∃ n : Nat, z = (n : Int) ∧ n < 4294967296 := by
  have hb : 0 ≤ z ∧ z ≤ 4294967295 := by simpa [Lit.wf, IntKind.min, IntKind.max, IntKind.signed, IntKind.bits] using h
  exact ⟨z.toNat, by omega, by omega⟩
theorem open_half {z : Int} (h : (Lit.int .u16 z).wf = true) : ∃ n : Nat, z = (n : Int) ∧ n < 65536 := by
  have hb : 0 ≤ z ∧ z ≤ 65535 := by simpa [Lit.wf, IntKind.min, IntKind.max, IntKind.signed, IntKind.bits] using h
  exact ⟨z.toNat, by omega, by omega⟩
theorem open_long {z : Int} (h : (Lit.int .u64 z).wf = true) : ∃ n : Nat, z = (n : Int) ∧ n < 18446744073709551616 := by
  have hb : 0 ≤ z ∧ z ≤ 18446744073709551615 := by simpa [Lit.wf, IntKind.min, IntKind.max, IntKind.signed, IntKind.bits] using h
  exact ⟨z.toNat, by omega, by omega⟩

/-- Texts that came in as a slice. -/
theorem open_texts {H : Type} {enc : TypeId × Value → H} {P : Program} {W : World} {t e : TypeId} {a : Option Addr} {len cap : Nat} {x : DataW H × List MemPlace} (ht : P.underlying t = some (.slice e)) (he : P.underlying e = some .string) (hc : P.cellsOf e = 1)
    (h : ∃ fuel, DataW.trod enc P W 0 (fun _ => true) true fuel t [.slice a len cap] = some x) :
    ∃ ss : List ByteArray, ss.length = len ∧ len ≤ cap ∧ cap ≤ maxLen ∧ Lies W (fun i => i < W.heap.size) a (ss.map Value.string) ∧ (∀ s ∈ ss, s.size ≤ maxLen) := by
  obtain ⟨fuel, hf⟩ := h
  rcases open_strings ht he hc hf with ⟨hcs, _⟩ | ⟨ad, l, c, ss, hcs, _, hl, hm, hz, _, hcell, hws⟩
  · simp at hcs
    obtain ⟨rfl, rfl, rfl⟩ := hcs
    exact ⟨[], rfl, Nat.le_refl _, Nat.zero_le _, Lies.nil _ _ _, fun _ h => by cases h⟩
  · simp at hcs
    obtain ⟨rfl, rfl, rfl⟩ := hcs
    simp only [if_true] at hz
    refine ⟨ss.take len, by rw [List.length_take]; omega, hl, hm, fun hx => ?_, fun s hs => hws s (List.mem_of_mem_take hs)⟩
    have hne : 0 < ss.length := by
      rcases Nat.eq_zero_or_pos ss.length with h0 | h0
      · rw [List.length_eq_zero_iff.1 h0] at hx; simp at hx
      · exact h0
    refine ⟨ad, rfl, ?_, fun j u hu => ?_⟩
    · have h0 := hcell 0 hne
      have := World.block_lt_of_cell? _ _ h0
      rwa [block_add] at this
    · rw [List.map_take, List.getElem?_take] at hu
      split at hu
      · have hj : j < ss.length := by
          rcases Nat.lt_or_ge j ss.length with h | h
          · exact h
          · rw [List.getElem?_eq_none (by simpa using h)] at hu; cases hu
        rw [hcell j hj, ← hu]
        simp [List.getD, List.getElem?_eq_getElem hj]
      · cases hu

/-- Bytes that came in as a slice. -/
theorem open_bytes {H : Type} {enc : TypeId × Value → H} {P : Program} {W : World} {t e : TypeId} {a : Option Addr} {len cap : Nat} {x : DataW H × List MemPlace} (ht : P.underlying t = some (.slice e)) (he : P.underlying e = some (.int .u8)) (hc : P.cellsOf e = 1)
    (h : ∃ fuel, DataW.trod enc P W 0 (fun _ => true) true fuel t [.slice a len cap] = some x) :
    ∃ l : List UInt8, l.length = len ∧ len ≤ cap ∧ cap ≤ maxLen ∧ Lies W (fun i => i < W.heap.size) a (l.map bv) := by
  obtain ⟨zs, h1, h2, h3, h4, h5⟩ := open_nums ht he hc h
  refine ⟨zs.map fun z => UInt8.ofNat z.toNat, by simpa using h1, h2, h3, ?_⟩
  have e1 : (zs.map fun z => UInt8.ofNat z.toNat).map bv = zs.map (Value.int .u8) := by
    rw [List.map_map]
    refine List.map_congr_left fun z hz => ?_
    have hw := h5 z hz
    have hb : 0 ≤ z ∧ z ≤ 255 := by simpa [Lit.wf, IntKind.min, IntKind.max, IntKind.signed, IntKind.bits] using hw
    simp only [Function.comp, bv]
    congr 1
    have : (UInt8.ofNat z.toNat).toNat = z.toNat % 256 := by simp
    rw [this]
    omega
  rw [e1]
  exact h4

/-- The cells of things of one size, one behind the other. -/
theorem oflat_at {α : Type} (f : α → List Value) (size : Nat) (hs : ∀ x, (f x).length = size) : ∀ (xs : List α) (k j : Nat) (x : α), xs[k]? = some x → j < size → (xs.flatMap f)[k * size + j]? = (f x)[j]?
  | [], k, j, x, h, _ => by simp at h
  | y :: r, 0, j, x, h, hj => by
    obtain rfl : y = x := by simpa using h
    rw [List.flatMap_cons, Nat.zero_mul, Nat.zero_add, List.getElem?_append_left (by rw [hs]; exact hj)]
  | y :: r, k + 1, j, x, h, hj => by
    have ih := oflat_at f size hs r k j x (by simpa using h) hj
    rw [List.flatMap_cons, Nat.add_mul, Nat.one_mul, List.getElem?_append_right (by rw [hs]; omega), hs, show k * size + size + j - size = k * size + j by omega]
    exact ih
theorem oflat_length {α : Type} (f : α → List Value) (size : Nat) (hs : ∀ x, (f x).length = size) (xs : List α) : (xs.flatMap f).length = xs.length * size := by
  induction xs with
  | nil => simp
  | cons y r ih => rw [List.flatMap_cons, List.length_append, hs, ih, List.length_cons, Nat.add_mul, Nat.one_mul, Nat.add_comm]

/-- A slice of things of one size that came in: each thing by its own reading. -/
theorem open_slice_of {H : Type} {enc : TypeId × Value → H} {P : Program} {W : World} {t e : TypeId} {a : Option Addr} {len cap size : Nat} {d : DataW H} {p : List MemPlace} {α : Type} (f : α → List Value) (R : DataW H → α → Prop)
    (hpos : 0 < size) (hs : ∀ x, (f x).length = size) (ht : P.underlying t = some (.slice e)) (hc : P.cellsOf e = size)
    (hel : ∀ n cs d pl, DataW.trod enc P W 0 (fun _ => true) true n e cs = some (d, pl) → cs.length = size → ∃ x, cs = f x ∧ R d x)
    (h : ∃ fuel, DataW.trod enc P W 0 (fun _ => true) true fuel t [.slice a len cap] = some (d, p)) :
    ∃ xs : List α, xs.length = len ∧ len ≤ cap ∧ cap ≤ maxLen ∧ Lies W (fun i => i < W.heap.size) a (xs.flatMap f) ∧
      ((d = .nil ∧ xs = []) ∨ ∃ elems spare, d = .slice elems spare ∧ elems.length = len ∧ ∀ (i : Nat) x, xs[i]? = some x → ∃ y, elems[i]? = some y ∧ R y x) := by
  obtain ⟨fuel, hf⟩ := h
  rcases Deep.open_slice ht hf with ⟨hcs, hx⟩ | ⟨ad, l, c, m, n, D, Pl, hcs, _, hl, hm, hmm, hx, hi⟩
  · simp at hcs
    obtain ⟨rfl, rfl, rfl⟩ := hcs
    simp only [Prod.mk.injEq] at hx
    exact ⟨[], rfl, Nat.le_refl _, Nat.zero_le _, Lies.nil _ _ _, .inl ⟨hx.1, rfl⟩⟩
  · simp at hcs
    obtain ⟨rfl, rfl, rfl⟩ := hcs
    simp only [Prod.mk.injEq] at hx
    simp only [if_true] at hmm
    subst hmm
    rw [hc] at hi
    have hch : ∀ i, i < len → ∃ x : α, W.cells? 0 (ad.add (i * size)) size = some (f x) ∧ R (D i) x := fun i hi' => by
      obtain ⟨cs', h1, h2⟩ := hi i (by omega)
      obtain ⟨x, h3, h4⟩ := hel n cs' (D i) (Pl i) h2 (cells?_length h1)
      exact ⟨x, h3 ▸ h1, h4⟩
    obtain ⟨xs, hxl, hxs⟩ : ∃ xs : List α, xs.length = len ∧ ∀ i x, xs[i]? = some x → W.cells? 0 (ad.add (i * size)) size = some (f x) ∧ R (D i) x := by
      clear hx hi hf
      induction len with
      | zero => exact ⟨[], rfl, fun i x h => by simp at h⟩
      | succ k ih =>
        obtain ⟨xs, h1, h2⟩ := ih (by omega) (fun i hi => hch i (by omega))
        obtain ⟨x, hx⟩ := hch k (by omega)
        refine ⟨xs ++ [x], by simp [h1], fun i y hy => ?_⟩
        by_cases hik : i < xs.length
        · rw [List.getElem?_append_left hik] at hy
          exact h2 i y hy
        · rw [List.getElem?_append_right (by omega)] at hy
          obtain ⟨h3, rfl⟩ : i - xs.length = 0 ∧ x = y := by
            cases hd : i - xs.length with
            | zero => rw [hd] at hy; exact ⟨rfl, by simpa using hy⟩
            | succ q => rw [hd] at hy; simp at hy
          obtain rfl : i = k := by omega
          exact hx
    refine ⟨xs, hxl, hl, hm, fun hne => ?_, .inr ⟨_, _, hx.1, by simp, fun i x hix => ?_⟩⟩
    · have hcell : ∀ j u, (xs.flatMap f)[j]? = some u → W.cell? (ad.add j) = some u := fun j u hu => by
        have hj : j < xs.length * size := by
          have := (List.getElem?_eq_some_iff.1 hu).1
          rwa [oflat_length f size hs] at this
        have hq : j / size < xs.length := (Nat.div_lt_iff_lt_mul hpos).2 hj
        have hr := Nat.mod_lt j hpos
        obtain ⟨h1, _⟩ := hxs (j / size) xs[j / size] (List.getElem?_eq_getElem hq)
        have h2 := cells?_at h1 (j % size) hr
        have h3 := oflat_at f size hs xs (j / size) (j % size) _ (List.getElem?_eq_getElem hq) hr
        have e : j / size * size + j % size = j := Nat.div_add_mod' j size
        rw [e] at h3
        rw [add_add, e] at h2
        rw [h2, ← h3]
        exact hu
      have h0 : 0 < (xs.flatMap f).length := by
        cases hh : xs.flatMap f with
        | nil => exact absurd hh hne
        | cons _ _ => simp
      refine ⟨ad, rfl, ?_, hcell⟩
      have := World.block_lt_of_cell? _ _ (hcell 0 _ (List.getElem?_eq_getElem h0))
      rwa [block_add] at this
    · have hil : i < len := by have := (List.getElem?_eq_some_iff.1 hix).1; omega
      exact ⟨D i, by simp [hil], (hxs i x hix).2⟩

/-! What the bound of an upto statement gives. -/
theorem bulk_mem {H : Type} {d : DataW H} : ∀ {l : List (DataW H)}, d ∈ l → Rows.uptoBulk d ≤ Rows.uptoBulkAll l
  | [], h => by cases h
  | x :: r, h => by
    rw [Rows.uptoBulkAll]
    rcases List.mem_cons.1 h with rfl | h
    · omega
    · have := bulk_mem h
      omega
theorem bulk_pos {H : Type} (d : DataW H) : 1 ≤ Rows.uptoBulk d := by
  cases d with
  | lit l => cases l <;> simp [Rows.uptoBulk]
  | _ => simp [Rows.uptoBulk]
theorem bulk_len {H : Type} : ∀ (l : List (DataW H)), l.length ≤ Rows.uptoBulkAll l
  | [] => by simp
  | x :: r => by
    have h1 := bulk_len r
    have h2 := bulk_pos x
    rw [Rows.uptoBulkAll, List.length_cons]
    omega
theorem bulk_slice {H : Type} {elems spare : List (DataW H)} : Rows.uptoBulkAll elems + 1 ≤ Rows.uptoBulk (.slice elems spare) := by
  simp only [Rows.uptoBulk]
  omega
theorem bulk_string {H : Type} (l : List UInt8) : Rows.uptoBulk (DataW.lit (H := H) (.string l)) = l.length + 1 := by simp [Rows.uptoBulk]
theorem bulk_agg {H : Type} (l : List (DataW H)) : Rows.uptoBulk (.agg l) = Rows.uptoBulkAll l + 1 := by simp [Rows.uptoBulk]
theorem upto_bound {H : Type} {l : List (DataW H)} (hk : Rows.uptoSmall H l = true) : Rows.uptoBulkAll l ≤ 1048576 := of_decide_eq_true hk

end Go.Proofs.Ytollmkkbeeeccaa
