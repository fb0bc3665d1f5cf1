/-
  Edits that a list takes: their bytes, and where the list's files are. No statement is proved here.
-/
import Derived.Test.YtjijdkdpmbfdmaaL10Round
import Derived.Test.YtjijdkdpmbfdmaaL10Shows
import Derived.Test.YtjijdkdpmbfdmaaE10Find
import Derived.Test.YtjijdkdpmbfdmaaE10Rep
namespace Go.Proofs.Ytjijdkdpmbfdmaa
open Go.RowKit Tot

theorem editOf_fits {x : StepV} (ha : ∀ r ∈ (editOf x).add, r.Fit) : (editOf x).Fits := by
  have h1 := editOf_add x
  have h2 := editOf_drop x
  have h3 := editOf_floor x
  refine ⟨ha, fun k hk => ?_, ⟨by omega, by omega⟩, by omega, by omega⟩
  have := editOf_size x k hk
  unfold maxLen at this
  omega
/-- The bytes of an edit that a list takes. -/
theorem ok_bytes {x : StepV} {N : Fls} {f : Int} (hg : Good N) (h : (doE N f (editOf x)).2 = 0) : (editOf x).bytes.length ≤ 400 ∧ replS N f (editOf x).bytes = some ((doE N f (editOf x)).1, (editOf x).floor) := by
  obtain ⟨h1, h2⟩ := doE_some hg h
  have h3 := editOf_add x
  have h4 := editOf_drop x
  obtain ⟨h5, h6⟩ := gotE_bytes (editOf_fits (x := x) (fun r hr => (h1 r hr).fit))
  have h7 := flatMap_cap refB 41 (editOf x).add (fun r hr => by rw [refB_length]; have := (h1 r hr).2.1; omega)
  have h8 := flatMap_cap tx 24 (editOf x).drop (fun k hk => by rw [tx_length]; have := h2 k hk; omega)
  refine ⟨by rw [EditV.bytes_length]; omega, ?_⟩
  unfold replS
  rw [h5, h6, if_pos ⟨rfl, h⟩]
/-- Where a list has a file. -/
theorem fnd_has {N : Fls} (hg : Good N) (k : ByteArray) : (Srt.has N k = true ∧ ∃ j r, j < N.length ∧ (N.map (·.2))[j]? = some r ∧ r.name = k ∧ fndV (N.map (·.2)) k 0 = (j : Int)) ∨ (Srt.has N k = false ∧ fndV (N.map (·.2)) k 0 = -1) := by
  cases hh : Srt.has N k with
  | true =>
    refine .inl ⟨rfl, ?_⟩
    obtain ⟨v, hv⟩ := (Srt.has_iff N k).1 hh
    have hm := Srt.mem_of_look hv
    obtain ⟨j, r, h1, h2, h3⟩ := fndV_some (L := N.map (·.2)) (k := k) (i := 0) ⟨v, List.mem_map.2 ⟨_, hm, rfl⟩, (hg.named _ hm).symm⟩
    refine ⟨j, r, ?_, h1, h2, by rw [h3, Nat.zero_add]⟩
    have := (List.getElem?_eq_some_iff.1 h1).1
    simpa using this
  | false =>
    refine .inr ⟨rfl, fndV_none fun r hr e => ?_⟩
    obtain ⟨p, hp, rfl⟩ := List.mem_map.1 hr
    have h1 := Srt.look_of_mem hg.up (k := p.1) (v := p.2) hp
    rw [hg.named p hp, e] at h1
    rw [(Srt.has_false N k).1 hh] at h1
    cases h1

/-- A list, the map beside it, and the bytes of the edits that made it. -/
structure DoR (w wr : World) (S : Nat) (N : Fls) (f : Int) (A : Option Addr) (c k mb : Nat) (B : Option Addr) (bl bc : Nat) (bs : List (List UInt8)) : Prop where
  lst : LstS w wr S N f A c k
  apart : Sw wr (fun i => i ≠ S ∧ ¬ (Value.slice B bl bc).ownBlock = some i) N A c
  tb : MF.Tb wr mb N
  mlt : mb < wr.heap.size
  smb : S < mb
  own : wr.ownsRow 0 5 1 (.slice B bl bc) bl ((joined bs).map bv)
  olo : ∀ i, (Value.slice B bl bc).ownBlock = some i → S < i ∧ i ≠ mb
  len : (joined bs).length = bl
  ble : bl ≤ 500 * k
  fit : ∀ r ∈ bs, r.length ≤ 16384
  rep : replV [] 0 bs = some (N, f)
theorem DoR.keep {w wr u : World} {S : Nat} {N : Fls} {f : Int} {A : Option Addr} {c k mb : Nat} {B : Option Addr} {bl bc : Nat} {bs : List (List UInt8)} (h : DoR w wr S N f A c k mb B bl bc bs) (q : Kept noBlock wr u) : DoR w u S N f A c k mb B bl bc bs :=
  ⟨h.lst.keep q, h.apart.kept q, h.tb.keep q (fun h => h), Nat.lt_of_lt_of_le h.mlt q.size, h.smb, own_keep h.own q (fun _ _ h => h), h.olo, h.len, h.ble, h.fit, h.rep⟩
theorem DoR.more {w wr : World} {S : Nat} {N : Fls} {f : Int} {A : Option Addr} {c k k' mb : Nat} {B : Option Addr} {bl bc : Nat} {bs : List (List UInt8)} (h : DoR w wr S N f A c k mb B bl bc bs) (q : k ≤ k') : DoR w wr S N f A c k' mb B bl bc bs :=
  ⟨h.lst.more q, h.apart, h.tb, h.mlt, h.smb, h.own, h.olo, h.len, by have := h.ble; omega, h.fit, h.rep⟩
theorem parted_joined {bs : List (List UInt8)} (h : ∀ r ∈ bs, r.length ≤ 16384) : Parted (joined bs) bs [] ∧ (rd []).2.2 ≠ 0 := ⟨⟨by simp, h⟩, by rw [rd_nil]; decide⟩
end Go.Proofs.Ytjijdkdpmbfdmaa
