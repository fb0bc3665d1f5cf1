/-
  A disk's methods, ninth part: Flip. No statement is proved here.
-/
import Derived.Test.YtaelkmcohdfboaaFiles8
import Derived.Laws.BitsAllLaws
namespace Go.Proofs.Ytaelkmcohdfboaa
open Go.RowKit Go.Maps

def St.flip (S : St) (s : List UInt8) (i : Int) (y : UInt8) : Bool × St :=
  match Dir.look S.cur s with
  | none => (false, S)
  | some f => if i < 0 ∨ ((S.file f).data.length : Int) ≤ i then (false, S) else (true, S.setFl f ⟨(S.file f).data.set i.toNat ((S.file f).data.getD i.toNat 0 ^^^ y), (S.file f).safe⟩)

theorem own_set {w : World} {e : TypeId} {a : Option Addr} {n c k : Nat} {xs : List Value} (h : w.ownsRow 0 e 1 (.slice a n c) n xs) (hk : k < n) (u : Value) :
    ∃ g, a = some ⟨g, 0, none⟩ ∧ (w.setCell ⟨g, k, none⟩ u).ownsRow 0 e 1 (.slice a n c) n (xs.set k u) ∧ w.frozen? ⟨g, k, none⟩ = false ∧ (∀ v, xs[k]? = some v → w.cell? ⟨g, k, none⟩ = some v) := by
  have hl := h.1
  rcases h.2 with ⟨h1, h2⟩ | ⟨g, cap, cur, h1, h2, h3, h4, h5, h6, h7⟩
  · omega
  · injection h1 with h1 _ h1''
    subst h1 h1''
    refine ⟨g, rfl, ⟨by rw [List.length_set]; exact hl, .inr ⟨g, c, cur.setIfInBounds k u, rfl, h2, heap_setCell_same w g k _ e u h3, h4, h5, by simpa using h6, ?_⟩⟩, frozen_of_row _ _ _ _ _ h3, fun v hv => ?_⟩
    · rw [Array.toList_setIfInBounds, List.take_set, h7]
    · rw [cell_of_row _ _ _ _ _ _ h3]
      rw [← h7] at hv
      rw [List.getElem?_take] at hv
      split at hv
      · simpa using hv
      · cases hv

set_option maxRecDepth 100000 in
set_option maxHeartbeats 2000000 in
theorem flip_any (F : Nat → Prop) (d : Nat) (S : St) (s : List UInt8) (i : Int) (y : UInt8) (w : World) (h : Dk w F d S) (hs : s.length ≤ maxLen) :
    Calls Try.prog 33 #[.pointer (some ⟨d, 0, none⟩), .string (str s), .int .i64 i, .int .u8 (y.toNat : Int)] w fun e w' => e = .returned (.bool (S.flip s i y).1) ∧ Did F w w' d (S.flip s i y).2 := by
  obtain ⟨mc, ms, A, c, R, h⟩ := h
  have hb := h.blk
  unfold dcells at hb
  have c1 : w.cell? ⟨d, 1, none⟩ = some (.map mc) := cell_of_row _ _ _ _ _ _ hb
  have HN := Lib.hid h.cur
  have H := Lib.hid h
  clear h hb
  unfold St.flip
  cases hl : Dir.look S.cur s with
  | none =>
    have HL := Lib.hid hl; clear hl
    simp only
    go_enter Try.func33, Try.ntmps33
    go_wp2_with (at_lookup; refine wpList_look_none rfl _ _ 66 71 rfl Try.underlying66 zeroFile mc S.cur rfl HN.out s rfl hs HL.out ?_)
    go_ret
    exact ⟨rfl, Did.same H.out.dk⟩
  | some f =>
    simp only
    obtain ⟨l, hfl⟩ := Option.isSome_iff_exists.1 (H.out.ok.cur_fl _ (Dir.mem_of_look hl))
    have HL := Lib.hid hl; clear hl
    rw [file_eq hfl]
    have hfil := H.out.fil f l hfl
    have hvl := (H.out.ok.fl_len f l hfl).1
    have hsf := (H.out.ok.fl_len f l hfl).2
    have q0 : w.cell? ⟨f, 0, none⟩ = some (.slice (R f).1 l.data.length (R f).2) := cell_of_row _ _ _ _ _ _ hfil.blk
    have hcap : l.data.length ≤ (R f).2 := by obtain ⟨_, _, e, hle⟩ := own_form hfil.own; injection e with _ _ e; omega
    have hown := hfil.own
    obtain ⟨n, hn⟩ : ∃ n, n = l.data.length := ⟨_, rfl⟩
    rw [← hn] at q0 hcap hown ⊢
    have HNn := Lib.hid hn
    have HFI := Lib.hid hfil
    have HFL := Lib.hid hfl
    have HV := Lib.hid hvl
    have HSF := Lib.hid hsf
    have HO := Lib.hid hown
    clear hfil hfl hvl hsf hown hn
    by_cases hneg : i < 0
    · rw [if_pos (.inl hneg)]
      go_enter Try.func33, Try.ntmps33
      go_wp2_with (at_lookup; refine wpList_look_some rfl _ _ 66 71 rfl Try.underlying66 zeroFile mc S.cur rfl HN.out s rfl hs f HL.out ?_)
      go_ret
      exact ⟨rfl, Did.same H.out.dk⟩
    · obtain ⟨k, rfl⟩ : ∃ k : Nat, i = (k : Int) := ⟨i.toNat, by omega⟩
      clear hneg
      by_cases hbig : n ≤ k
      · rw [if_pos (.inr (by omega))]
        go_enter Try.func33, Try.ntmps33
        go_wp2_with (at_lookup; refine wpList_look_some rfl _ _ 66 71 rfl Try.underlying66 zeroFile mc S.cur rfl HN.out s rfl hs f HL.out ?_)
        go_ret
        exact ⟨rfl, Did.same H.out.dk⟩
      · rw [if_neg (by omega)]
        have hlt : k < n := by omega
        clear hbig
        obtain ⟨x, hx⟩ : ∃ x, l.data[k]? = some x := ⟨l.data[k]'(by rw [← HNn.out]; exact hlt), List.getElem?_eq_getElem _⟩
        have hget : l.data.getD k 0 = x := by rw [List.getD_eq_getElem?_getD, hx]; rfl
        simp only [Int.toNat_natCast, hget]
        obtain ⟨z, hz⟩ : ∃ z, z = x ^^^ y := ⟨_, rfl⟩
        rw [← hz]
        have hxor : bits BinOp.xor IntKind.u8 (x.toNat : Int) (y.toNat : Int) = (z.toNat : Int) := by rw [hz, UInt8.toNat_xor]; exact u8_xor_nat _ _ x.toNat_lt y.toNat_lt
        obtain ⟨g, hA, hset, hfr, hce⟩ := own_set HO.out hlt (bv z)
        have hcell : w.cell? ⟨g, k, none⟩ = some (.int .u8 (x.toNat : Int)) := hce (bv x) (by rw [List.getElem?_map, hx]; rfl)
        have hmapset : (l.data.map bv).set k (bv z) = (l.data.set k z).map bv := by rw [List.map_set]
        rw [hmapset] at hset
        have hrow : rowB (R f) = some g := by unfold rowB; rw [hA]; rfl
        have hkg : Kept (fun j => j = g) w (w.setCell ⟨g, k, none⟩ (bv z)) := Kept.setCell w (by rfl) _
        have hfg : f ≠ g := fun e => HFI.out.rowNe HFI.out.blk (by decide) (by rw [hrow, e])
        have hlen : (l.data.set k z).length = n := by rw [List.length_set, HNn.out]
        have hfil2 : Fil (w.setCell ⟨g, k, none⟩ (bv z)) f (R f) ⟨l.data.set k z, l.safe⟩ := ⟨by
          have := hkg.blk HFI.out.blk hfg
          simp only [hlen]
          rw [← HNn.out] at this
          exact this, by simp only [hlen]; exact hset⟩
        have dd := H.out.fileDid HFL.out (r := R f) (hkg.mono (fun j _ e => .inr (by rw [hrow, e]))) hfil2 (fun k hk => .inl hk) (Nat.le_refl _) H.out.ok.vol_le (by simp only [hlen, HNn.out]; exact HV.out) (by simp only [hlen, HNn.out]; exact HSF.out)
        have HD := Lib.hid dd
        have hA' : (R f).1 = some ⟨g, 0, none⟩ := hA
        rw [hA'] at q0
        clear dd hfil2 hkg hset hce hmapset hx hget hz hA hA'
        go_enter Try.func33, Try.ntmps33
        go_wp2_with (at_lookup; refine wpList_look_some rfl _ _ 66 71 rfl Try.underlying66 zeroFile mc S.cur rfl HN.out s rfl hs f HL.out ?_)
        go_ret
        exact ⟨rfl, HD.out⟩
end Go.Proofs.Ytaelkmcohdfboaa
