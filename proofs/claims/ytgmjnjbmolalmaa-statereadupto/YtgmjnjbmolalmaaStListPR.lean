/-
  A row of pairs, or sessions, that is read. No statement is proved here.
-/
import Derived.Test.YtgmjnjbmolalmaaStRead2
import Derived.Test.YtgmjnjbmolalmaaPackBad
namespace Go.Proofs.Ytgmjnjbmolalmaa.PR
open Go.RowKit

theorem rNum_range (l : List UInt8) (bad : Bool) : -9223372036854775808 ≤ (rNum l bad).1 ∧ (rNum l bad).1 ≤ 9223372036854775807 := by
  unfold rNum
  split
  · simp
  · exact rdN_bounds _
theorem val_one (p : ByteArray × (ByteArray × Bool)) {w : World} {B c : Nat} {t : TypeId} {fr : Nat × Nat} (hb : w.heap[B]? = some (.cells (enc p).toArray t fr)) : Src Try.prog 3 30 (.slice (some ⟨B, 0, none⟩) 1 c) 1 (cells [p]) w := by
  have he : cells [p] = enc p := flat_one p
  refine Src.ofSlice w Try.underlying30 _ _ _ _ (by rw [he]; rfl) ?_ (cells_one _)
  rw [he]
  intro j u hu
  exact World.news_of_block hb j u (by simpa using hu)

set_option maxRecDepth 100000 in
set_option maxHeartbeats 1000000 in
theorem list_any (F : Nat → Prop) (b : Nat) (l : List UInt8) (bad : Bool) (w : World) (h : Rd w F b l bad) (hx : l.length ≤ 1099511627776) :
    Calls Try.prog 50 #[.pointer (some ⟨b, 0, none⟩), .func (.func 51) #[] #[]] w fun e w' => ∃ A c, e = .returned (.slice A (rdRow rdPair l bad).1.length c) ∧ w'.ownsRow w.heap.size 61 3 (.slice A (rdRow rdPair l bad).1.length c) (rdRow rdPair l bad).1.length (cells (rdRow rdPair l bad).1) ∧
      Rd w' F b (rdRow rdPair l bad).2.1 (rdRow rdPair l bad).2.2 ∧ Kept (fun k => k = b) w w' := by
  generalize hq : rNum l bad = q
  obtain ⟨n, l1, b1⟩ := q
  have HR : Hid (rdRow rdPair l bad = rdList rdPair n.toNat l1 b1) := by unfold Hid rdRow; rw [hq]
  have hl1 : b1 = false → l1.length ≤ l.length := fun e => by
    subst e
    obtain ⟨_, rfl⟩ := rNum_inv hq
    simp
  have HNB : Hid (-9223372036854775808 ≤ n ∧ n ≤ 9223372036854775807) := by have := rNum_range l bad; rw [hq] at this; exact this
  have hb := h.lt b h.foot
  have HLT := Lib.hid h.lt
  have HQ := Lib.hid hq
  have HL1 := Lib.hid hl1
  have H := Lib.hid h
  clear hq hl1 h
  go_enter Try.func50, Try.ntmps50
  go_wp2_with fail
  refine (rnum_r H.out HQ.out).mono ?_
  rintro e w1 ⟨rfl, r1, k1⟩
  have R1 := Lib.hid r1
  have K1 := Lib.hid k1
  clear r1 k1 H HQ
  go_wp2_with fail
  go_loopw [5, 6] (fun s i wr => ∃ (N : Int) (L : Nat) (A : Option Addr) (c : Nat) (es : List (ByteArray × (ByteArray × Bool))) (l' : List UInt8) (bad' : Bool), s = .slice A L c ∧ i = .int .i64 N ∧ Hid (es.length = L) ∧ N ≤ 9223372036854775807 ∧ -9223372036854775808 ≤ N ∧ Hid (rdRow rdPair l bad = (es ++ (rdList rdPair N.toNat l' bad').1, (rdList rdPair N.toNat l' bad').2)) ∧ Hid (bad' = false → L * 17 + l'.length ≤ l.length) ∧ L ≤ l.length + 1 ∧ Hid (Rd wr F b l' bad') ∧ Hid (wr.ownsRow 0 61 3 (.slice A L c) L (cells es)) ∧ Hid (∀ i, (Value.slice A L c).ownBlock = some i → w.heap.size ≤ i) ∧ Hid (Kept (fun k => k = b) w wr)) (fun _ i _ => (intOf i).toNat)
  case atStart => exact ⟨n, 0, none, 0, [], l1, b1, rfl, rfl, rfl, HNB.out.2, HNB.out.1, by unfold Hid; rw [HR.out]; rfl, fun e => by have := HL1.out e; omega, by omega, R1, World.ownsRow_nil _ _ _ _, fun i hi => by simp [Value.ownBlock] at hi, K1⟩
  case round =>
    obtain ⟨N, L, A, c, es, l', bad', rfl, rfl, HE, hN1, hN0, HRR, HB, hL, RD, OW, OB, KR⟩ := hrel
    by_cases h0 : 0 < N
    · cases bad' with
      | true =>
        have BA := Lib.hid (rbad_any b F l' true wr RD.out)
        have hrr := HRR.out
        rw [rdList_bad] at hrr
        simp only [List.append_nil] at hrr
        have HR2 := Lib.hid hrr
        clear hrr
        go_wp2_with fail
        refine BA.out.mono ?_
        rintro e w2 ⟨rfl, hw2⟩
        subst hw2
        clear BA
        go_wp2
        go_ret
        rw [HR2.out]
        simp only
        rw [HE.out]
        exact ⟨A, c, rfl, own_base OW.out OB.out, RD.out, KR.out⟩
      | false =>
        have BA := Lib.hid (rbad_any b F l' false wr RD.out)
        have RE := Lib.hid (rpair_any F b l' false wr RD.out)
        obtain ⟨m, hm⟩ : ∃ m, N.toNat = m + 1 := ⟨N.toNat - 1, by omega⟩
        have hrr := HRR.out
        rw [hm] at hrr
        simp only [rdList, Bool.false_eq_true, if_false] at hrr
        generalize hq2 : rdPair l' false = q2 at hrr RE
        obtain ⟨x, l2, b2⟩ := q2
        simp only at hrr RE
        have hm' : (N - 1).toNat = m := by omega
        have HR2 : Hid (rdRow rdPair l bad = ((es ++ [x]) ++ (rdList rdPair (N - 1).toNat l2 b2).1, (rdList rdPair (N - 1).toNat l2 b2).2)) := by
          unfold Hid
          rw [hrr, hm']
          simp
        have hLl := HB.out rfl
        have HB2 : Hid (b2 = false → (L + 1) * 17 + l2.length ≤ l.length) := fun e => by
          subst e
          have := rdPair_len hq2
          omega
        have HE2 : Hid ((es ++ [x]).length = L + 1) := by unfold Hid; rw [List.length_append, HE.out]; rfl
        unfold val at RE
        clear hrr hq2 hm hm'
        go_wp2_with fail
        refine BA.out.mono ?_
        rintro e w2 ⟨rfl, hw2⟩
        subst hw2
        clear BA
        go_wp2_with fail
        refine RE.out.mono ?_
        rintro e w3 ⟨rfl, rd3, k3⟩
        have RD3 := Lib.hid rd3
        have nb : ∀ i, (Value.slice A L c).ownBlock = some i → ¬ (i = b) := fun i hi e => by have := OB.out i hi; omega
        have O3 := Lib.hid (own_keep OW.out k3 nb)
        have K3 := Lib.hid (KR.out.step k3)
        clear rd3 k3 nb RE
        go_wp2_with (at_builtin; refine wpList_append_src rfl _ _ 30 30 rfl 61 (.agg #[.string ByteArray.empty, .string ByteArray.empty, .bool false]) 3 40 Try.underlying30 infoPr rfl (.slice A L c) L (cells es) rfl (own_keep O3.out (Kept.alloc noBlock _ _) (fun _ _ h => h)) _ 1 (cells [x]) rfl (val_one x (heap_alloc_new _ _)) ?c3 ?c4 ?_)
        case c3 => unfold maxLen; omega
        case c4 => left; omega
        intro A' c' w4 o4 k4 hat
        have he4 : cells es ++ cells [x] = cells (es ++ [x]) := (flat_append es [x]).symm
        rw [he4] at o4
        have O4 := Lib.hid o4
        have ka := Kept.alloc noBlock w3 (.cells (enc x).toArray 61)
        have RD4 := Lib.hid ((RD3.out.keep ka (fun _ _ h => h)).keep k4 (fun i hi e => by have h1 := OB.out i e; have h2 := HLT.out i hi; omega))
        have K4 : Hid (Kept (fun k => k = b) w w4) := (K3.out.trans ka (fun _ _ h => h.elim)).trans k4 (fun i hi e => by have := OB.out i e; omega)
        have OB4 : Hid (∀ i, (Value.slice A' (L + 1) c').ownBlock = some i → w.heap.size ≤ i) := fun i hi => by
          rcases hat i hi with h1 | h1
          · exact OB.out i h1
          · exact Nat.le_trans (K3.out.trans ka (fun _ _ h => h.elim)).size h1.1
        clear o4 ka k4 hat he4
        go_wp2
        go_roundw
        case rel => exact ⟨N - 1, L + 1, A', c', es ++ [x], l2, b2, rfl, by go_num, HE2, by omega, by omega, HR2, HB2, by omega, RD4, O4, OB4, K4⟩
        case measure => simp [intOf]; omega
    · have hz : N.toNat = 0 := by omega
      have h0' : decide ((0 : Int) < N) = false := decide_eq_false h0
      have hrr := HRR.out
      rw [hz] at hrr
      simp only [rdList, List.append_nil] at hrr
      have HR2 := Lib.hid hrr
      clear hrr
      go_wp2
      go_ret
      rw [HR2.out]
      simp only
      rw [HE.out]
      exact ⟨A, c, rfl, own_base OW.out OB.out, RD.out, KR.out⟩
end Go.Proofs.Ytgmjnjbmolalmaa.PR
