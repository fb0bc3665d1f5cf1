/-
  FrameEmpty: what it does with whatever number and bytes. No statement is proved here.
-/
import Derived.Test.YthankjgebaanpaaL3Torn
namespace Go.Proofs.Ythankjgebaanpaa
open Go.RowKit

theorem joined_empty : ∀ m : Nat, (joined (List.replicate m [])).length = 9 * m
  | 0 => rfl
  | m + 1 => by
    rw [List.replicate_succ, joined_cons, List.length_append, frm_length, joined_empty m]
    simp
    omega
theorem own_apart {w : World} {b b' : Nat} {e e' : TypeId} {s s' n n' : Nat} {v v' : Value} {xs xs' : List Value} (h : w.ownsRow b e s v n xs) (h' : w.ownsRow b' e' s' v' n' xs') (hne : e ≠ e') : ∀ i, v.ownBlock = some i → v'.ownBlock ≠ some i := fun i hi => by
  obtain ⟨cs, fr, hc⟩ := own_cells h i hi
  exact own_ne h' hc (Ne.symm hne)

/-- append at an operation that is done if another one said so. -/
theorem wpList_append_if {P : Program} {w : World} {ops : Array Oper} {rest : List Oper} {o : Oper} {a : Act} {Q : Exit → Act → World → Prop} (hw : Region.wanted o (yielded ops a.tmps) = true) (s x : Operand) (t tx : TypeId)
    (ho : o.op = .call { callee := .builtin .append, args := #[s, x], argTypes := #[t, tx] })
    (e : TypeId) (z : Value) (size bytes : Nat) (ht : P.underlying t = some (.slice e)) (hinfo : (P.info? e).map (fun i => (i.zero, i.size, i.bytes)) = some (some z, size, bytes)) (hzs : z.cells.size = size)
    (v : Value) (n : Nat) (xs : List Value) (hv : a.eval s = v) (hown : w.ownsRow 0 e size v n xs)
    (xv : Value) (m : Nat) (news : List Value) (hx : a.eval x = xv) (hs : Src P size tx xv m news w) (h63 : n + m ≤ maxLen) (hbytes : (n + m) * bytes ≤ 140737488355328 ∨ (n + m + (n + m) / 4 + 192) * bytes ≤ 281474976710656)
    (h : ∀ A c w', w'.ownsRow 0 e size (.slice A (n + m) c) (n + m) (xs ++ news) → Kept (fun k => v.ownBlock = some k) w w' →
      (∀ k, (Value.slice A (n + m) c).ownBlock = some k → v.ownBlock = some k ∨ fresh w w' k) → wpList P ops Q rest (a.put o.dst (.slice A (n + m) c)) w') : wpList P ops Q (o :: rest) a w :=
  wpList_step fun K hK => by
    rw [if_pos hw]
    exact wp_append_src s x t tx ho e z size bytes ht hinfo hzs v n xs hv hown xv m news hx hs h63 hbytes fun A c w' h2 h3 h4 => hK _ _ (h A c w' h2 h3 h4)

set_option maxRecDepth 100000 in
set_option maxHeartbeats 2000000 in
theorem empty_walk (F : Nat → Prop) (y : UInt8) (r : Option Addr) (n c : Nat) (l : List UInt8) (w : World) (h : Lies w F r (l.map bv)) (hl : l.length = n) (hn : n ≤ 140737488355328) :
    Calls Try.prog 9 #[.int .u8 (y.toNat : Int), .slice r n c] w fun e w' => e = .returned (.bool true) ∧ Kept noBlock w w' := by
  obtain ⟨m, hm⟩ : ∃ m, m = y.toNat % 100 := ⟨_, rfl⟩
  have hmod : (y.toNat : Int) % 100 = (m : Int) := by rw [hm]; omega
  have hm1 : m < 100 := by omega
  clear hm
  go_enter Try.func9, Try.ntmps9
  go_wp2_with fail
  refine (awake_any w).mono ?_
  rintro e w1 ⟨rfl, k1⟩
  have h1 := h.keep k1 (fun _ _ h => h)
  clear h
  go_wp2
  rw [hmod]
  clear hmod
  go_loopw [6, 7, 8] (fun rs b i wr => ∃ (k : Nat) (R : Option Addr) (rc : Nat) (vs : List Value) (A : Option Addr) (ac q : Nat), k ≤ m ∧ i = .int .i64 k ∧ rs = .slice R k rc ∧ q = 9 * k ∧ b = .slice A q ac ∧ Hid (wr.ownsRow w1.heap.size 22 1 (.slice R k rc) k vs) ∧
      Hid (wr.ownsRow w1.heap.size 5 1 (.slice A q ac) q ((joined (List.replicate k [])).map bv)) ∧ Kept noBlock w1 wr) (fun _ _ i _ => m - (intOf i).toNat)
  case atStart => exact ⟨0, none, 0, [], none, 0, 0, Nat.zero_le _, rfl, rfl, rfl, rfl, Lib.hid (World.ownsRow_nil _ _ _ _), Lib.hid (World.ownsRow_nil _ _ _ _), Kept.refl _ _⟩
  case round =>
    obtain ⟨k, R, rc, vs, A, ac, q, hk, rfl, rfl, hq, rfl, HR, HA, kr⟩ := hrel
    by_cases hlt : k < m
    · have hki : (k : Int) < m := by omega
      have hqb : q ≤ 900 := by omega
      have HQ := Lib.hid hq; clear hq
      go_wp2_with (at_builtin; refine wpList_append_src rfl _ _ 32 32 rfl 22 (.slice none 0 0) 1 24 Try.underlying32 Try.infoBytes rfl (.slice R k rc) k vs rfl (own_base (base' := 0) (HR.out.alloc _) (fun _ _ => Nat.zero_le _)) _ 1 [.slice none 0 0] rfl (src_new Try.underlying32 _ rfl (heap_alloc_new _ _)) ?c3 ?c4 ?_)
      case c3 => unfold maxLen; omega
      case c4 => omega
      intro R2 rc2 w2 o2 k2 hat2
      have g2 : Grew wr w2 (.slice R k rc) (.slice R2 (k + 1) rc2) := Grew.after (Kept.alloc noBlock wr _) ⟨k2, hat2⟩
      have g2n := g2.new kr (fun i hi => (HR.out.lt i hi).1)
      have HR2 := Lib.hid (own_base o2 g2n.2)
      have HA2 := Lib.hid (own_keep HA.out g2.kept (fun i hi hv => own_apart HA.out HR.out (by decide) i hi hv))
      have K2 := g2n.1
      clear o2 k2 hat2 g2 g2n HR HA
      go_wp2_with fail
      refine (make_any (fun _ => True) none 0 0 [] w2 (Lies.nil _ _ _) rfl (by omega)).mono ?_
      rintro e w3 ⟨A3, c3, rfl, o3, k3⟩
      have l3 := Lies.of_own (F := fun _ => True) o3 (fun _ _ => trivial)
      have HR3 := Lib.hid (own_keep HR2.out k3 (fun _ _ h => h))
      have HA3 := Lib.hid (own_keep HA2.out k3 (fun _ _ h => h))
      have hsrc : Src Try.prog 1 22 (.slice A3 9 c3) 9 ((frm []).map bv) w3 := src_lies Try.underlying22 l3 (by rw [List.length_map, frm_length]; rfl) (bv_one _)
      clear o3 l3 HR2 HA2
      go_wp2_with (at_builtin; refine wpList_append_src rfl _ _ 22 22 rfl 5 (.int .u8 0) 1 1 Try.underlying22 Try.infoU8 rfl (.slice A q ac) q _ rfl (own_base (base' := 0) HA3.out (fun _ _ => Nat.zero_le _)) _ 9 ((frm []).map bv) rfl hsrc ?c3 ?c4 ?_)
      case c3 => unfold maxLen; omega
      case c4 => omega
      intro A4 c4 w4 o4 k4 hat4
      have g4 : Grew w3 w4 (.slice A q ac) (.slice A4 (q + 9) c4) := ⟨k4, hat4⟩
      have g4n := g4.new (K2.step k3) (fun i hi => (HA3.out.lt i hi).1)
      have HA4 := Lib.hid (own_base o4 g4n.2)
      have HR4 := Lib.hid (own_keep HR3.out g4.kept (fun i hi hv => own_apart HR3.out HA3.out (by decide) i hi hv))
      have K4 := g4n.1
      clear o4 k4 hat4 g4 g4n hsrc HR3 HA3
      go_wp2
      go_roundw
      case rel =>
        refine ⟨k + 1, R2, rc2, _, A4, c4, q + 9, by omega, by go_num, rfl, by have := HQ.out; omega, rfl, HR4, Lib.hid ?_, K4⟩
        have e : joined (List.replicate (k + 1) []) = joined (List.replicate k []) ++ frm [] := by
          rw [List.replicate_succ', joined_snoc]
        rw [e, List.map_append]
        exact HA4.out
      case measure => simp [intOf]; omega
    · have hkm : m = k := by omega
      subst hkm
      have hqb : q ≤ 900 := by omega
      have HQ := Lib.hid hq; clear hq
      go_wp2_with (at_builtin; refine wpList_append_src rfl _ _ 22 22 rfl 5 (.int .u8 0) 1 1 Try.underlying22 Try.infoU8 rfl (.slice A q ac) q _ rfl (own_base (base' := 0) (HA.out.alloc _) (fun _ _ => Nat.zero_le _)) _ 1 [bv 0] rfl (src_new Try.underlying22 _ rfl (heap_alloc_new _ _)) ?c3 ?c4 ?_)
      case c3 => unfold maxLen; omega
      case c4 => omega
      intro A2 c2 w2 o2 k2 hat2
      have g2 : Grew wr w2 (.slice A q ac) (.slice A2 (q + 1) c2) := Grew.after (Kept.alloc noBlock wr _) ⟨k2, hat2⟩
      have g2n := g2.new kr (fun i hi => (HA.out.lt i hi).1)
      obtain ⟨b, hb⟩ : ∃ b, b = joined (List.replicate m []) ++ [0] := ⟨_, rfl⟩
      have o2' : w2.ownsRow 0 5 1 (.slice A2 (q + 1) c2) (q + 1) (b.map bv) := by rw [hb, List.map_append]; exact o2
      have l2 := Lies.of_own (F := fun _ => True) o2' (fun _ _ => trivial)
      have hbl : b.length = q + 1 := by rw [hb, List.length_append, joined_empty, HQ.out]; rfl
      have hcap : q + 1 ≤ c2 := by obtain ⟨_, _, e, hle⟩ := own_form o2'; injection e with _ _ e; omega
      have hP : Parted b (List.replicate m []) [0] := ⟨hb, fun x hx => by rw [(List.mem_replicate.1 hx).2]; simp⟩
      have K2 := g2n.1
      have HP := Lib.hid hP
      clear o2 o2' k2 hat2 g2 g2n HR HA hP hb kr
      go_wp2_with fail
      refine (rows_any _ A2 (q + 1) c2 b w2 l2 hbl (by omega) hcap).mono ?_
      rintro e w3 ⟨us, t, R3, rc3, hP3, hbad, rfl, _, _, k3⟩
      have hrd0 : rd [0] = ([], 0, 3) := rd_short (by simp)
      obtain ⟨eus, rfl⟩ := hP3.only HP.out hbad (by rw [hrd0]; simp)
      have hul : us.length = m := by rw [← rowsOf_length, eus, List.length_replicate]
      rw [hul, eus, joined_empty, hrd0, if_neg (by simp)]
      clear hul eus hP3 hbad hrd0 l2 hbl hcap
      have h3 := h1.keep (K2.step k3) (fun _ _ h => h)
      have kk := (k1.step K2).step k3
      go_wp2_with fail
      refine (fone_any (fun _ => True) none 0 0 [] w3 (Lies.nil _ _ _) rfl (by omega) (by omega)).mono ?_
      rw [rd_nil]
      rintro e w4 ⟨A4, c4, rfl, _, k4⟩
      have h4 := h3.keep k4 (fun _ _ h => h)
      have hsum := sum_any F r n c l w4 h4 hl (by omega)
      obtain ⟨sm, hsm⟩ : ∃ sm, sm = crc 3988292384 l := ⟨_, rfl⟩
      rw [← hsm] at hsum
      have HSM := Lib.hid hsm; clear hsm
      have HSUM := Lib.hid hsum; clear hsum
      go_wp2_with fail
      refine HSUM.out.mono ?_
      rintro e w5 ⟨rfl, k5⟩
      have hsrc : Src Try.prog 1 22 (.slice r n c) n (l.map bv) w5 := src_lies Try.underlying22 (h4.keep k5 (fun _ _ h => h)) (by simpa using hl) (bv_one l)
      go_wp2_with (at_builtin; refine wpList_append_if (by rfl) _ _ 22 22 rfl 5 (.int .u8 0) 1 1 Try.underlying22 Try.infoU8 rfl (.slice none 0 0) 0 [] rfl (World.ownsRow_nil _ _ _ _) _ n (l.map bv) rfl hsrc ?c3 ?c4 ?_)
      case c3 => unfold maxLen; omega
      case c4 => omega
      intro A6 c6 w6 o6 k6 hat6
      have k56 : Kept noBlock w5 w6 := k6.mono (fun i _ h => by simp [Value.ownBlock] at h)
      have o6' : w6.ownsRow 0 5 1 (.slice A6 n c6) n (l.map bv) := by simpa using o6
      have l6 := Lies.of_own (F := fun _ => True) o6' (fun _ _ => trivial)
      clear o6 o6' k6 hat6 hsrc HSUM
      go_wp2_with fail
      refine (sum_any _ A6 n c6 l w6 l6 hl (by omega)).mono ?_
      rw [← HSM.out]
      rintro e w7 ⟨rfl, k7⟩
      go_wp2
      go_ret
      exact ⟨by simp, (((kk.step k4).step k5).step k56).step k7⟩

end Go.Proofs.Ythankjgebaanpaa
