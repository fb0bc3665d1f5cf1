/-
  The contracts of image's head, file, Part and Entry. No statement is proved here.
-/
import Derived.Test.YthmjjhjblokjeaaGreatImg
import Derived.Test.YthmjjhjblokjeaaGreatFrmK
import Derived.Test.YthmjjhjblokjeaaGreatCmdK
import Derived.Test.YthmjjhjblokjeaaGreatEntK
namespace Go.Proofs.YthmjjhjblokjeaaGreat
open Go.RowKit Tot

theorem kind_byte (k : UInt8) : (k.toNat : Int) % 256 = (k.toNat : Int) := by
  have := k.toNat_lt
  omega

set_option maxRecDepth 100000 in
set_option maxHeartbeats 1000000 in
theorem head_any (k : UInt8) (f t : Int) (w : World) :
    Calls Tryz.prog 26 #[.int .i64 (k.toNat : Int), .int .i64 f, .int .i64 t] w fun e w' => ∃ A c, e = .returned (.slice A 26 c) ∧ w'.ownsRow w.heap.size 5 1 (.slice A 26 c) 26 ((headB k f t).map bv) ∧ Kept noBlock w w' := by
  obtain ⟨z, hz⟩ : ∃ z : Int, z = (k.toNat : Int) := ⟨_, rfl⟩
  have HK : Hid (z % 256 = (k.toNat : Int)) := by rw [hz]; exact Lib.hid (kind_byte k)
  rw [← hz]
  have HZ := Lib.hid hz
  clear hz
  have p0 := Pen.new w
  have kn := Kept.alloc noBlock w (.cells #[.slice none 0 0] 90)
  obtain ⟨b, hb⟩ : ∃ b, b = w.heap.size := ⟨_, rfl⟩
  go_enter Tryz.func26, Tryz.ntmps26
  go_wp2_with fail
  rw [← hb] at p0 ⊢
  have HB := Lib.hid hb
  have KN := Lib.hid kn
  clear kn hb
  rw [HK.out]
  obtain ⟨w1, hw1⟩ : ∃ w1, w1 = w.alloc (.cells #[.slice none 0 0] 90) := ⟨_, rfl⟩
  rw [← hw1] at p0 KN ⊢
  clear hw1
  refine (pen_byte p0 k (by simp)).mono ?_
  rintro e w2 ⟨rfl, p2⟩
  clear p0
  go_wp2_with fail
  refine (pen_num p2 f (by simp)).mono ?_
  rintro e w3 ⟨rfl, p3⟩
  clear p2
  go_wp2_with fail
  refine (pen_num p3 t (by simp [be8_length])).mono ?_
  rintro e w4 ⟨rfl, p4⟩
  clear p3
  have h17 : ([] ++ [k] ++ be8 f ++ be8 t).length = 17 := by simp [be8_length]
  go_wp2_with fail
  refine (pen_bytes p4 17 h17 (by omega)).mono ?_
  rintro e w5 ⟨A5, c5, rfl, o5, k5⟩
  have e17 : [] ++ [k] ++ be8 f ++ be8 t = headIn k f t := by simp [headIn]
  rw [e17] at o5
  have L5 := Lib.hid (Lies.of_own (F := fun _ => True) o5 (fun _ _ => trivial))
  have K5 : Hid (Kept noBlock w w5) := KN.out.trans k5 (fun i hi h => by have := HB.out; omega)
  clear o5 k5 p4 h17 e17
  go_wp2_with fail
  refine (make_any _ A5 17 c5 (headIn k f t) w5 L5.out (headIn_length k f t) (by omega)).mono ?_
  rintro e w6 ⟨A6, c6, rfl, o6, k6⟩
  have R6 := Lib.hid o6
  have K6 := Lib.hid (K5.out.step k6)
  clear o6 k6 L5
  go_wp2
  go_ret
  exact ⟨A6, c6, rfl, own_base R6.out (fun i hi => Nat.le_trans K5.out.size (R6.out.lt i hi).1), K6.out⟩

set_option maxRecDepth 100000 in
set_option maxHeartbeats 1000000 in
theorem part_any (f : Int) (w : World) :
    Calls Tryz.prog 16 #[.int .i64 f] w fun e w' => ∃ A c, e = .returned (.slice A 26 c) ∧ w'.ownsRow w.heap.size 5 1 (.slice A 26 c) 26 ((partB f).map bv) ∧ Kept noBlock w w' := by
  have HD := Lib.hid (head_any 2 f f w)
  go_enter Tryz.func16, Tryz.ntmps16
  go_wp2_with fail
  refine HD.out.mono ?_
  rintro e w6 ⟨A6, c6, rfl, o6, k6⟩
  have R6 := Lib.hid o6
  have K6 := Lib.hid k6
  clear o6 k6 HD
  go_wp2
  go_ret
  exact ⟨A6, c6, rfl, R6.out, K6.out⟩

set_option maxRecDepth 100000 in
set_option maxHeartbeats 1000000 in
theorem entry_any (x : EntryV) (n : Nat) (w : World) (hn : x.bytes.length = n) (hx : n ≤ 16384) :
    Calls Tryz.prog 17 #[x.val] w fun e w' => ∃ A c, e = .returned (.slice A (n + 9) c) ∧ w'.ownsRow w.heap.size 5 1 (.slice A (n + 9) c) (n + 9) ((entB x).map bv) ∧ Kept noBlock w w' := by
  obtain ⟨w1, hw1⟩ : ∃ w1, w1 = w.alloc (.cells x.cells.toArray 56) := ⟨_, rfl⟩
  have k1 : Kept noBlock w w1 := by rw [hw1]; exact Kept.alloc _ _ _
  have b1 : w1.heap[w.heap.size]? = some (.cells x.cells.toArray 56 (0, 0)) := by rw [hw1]; exact heap_alloc_new w _
  have EB := Lib.hid (bytes_any x n w1 hn (by omega))
  have HN := Lib.hid hn
  have K1 := Lib.hid k1
  clear hn k1
  obtain ⟨l, hl⟩ : ∃ l, l = x.bytes := ⟨_, rfl⟩
  rw [← hl] at EB HN
  have HL := Lib.hid hl
  clear hl
  have HE : Hid (entB x = frm l) := by rw [HL.out]; exact Lib.hid rfl
  clear HL
  rw [HE.out]
  clear HE
  unfold EntryV.cells at hw1 b1
  unfold EntryV.val at EB ⊢
  obtain ⟨index, term, op, client, seq, key, value, old⟩ := x
  simp only at hw1 b1 EB ⊢
  have c0 := cell_of_row _ _ 0 _ _ _ b1
  have c1 := cell_of_row _ _ 1 _ _ _ b1
  have c2 := cell_of_row _ _ 2 _ _ _ b1
  have c3 := cell_of_row _ _ 3 _ _ _ b1
  have c4 := cell_of_row _ _ 4 _ _ _ b1
  have c5 := cell_of_row _ _ 5 _ _ _ b1
  have c6 := cell_of_row _ _ 6 _ _ _ b1
  have c7 := cell_of_row _ _ 7 _ _ _ b1
  clear b1
  go_enter Tryz.func17, Tryz.ntmps17
  go_upto_region 1 with (fail)
  rw [← hw1]
  clear hw1
  go_wp2_with fail
  refine EB.out.mono ?_
  rintro e w2 ⟨A2, d2, rfl, o2, k2⟩
  have L2 := Lib.hid (Lies.of_own (F := fun _ => True) o2 (fun _ _ => trivial))
  have K2 := Lib.hid (K1.out.step k2)
  clear o2 k2 EB c0 c1 c2 c3 c4 c5 c6 c7
  go_wp2_with fail
  refine (make_any _ A2 n d2 l w2 L2.out HN.out hx).mono ?_
  rintro e w6 ⟨A6, c6, rfl, o6, k6⟩
  have R6 := Lib.hid o6
  have K6 := Lib.hid (K2.out.step k6)
  clear o6 k6 L2
  go_wp2
  go_ret
  exact ⟨A6, c6, rfl, own_base R6.out (fun i hi => Nat.le_trans K2.out.size (R6.out.lt i hi).1), K6.out⟩

set_option maxRecDepth 100000 in
set_option maxHeartbeats 1000000 in
theorem file_full (A : Option Addr) (n c : Nat) (a : Option Addr) (m d : Nat) (w : World) (hm : 16384 < m) :
    Calls Tryz.prog 25 #[.slice A n c, .slice a m d] w fun e w' => e = .returned (.tuple #[.slice none 0 0, .int .i64 4]) ∧ w = w' := by
  go_enter Tryz.func25, Tryz.ntmps25
  go_wp2_with fail
  refine (make_full a m d w hm).mono ?_
  rintro e w1 ⟨rfl, rfl⟩
  go_wp2
  go_ret2
  exact ⟨rfl, rfl⟩

set_option maxRecDepth 100000 in
set_option maxHeartbeats 1000000 in
theorem file_any (base : Nat) (F : Nat → Prop) (A : Option Addr) (c : Nat) (xs : List UInt8) (a : Option Addr) (m d : Nat) (l : List UInt8) (w : World) (h1 : w.ownsRow base 5 1 (.slice A 26 c) 26 (xs.map bv)) (h2 : Lies w F a (l.map bv)) (hl : l.length = m) (hm : m ≤ 16384) :
    Calls Tryz.prog 25 #[.slice A 26 c, .slice a m d] w fun e w' => ∃ A' c', e = .returned (.tuple #[.slice A' (m + 35) c', .int .i64 0]) ∧ w'.ownsRow 0 5 1 (.slice A' (m + 35) c') (m + 35) ((xs ++ frm l).map bv) ∧ Grew w w' (.slice A 26 c) (.slice A' (m + 35) c') := by
  have H1 := Lib.hid (own_base (base' := 0) h1 (fun _ _ => Nat.zero_le _))
  have HL := Lib.hid hl
  have MK := Lib.hid (make_any F a m d l w h2 hl hm)
  clear h1 h2 hl
  go_enter Tryz.func25, Tryz.ntmps25
  go_wp2_with fail
  refine MK.out.mono ?_
  rintro e w1 ⟨A1, c1, rfl, o1, k1⟩
  have L1 := Lies.of_own (F := fun _ => True) o1 (fun _ _ => trivial)
  have hsrc : Src Tryz.prog 1 35 (.slice A1 (m + 9) c1) (m + 9) ((frm l).map bv) w1 := src_lies Tryz.underlying35 L1 (by rw [List.length_map, frm_length, HL.out]) (bv_one _)
  have HO := Lib.hid (own_keep H1.out k1 (fun _ _ h => h))
  have K1 := Lib.hid k1
  clear o1 k1 L1 MK
  go_wp2_with (at_builtin; refine wpList_append_src rfl _ _ 35 35 rfl 5 (.int .u8 0) 1 1 Tryz.underlying35 Tryz.infoU8f rfl (.slice A 26 c) 26 (xs.map bv) rfl HO.out _ (m + 9) ((frm l).map bv) rfl hsrc ?c3 ?c4 ?_)
  case c3 => unfold maxLen; omega
  case c4 => omega
  intro A2 c2 w2 o2 k2 at2
  have e35 : 26 + (m + 9) = m + 35 := by omega
  rw [e35] at o2 at2 ⊢
  have O2 := Lib.hid o2
  have G2 : Hid (Grew w w2 (.slice A 26 c) (.slice A2 (m + 35) c2)) := Grew.after K1.out ⟨k2, at2⟩
  clear o2 k2 at2 hsrc e35
  go_wp2
  go_ret2
  refine ⟨A2, c2, rfl, ?_, G2.out⟩
  rw [List.map_append]
  exact O2.out
end Go.Proofs.YthmjjhjblokjeaaGreat
