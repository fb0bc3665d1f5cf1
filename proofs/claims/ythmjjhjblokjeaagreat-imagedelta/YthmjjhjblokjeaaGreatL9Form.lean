/-
  What the statements of layer 9 say in their own words: heads, frames, files of entries. No statement is proved here.
-/
import Derived.Test.YthmjjhjblokjeaaGreatI9Head
import Derived.Test.YthmjjhjblokjeaaGreatEntK
namespace Go.Proofs.YthmjjhjblokjeaaGreat
open Go.RowKit Tot

theorem run_str9 {w : World} {F : Nat → Prop} {a : Option Addr} {n : Nat} {l : List UInt8} (h : Lies w F a (l.map bv)) (hl : l.length = n) (c : Nat) : (convert 35 9 (.slice a n c)).run Tryz.prog w = .ok (.string (str l)) w :=
  run_str_lies 35 9 5 Tryz.underlying35 Tryz.underlying5 Tryz.underlying9 h hl c

set_option maxRecDepth 100000 in
set_option maxHeartbeats 1000000 in
theorem lhead_any (k : UInt8) (f t : Int) (w : World) :
    Calls Tryz.prog 12 #[.int .i64 (k.toNat : Int), .int .i64 f, .int .i64 t] w fun e w' => e = .returned (.string (str (headB k f t))) ∧ Kept noBlock w w' := by
  obtain ⟨z, hz⟩ : ∃ z : Int, z = (k.toNat : Int) := ⟨_, rfl⟩
  have HK : Hid (z % 256 = (k.toNat : Int)) := by rw [hz]; exact Lib.hid (kind_byte k)
  rw [← hz]
  have HZ := Lib.hid hz
  clear hz
  have p0 := Pen.new w
  have kn := Kept.alloc noBlock w (.cells #[.slice none 0 0] 90)
  obtain ⟨b, hb⟩ : ∃ b, b = w.heap.size := ⟨_, rfl⟩
  go_enter Tryz.func12, Tryz.ntmps12
  go_wp2_with fail
  rw [← hb] at p0 ⊢
  have HB := Lib.hid hb
  have KN := Lib.hid kn
  clear kn hb
  rw [HK.out]
  obtain ⟨w1, hw1⟩ : ∃ w1, w1 = w.alloc (.cells #[.slice none 0 0] 90) := ⟨_, rfl⟩
  rw [← hw1] at p0 KN ⊢
  clear hw1
  refine (pen_byte p0 k (by simp)).mono ?_
  rintro e w2 ⟨rfl, p2⟩
  clear p0
  go_wp2_with fail
  refine (pen_num p2 f (by simp)).mono ?_
  rintro e w3 ⟨rfl, p3⟩
  clear p2
  go_wp2_with fail
  refine (pen_num p3 t (by simp [be8_length])).mono ?_
  rintro e w4 ⟨rfl, p4⟩
  clear p3
  have h17 : ([] ++ [k] ++ be8 f ++ be8 t).length = 17 := by simp [be8_length]
  go_wp2_with fail
  refine (pen_bytes p4 17 h17 (by omega)).mono ?_
  rintro e w5 ⟨A5, c5, rfl, o5, k5⟩
  have e17 : [] ++ [k] ++ be8 f ++ be8 t = headIn k f t := by simp [headIn]
  rw [e17] at o5
  have L5 := Lib.hid (Lies.of_own (F := fun _ => True) o5 (fun _ _ => trivial))
  have K5 : Hid (Kept noBlock w w5) := KN.out.trans k5 (fun i hi h => by have := HB.out; omega)
  clear o5 k5 p4 h17 e17
  go_wp2_with fail
  refine (make_any _ A5 17 c5 (headIn k f t) w5 L5.out (headIn_length k f t) (by omega)).mono ?_
  rintro e w6 ⟨A6, c6, rfl, o6, k6⟩
  have hs := run_str9 (n := 26) (Lies.of_own (F := fun _ => True) o6 (fun _ _ => trivial)) (headB_length k f t) c6
  obtain ⟨X, hX⟩ : ∃ X, X = str (headB k f t) := ⟨_, rfl⟩
  have HX := Lib.hid hX
  change (convert 35 9 (.slice A6 26 c6)).run Tryz.prog w6 = .ok (.string (str (headB k f t))) w6 at hs
  rw [← hX] at hs
  have K6 := Lib.hid (K5.out.step k6)
  clear o6 k6 L5 hX
  go_wp2
  go_ret
  exact ⟨by rw [HX.out]; rfl, K6.out⟩

set_option maxRecDepth 100000 in
set_option maxHeartbeats 1000000 in
theorem form_any (F : Nat → Prop) (a : Option Addr) (n c : Nat) (l : List UInt8) (w : World) (h : Lies w F a (l.map bv)) (hl : l.length = n) (hn : n ≤ 16384) :
    Calls Tryz.prog 13 #[.slice a n c] w fun e w' => e = .returned (.string (str (frm l))) ∧ Kept noBlock w w' := by
  have MK := Lib.hid (make_any F a n c l w h hl hn)
  have hfl : (frm l).length = n + 9 := by rw [frm_length, hl]
  obtain ⟨L, hL⟩ : ∃ L, L = frm l := ⟨_, rfl⟩
  rw [← hL] at MK hfl
  have HL := Lib.hid hL
  have HF := Lib.hid hfl
  clear hl h hL hfl
  go_enter Tryz.func13, Tryz.ntmps13
  go_wp2_with fail
  refine MK.out.mono ?_
  rintro e w6 ⟨A6, c6, rfl, o6, k6⟩
  have hs := run_str9 (Lies.of_own (F := fun _ => True) o6 (fun _ _ => trivial)) HF.out c6
  obtain ⟨X, hX⟩ : ∃ X, X = str L := ⟨_, rfl⟩
  have HX := Lib.hid hX
  rw [← hX] at hs
  have K6 := Lib.hid k6
  clear o6 k6 MK hX
  go_wp2
  go_ret
  exact ⟨by rw [HX.out, HL.out]; rfl, K6.out⟩

theorem entsB_snoc (es : List EntryV) (e : EntryV) : entsB (es ++ [e]) = entsB es ++ entB e := by rw [entsB_append]; simp [entsB]
theorem fileB_snoc (f : Int) (es : List EntryV) (e : EntryV) : fileB f (es ++ [e]) = fileB f es ++ entB e := by unfold fileB; rw [entsB_snoc, List.append_assoc]
theorem fileB_length (f : Int) (es : List EntryV) : (fileB f es).length = 26 + (entsB es).length := by unfold fileB; rw [List.length_append, partB_length]
theorem fileB_take_le (f : Int) (es : List EntryV) (k : Nat) : (fileB f (es.take k)).length ≤ (fileB f es).length := by
  conv => rhs; rw [← List.take_append_drop k es]
  rw [fileB_length, fileB_length, entsB_append, List.length_append]
  omega

end Go.Proofs.YthmjjhjblokjeaaGreat
