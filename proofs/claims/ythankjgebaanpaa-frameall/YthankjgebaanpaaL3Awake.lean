/-
  What the statements of layer 3 say in their own words, first part, and the document's examples. No statement is proved here.
-/
import Derived.Test.YthankjgebaanpaaFrame2
import Derived.Lib.SlBytesConst
namespace Go.Proofs.Ythankjgebaanpaa
open Go.RowKit

/-- Bytes as a string. -/
def str (l : List UInt8) : ByteArray := ⟨l.toArray⟩
theorem str_eq (l m : List UInt8) : str l = str m ↔ l = m := by
  unfold str
  constructor
  · intro h
    have := congrArg (fun b : ByteArray => b.data.toList) h
    simpa using this
  · rintro rfl
    rfl
theorem str_append (l m : List UInt8) : str l ++ str m = str (l ++ m) := by unfold str; apply ByteArray.ext; simp
theorem str_size (l : List UInt8) : (str l).size = l.length := by simp [str, ByteArray.size]
theorem run_str {w : World} {F : Nat → Prop} {a : Option Addr} {n : Nat} {l : List UInt8} (h : Lies w F a (l.map bv)) (hl : l.length = n) (c : Nat) : (convert 22 9 (.slice a n c)).run Try.prog w = .ok (.string (str l)) w :=
  run_str_lies 22 9 5 Try.underlying22 Try.underlying5 Try.underlying9 h hl c

set_option maxRecDepth 100000 in
set_option maxHeartbeats 400000 in
theorem awake_any (w : World) : Calls Try.prog 11 #[] w fun e w' => e = .returned (.bool true) ∧ Kept noBlock w w' := by
  have kc : ∀ (w : World) (C : Array Value) (n c : Nat), (convert 22 22 (.slice (some ⟨w.heap.size, 0, none⟩) n c)).run Try.prog (w.alloc (.cells C 5)) =
      .ok (.slice (some ⟨w.heap.size, 0, none⟩) n c) (w.alloc (.cells C 5 (C.size, C.size + 1))) := fun w C n c => by
    have := Lib.run_convert_bytes_const (P := Try.prog) w 22 5 C n c Try.underlying22 Try.underlying5
    simpa using this
  go_enter Try.func11, Try.ntmps11
  go_wp2_with fail
  obtain ⟨l, hl⟩ : ∃ l : List UInt8, l = [97, 98] := ⟨_, rfl⟩
  have hll : l.length = 2 := by rw [hl]; rfl
  have hL : Lies (w.alloc (.cells #[.int .u8 97, .int .u8 98] 5 (2, 3))) (fun _ => True) (some ⟨w.heap.size, 0, none⟩) (l.map bv) := by rw [hl]; exact Lies.new w _ ([97, 98].map bv) _ _ trivial
  have k1 := Kept.alloc noBlock w (.cells #[.int .u8 97, .int .u8 98] 5 (2, 3))
  generalize w.alloc (.cells #[.int .u8 97, .int .u8 98] 5 (2, 3)) = w1 at hL k1 ⊢
  clear kc
  have HLL := Lib.hid hll; clear hll
  have HL := Lib.hid hl; clear hl
  refine (make_any _ _ 2 _ l w1 hL HLL.out (by omega)).mono ?_
  rintro e w2 ⟨A2, c2, rfl, o2, k2⟩
  obtain ⟨g, cap, hv, _, hlt⟩ := o2.form (by omega)
  obtain ⟨rfl, rfl⟩ : A2 = some ⟨g, 0, none⟩ ∧ c2 = cap := by injection hv with a b c; exact ⟨a, c⟩
  have hcap : 11 ≤ c2 := by obtain ⟨_, _, e, hle⟩ := own_form o2; injection e with _ _ e; omega
  have hx : (frm l)[10]? = some 229 := by
    have : frm l = (be4 l.length ++ (be4 (crc 3988292384 l) ++ l)) ++ [229] := by simp [frm]
    rw [this, List.getElem?_append_right (by simp [be4_length, HLL.out])]
    simp [be4_length, HLL.out]
  have hfl : (frm l).length = 11 := by rw [frm_length, HLL.out]
  have hc10 : w2.cell? ⟨g, 10, none⟩ = some (.int .u8 229) := by
    rw [o2.cellAt 10 (by omega)]
    rw [List.getElem?_map, hx]
    rfl
  have hL2 := Lies.of_own (F := fun _ => True) o2 (fun _ _ => trivial)
  have HF := Lib.hid hfl; clear hfl
  clear hx hv o2 hL
  go_wp2_with fail
  refine (fone_any _ _ 11 c2 (frm l) w2 hL2 HF.out (by omega) hcap).mono ?_
  have e1 := rd_frm l [] (by rw [HLL.out]; omega)
  rw [List.append_nil] at e1
  rw [e1, HLL.out]
  rintro e w3 ⟨A3, c3, rfl, o3, k3⟩
  have hL3 := Lies.of_own (F := fun _ => True) o3 (fun _ _ => trivial)
  have hc10' := k3.cell hc10 (fun h => h)
  clear hc10 e1 o3
  have hL2' : Lies w3 (fun _ => True) (some ⟨g, 0, none⟩) (((frm l).take 10).map bv) := by rw [List.map_take]; exact (hL2.keep k3 (fun _ _ h => h)).take 10
  clear hL2
  have h10 : ¬ c2 < 10 := by omega
  go_wp2_with fail
  refine (fone_any _ _ 10 c2 ((frm l).take 10) w3 hL2' (by rw [List.length_take, HF.out]; rfl) (by omega) (by omega)).mono ?_
  rw [rd_cut l (by rw [HLL.out]; omega) 10 (by rw [HLL.out]; omega)]
  rintro e w4 ⟨A4, c4, rfl, o4, k4⟩
  have hc4 := k4.cell hc10' (fun h => h)
  have hcv := fun c => run_str (hL3.keep k4 (fun _ _ h => h)) HLL.out c
  have hsl : (str l) = ⟨#[97, 98]⟩ := by rw [HL.out]; rfl
  rw [hsl] at hcv
  clear o4 hc10' hL3 hL2' hsl
  go_wp2
  go_ret
  exact ⟨rfl, ((k1.step k2).step k3).step k4⟩

set_option maxRecDepth 100000 in
set_option maxHeartbeats 1000000 in
theorem form_any (F : Nat → Prop) (a : Option Addr) (n c : Nat) (l : List UInt8) (w : World) (h : Lies w F a (l.map bv)) (hl : l.length = n) (hn : n ≤ 16384) :
    Calls Try.prog 13 #[.slice a n c] w fun e w' => e = .returned (.string (str (frm l))) ∧ Kept noBlock w w' := by
  have HL := Lib.hid hl; clear hl
  go_enter Try.func13, Try.ntmps13
  go_wp2_with fail
  refine (sum_any F a n c l w h HL.out (by omega)).mono ?_
  rintro e w1 ⟨rfl, k1⟩
  obtain ⟨s, hs⟩ : ∃ s, s = crc 3988292384 l := ⟨_, rfl⟩
  rw [← hs]
  have HS := Lib.hid hs; clear hs
  have hs32 : s < 4294967296 := by rw [HS.out]; exact crc0_lt l
  have b0 : ∀ k, bv (hiByte n k) = .int .u8 ((n / 2 ^ (24 - 8 * k) % 256 : Nat) : Int) := fun k => by unfold bv; rw [hiByte_toNat]
  have b1 : ∀ k, bv (hiByte s k) = .int .u8 ((s / 2 ^ (24 - 8 * k) % 256 : Nat) : Int) := fun k => by unfold bv; rw [hiByte_toNat]
  have hcells : (#[Value.int IntKind.u8 ((n : Int) / 16777216), Value.int IntKind.u8 ((n : Int) / 65536), Value.int IntKind.u8 ((n : Int) / 256), Value.int IntKind.u8 ((n : Int) % 256), Value.int IntKind.u8 ((s : Int) / 16777216 % 256), Value.int IntKind.u8 ((s : Int) / 65536 % 256), Value.int IntKind.u8 ((s : Int) / 256 % 256), Value.int IntKind.u8 ((s : Int) % 256)] : Array Value) = ((be4 n ++ be4 s).map bv).toArray := by
    simp only [be4, List.cons_append, List.nil_append, List.map_cons, List.map_nil, b0, b1]
    rw [show 24 - 8 * 0 = 24 from rfl, show 24 - 8 * 1 = 16 from rfl, show 24 - 8 * 2 = 8 from rfl, show 24 - 8 * 3 = 0 from rfl]
    simp only [Array.mk.injEq, List.cons.injEq, Value.int.injEq, true_and, and_true]
    omega
  have h8 := run_str (Lies.new w1 (fun _ => True) ((be4 n ++ be4 s).map bv) 5 (0, 0) trivial) (n := 8) rfl 8
  have k8 := Kept.alloc noBlock w1 (.cells ((be4 n ++ be4 s).map bv).toArray 5)
  have hb := run_str (h.keep (k1.step k8) (fun _ _ h => h)) HL.out c
  have kk := k1.step k8
  rw [← hcells] at h8 hb kk
  clear hcells b0 b1 h k8 k1 hs32
  obtain ⟨S8, hS8⟩ : ∃ S8, S8 = str (be4 n ++ be4 s) := ⟨_, rfl⟩
  obtain ⟨Sb, hSb⟩ : ∃ Sb, Sb = str l := ⟨_, rfl⟩
  rw [← hS8] at h8
  rw [← hSb] at hb
  have H8 := Lib.hid hS8
  have HB := Lib.hid hSb
  have hs8 : S8.size = 8 := by rw [hS8, str_size]; rfl
  have hsb : Sb.size = n := by rw [hSb, str_size, HL.out]
  clear hS8 hSb
  go_wp2
  go_ret
  refine ⟨?_, kk⟩
  have e : (⟨#[229]⟩ : ByteArray) = str [229] := rfl
  have e2 : S8 ++ Sb ++ ⟨#[229]⟩ = str (frm l) := by
    rw [H8.out, HB.out, e, str_append, str_append]
    congr 1
    unfold frm
    rw [HL.out, ← HS.out]
    simp
  rw [← e2]
  rfl

end Go.Proofs.Ythankjgebaanpaa
