/-
  The contracts of package pack, second part: a Writer's Bytes, and a Reader's methods. No statement is proved here.
-/
import Derived.Test.YtgmjnjbmolalmaaPack
namespace Go.Proofs.Ytgmjnjbmolalmaa
open Go.RowKit

set_option maxHeartbeats 400000 in
theorem clone_any (F : Nat → Prop) (a : Option Addr) (n c : Nat) (l : List UInt8) (w : World) (h : Lies w F a (l.map bv)) (hl : l.length = n) (hx : n ≤ 140737488355328) :
    Calls Try.prog 49 #[.slice a n c] w fun e w' => ∃ A c', e = .returned (.slice A n c') ∧ w'.ownsRow w.heap.size 5 1 (.slice A n c') n (l.map bv) ∧ Kept noBlock w w' := by
  have hq : ∀ (w : World) (a : Option Addr) (n c n' c' : Nat), (binOp .eql 37 (.slice a n c) (.slice none n' c')).run Try.prog w = .ok (.bool a.isNone) w := fun w a n c n' c' => Lib.run_eql_slice_nil w _ _ a n c n' c' Try.underlying37
  cases a with
  | none =>
    obtain rfl : l = [] := by
      cases l with
      | nil => rfl
      | cons x r => obtain ⟨ad, h, _⟩ := h (by simp); cases h
    obtain rfl : n = 0 := hl.symm
    go_enter Try.func49, Try.ntmps49
    go_wp2
    go_ret
    exact ⟨none, 0, rfl, World.ownsRow_nil _ _ _ _, Kept.refl _ _⟩
  | some ad =>
    have hsrc : Src Try.prog 1 37 (.slice (some ad) n c) n (l.map bv) (w.alloc (.cells #[] 5)) :=
      src_lies Try.underlying37 (h.keep (Kept.alloc noBlock w _) (fun _ _ h => h)) (by simpa using hl) (bv_one l)
    have hown : (w.alloc (.cells #[] 5)).ownsRow 0 5 1 (.slice (some ⟨w.heap.size, 0, none⟩) 0 0) 0 [] := World.ownsRow_made w #[] 0 (Nat.zero_le _) (Nat.zero_le _) rfl
    go_enter Try.func49, Try.ntmps49
    go_wp2_with (at_builtin; refine wpList_append_src rfl (.tmp 5) (.tmp 6) 37 37 rfl 5 (.int .u8 0) 1 1 Try.underlying37 Try.infoU8 rfl _ 0 [] rfl hown _ n (l.map bv) rfl hsrc ?c3 ?c4 ?_)
    case c3 => unfold maxLen; omega
    case c4 => omega
    intro A' c' w1 hown1 k1 hat
    have R := Lib.hid hown1
    have k2 : Kept noBlock w w1 := (Kept.alloc noBlock w _).trans k1 (fun i hi h => by simp [Value.ownBlock] at h; omega)
    have hb2 : ∀ k, (Value.slice A' n c').ownBlock = some k → w.heap.size ≤ k := fun k hk => by
      rcases hat k hk with h | h
      · simp [Value.ownBlock] at h; omega
      · have := h.1; simp at this; omega
    clear hown1 hat k1
    go_wp2
    go_ret
    refine ⟨A', c', by simp, ?_, k2⟩
    have := own_base R.out hb2
    simpa using this

set_option maxHeartbeats 400000 in
theorem wbytes_any (b : Nat) (F : Nat → Prop) (xs : List UInt8) (w : World) (h : Wr w F b xs) (hx : xs.length ≤ 140737488355328) :
    Calls Try.prog 30 #[.pointer (some ⟨b, 0, none⟩)] w fun e w' => ∃ A c', e = .returned (.slice A xs.length c') ∧ w'.ownsRow w.heap.size 5 1 (.slice A xs.length c') xs.length (xs.map bv) ∧ Kept noBlock w w' := by
  obtain ⟨A, cp, hb, hown, hF, hFv, hlt⟩ := h
  have hc0 : w.cell? ⟨b, 0, none⟩ = some (.slice A xs.length cp) := cell_of_row _ _ _ _ _ _ hb
  clear hb
  go_enter Try.func30, Try.ntmps30
  go_wp2_with fail
  refine (clone_any F A xs.length cp xs w (Lies.of_own hown hFv) rfl hx).mono ?_
  rintro e w' ⟨A', c', rfl, h1, h2⟩
  have R := Lib.hid h1; clear h1
  go_wp2
  go_ret
  exact ⟨A', c', rfl, R.out, h2⟩

theorem wbytes_n (b : Nat) (F : Nat → Prop) (xs : List UInt8) (n : Nat) (w : World) (h : Wr w F b xs) (hn : xs.length = n) (hx : n ≤ 140737488355328) :
    Calls Try.prog 30 #[.pointer (some ⟨b, 0, none⟩)] w fun e w' => ∃ A c', e = .returned (.slice A n c') ∧ w'.ownsRow w.heap.size 5 1 (.slice A n c') n (xs.map bv) ∧ Kept noBlock w w' := by
  subst hn
  exact wbytes_any b F xs w h hx

/-- A Reader at block b: the bytes l are left; it reads blocks of F, of which it is one. -/
def Rd (w : World) (F : Nat → Prop) (b : Nat) (l : List UInt8) (bad : Bool) : Prop :=
  ∃ A c, w.heap[b]? = some (.cells #[.slice A l.length c, .bool bad] 104 (0, 0)) ∧ Lies w F A (l.map bv) ∧ l.length ≤ c ∧ F b ∧ ∀ k, F k → k < w.heap.size

theorem Rd.foot {F : Nat → Prop} {w : World} {b : Nat} {l : List UInt8} {bad : Bool} (h : Rd w F b l bad) : F b := by
  obtain ⟨A, c, _, _, _, hF, _⟩ := h
  exact hF

theorem Rd.lt {F : Nat → Prop} {w : World} {b : Nat} {l : List UInt8} {bad : Bool} (h : Rd w F b l bad) : ∀ i, F i → i < w.heap.size := by
  obtain ⟨A, c, _, _, _, _, hlt⟩ := h
  exact hlt

theorem Rd.keep {S F : Nat → Prop} {w w' : World} {b : Nat} {l : List UInt8} {bad : Bool} (h : Rd w F b l bad) (k : Kept S w w') (hd : ∀ i, F i → ¬ S i) : Rd w' F b l bad := by
  obtain ⟨A, c, hb, hl, hc, hF, hlt⟩ := h
  exact ⟨A, c, k.blk hb (hd b hF), hl.keep k hd, hc, hF, fun i hi => Nat.lt_of_lt_of_le (hlt i hi) k.size⟩

set_option maxHeartbeats 400000 in
theorem of_any (F : Nat → Prop) (a : Option Addr) (n c : Nat) (l : List UInt8) (w : World) (h : Lies w F a (l.map bv)) (hl : l.length = n) (hx : n ≤ 140737488355328) :
    Calls Try.prog 29 #[.slice a n c] w fun e w' => ∃ b, e = .returned (.pointer (some ⟨b, 0, none⟩)) ∧ Rd w' (fresh w w') b l false ∧ Kept noBlock w w' := by
  obtain rfl := hl
  go_enter Try.func29, Try.ntmps29
  go_wp2_with fail
  refine (clone_any F a l.length c l w h rfl hx).mono ?_
  rintro e w1 ⟨A', c', rfl, h1, h2⟩
  have R := Lib.hid h1; clear h1
  go_wp2
  go_ret
  have k3 : Kept noBlock w (w1.alloc (.cells #[.slice A' l.length c', .bool false] 104)) := h2.step (Kept.alloc _ _ _)
  refine ⟨w1.heap.size, rfl, ⟨A', c', heap_alloc_new _ _, ?_, ?_, ⟨h2.size, by simp⟩, fun k hk => hk.2⟩, k3⟩
  · refine Lies.keep (S := noBlock) (w := w1) (Lies.of_own R.out fun k hk => ⟨(R.out.lt k hk).1, ?_⟩) (Kept.alloc _ _ _) (fun _ _ h => h)
    have := (R.out.lt k hk).2; simp; omega
  · obtain ⟨_, _, e, hle⟩ := own_form R.out
    injection e with _ _ e
    omega

theorem rdone_any (b : Nat) (F : Nat → Prop) (l : List UInt8) (bad : Bool) (w : World) (h : Rd w F b l bad) :
    Calls Try.prog 32 #[.pointer (some ⟨b, 0, none⟩)] w fun e w' => e = .returned (.bool (!bad && l.isEmpty)) ∧ w = w' := by
  obtain ⟨A, c, hb, hl, hc, hF, hlt⟩ := h
  have hc0 : w.cell? ⟨b, 0, none⟩ = some (.slice A l.length c) := cell_of_row _ _ _ _ _ _ hb
  have hc1 : w.cell? ⟨b, 1, none⟩ = some (.bool bad) := cell_of_row _ _ _ _ _ _ hb
  clear hb
  cases bad
  · go_enter Try.func32, Try.ntmps32
    go_wp2
    go_ret
    refine ⟨?_, rfl⟩
    show Ending.returned (.bool ((l.length : Int) == 0)) = _
    cases l <;> simp
    omega
  · go_enter Try.func32, Try.ntmps32
    go_wp2
    go_ret
    exact ⟨rfl, rfl⟩

theorem Rd.spoil {F : Nat → Prop} {w : World} {b : Nat} {l : List UInt8} {bad : Bool} (h : Rd w F b l bad) : Rd (w.setCell ⟨b, 1, none⟩ (.bool true)) F b l true ∧ Kept (fun k => k = b) w (w.setCell ⟨b, 1, none⟩ (.bool true)) := by
  obtain ⟨A, c, hb, hl, hc, hF, hlt⟩ := h
  refine ⟨⟨A, c, ?_, fun hx => ?_, hc, hF, fun k hk => ?_⟩, Kept.setCell w (by rfl) _⟩
  · have := heap_setCell_same w b 1 _ 104 (.bool true) hb
    simpa using this
  · obtain ⟨ad, e, hf, hcell⟩ := hl hx
    refine ⟨ad, e, hf, fun j u hu => ?_⟩
    rw [World.cell?_setCell_other _ _ _ _ (fun e => ?_)]
    · exact hcell j u hu
    · have h1 := hcell j u hu
      rw [← e, cell_of_row w b 1 _ _ _ hb] at h1
      obtain ⟨x, _, hx⟩ := List.mem_map.1 (List.mem_of_getElem? hu)
      simp [← hx, bv] at h1
  · have := hlt k hk
    simpa [World.setCell] using this

set_option maxHeartbeats 400000 in
theorem take_no (b : Nat) (F : Nat → Prop) (l : List UInt8) (bad : Bool) (n : Int) (w : World) (h : Rd w F b l bad) (hn : bad = true ∨ n < 0 ∨ (l.length : Int) < n) :
    Calls Try.prog 63 #[.pointer (some ⟨b, 0, none⟩), .int .i64 n] w fun e w' => e = .returned (.slice none 0 0) ∧ Rd w' F b l true ∧ Kept (fun k => k = b) w w' := by
  have R := Lib.hid h.spoil
  obtain ⟨A, c, hb, hl, hc, hF, hlt⟩ := h
  have hc0 : w.cell? ⟨b, 0, none⟩ = some (.slice A l.length c) := cell_of_row _ _ _ _ _ _ hb
  have hc1 : w.cell? ⟨b, 1, none⟩ = some (.bool bad) := cell_of_row _ _ _ _ _ _ hb
  have hf1 : w.frozen? ⟨b, 1, none⟩ = false := frozen_of_row _ _ _ _ _ hb
  clear hb
  cases bad
  · by_cases h0 : n < 0
    · clear hn
      go_enter Try.func63, Try.ntmps63
      go_wp2
      go_ret
      exact ⟨rfl, R.out⟩
    · have h2 : (l.length : Int) < n := by
        rcases hn with hn | hn | hn
        · cases hn
        · exact absurd hn h0
        · exact hn
      clear hn
      go_enter Try.func63, Try.ntmps63
      go_wp2
      go_ret
      exact ⟨rfl, R.out⟩
  · clear hn
    go_enter Try.func63, Try.ntmps63
    go_wp2
    go_ret
    exact ⟨rfl, R.out⟩

theorem Rd.next {F : Nat → Prop} {w : World} {b n c c' : Nat} {l : List UInt8} {A A' : Option Addr} (hb : w.heap[b]? = some (.cells #[.slice A l.length c, .bool false] 104 (0, 0))) (hF : F b) (hlt : ∀ k, F k → k < w.heap.size)
    (hl : Lies w F A (l.map bv)) (hl' : Lies w F A' ((l.drop n).map bv)) (hc : (l.drop n).length ≤ c') :
    Lies (w.setCell ⟨b, 0, none⟩ (.slice A' (l.length - n) c')) F A ((l.take n).map bv) ∧ Rd (w.setCell ⟨b, 0, none⟩ (.slice A' (l.length - n) c')) F b (l.drop n) false ∧ Kept (fun k => k = b) w (w.setCell ⟨b, 0, none⟩ (.slice A' (l.length - n) c')) := by
  have far : ∀ {B : Option Addr} {r : List UInt8}, Lies w F B (r.map bv) → Lies (w.setCell ⟨b, 0, none⟩ (.slice A' (l.length - n) c')) F B (r.map bv) := by
    intro B r hr hx
    obtain ⟨ad, e, hf, hcell⟩ := hr hx
    refine ⟨ad, e, hf, fun j u hu => ?_⟩
    rw [World.cell?_setCell_other _ _ _ _ (fun e => ?_)]
    · exact hcell j u hu
    · have h1 := hcell j u hu
      rw [← e, cell_of_row w b 0 _ _ _ hb] at h1
      obtain ⟨x, _, hx⟩ := List.mem_map.1 (List.mem_of_getElem? hu)
      simp [← hx, bv] at h1
  refine ⟨?_, ⟨A', c', ?_, far hl', hc, hF, fun k hk => ?_⟩, Kept.setCell w (by rfl) _⟩
  · rw [List.map_take]
    exact (far hl).take n
  · have := heap_setCell_same w b 0 _ 104 (.slice A' (l.length - n) c') hb
    simpa using this
  · have := hlt k hk
    simpa [World.setCell] using this

/-- What 'take' leaves where the bytes are there. -/
def Took (w : World) (F : Nat → Prop) (b n : Nat) (l : List UInt8) (e : Ending) (w' : World) : Prop :=
  ∃ A c, e = .returned (.slice A n c) ∧ Lies w' F A ((l.take n).map bv) ∧ Rd w' F b (l.drop n) false ∧ Kept (fun k => k = b) w w'

set_option maxHeartbeats 400000 in
theorem take_yes (b : Nat) (F : Nat → Prop) (l : List UInt8) (n : Nat) (w : World) (h : Rd w F b l false) (hn : n ≤ l.length) :
    Calls Try.prog 63 #[.pointer (some ⟨b, 0, none⟩), .int .i64 (n : Int)] w (Took w F b n l) := by
  obtain ⟨A, c, hb, hl, hc, hF, hlt⟩ := h
  have hc0 : w.cell? ⟨b, 0, none⟩ = some (.slice A l.length c) := cell_of_row _ _ _ _ _ _ hb
  have hc1 : w.cell? ⟨b, 1, none⟩ = some (.bool false) := cell_of_row _ _ _ _ _ _ hb
  have hf0 : w.frozen? ⟨b, 0, none⟩ = false := frozen_of_row _ _ _ _ _ hb
  have HB := Lib.hid hb
  clear hb
  have hd := hl.drop n (cap := c) (by simpa using hc)
  rw [← List.map_drop] at hd
  by_cases hcn : c = n
  · rw [if_pos hcn] at hd
    have R := Lib.hid (Rd.next (n := n) (c' := 0) HB.out hF hlt hl hd (by simp; omega))
    clear hd
    go_enter Try.func63, Try.ntmps63
    go_wp2
    go_ret
    exact ⟨A, _, rfl, R.out⟩
  · rw [if_neg hcn] at hd
    have R := Lib.hid (Rd.next (n := n) (c' := c - n) HB.out hF hlt hl hd (by simp; omega))
    clear hd
    go_enter Try.func63, Try.ntmps63
    go_wp2
    go_ret
    exact ⟨A, _, rfl, R.out⟩

end Go.Proofs.Ytgmjnjbmolalmaa
