/-
  The contracts of package check: what a table holds, and what a sum is. No statement is proved here.
-/
import Derived.Test.YthankjgebaanpaaMem
import Derived.Test.YthankjgebaanpaaCrc
import Derived.Test.YthankjgebaanpaaProg
import Derived.Laws.BitsAllLaws
import Derived.Laws.Rows
import Derived.Deep.WholeRow
import Derived.BigQuiet
import Derived.Deep.QuietTactic
import Derived.Outline
namespace Go.Proofs.Ythankjgebaanpaa
open Go.RowKit

/-- A word of 32 bits as a cell. -/
def uv (n : Nat) : Value := .int .u32 (n : Int)

theorem Kept.setRow {S : Nat → Prop} (w : World) {g : Nat} (hg : S g) (cs : Array Value) : Kept S w (w.setRow g cs) :=
  ⟨rfl, rfl, rfl, by simp, fun i _ hn => setRow_other w g i cs fun e => hn (e ▸ hg)⟩

/-- A new variable of many cells: its cells are not written out. -/
theorem wpList_alloc_row {P : Program} {ops : Array Oper} {rest : List Oper} {o : Oper} {a : Act} {w : World} {Q : Exit → Act → World → Prop} (hg : o.guard = none) (t : TypeId) (ho : o.op = .alloc t) (cs : Array Value)
    (hz : ((P.info? t).bind (·.zero)).map (·.cells) = some cs) (h : wpList P ops Q rest (a.put o.dst (.pointer (some ⟨w.heap.size, 0, none⟩))) (w.alloc (.cells cs t))) : wpList P ops Q (o :: rest) a w := by
  refine wpList_plain hg fun K hK => ?_
  cases hi : P.info? t with
  | none => simp [hi] at hz
  | some i =>
    cases hzz : i.zero with
    | none => simp [hi, hzz] at hz
    | some z =>
      simp [hi, hzz] at hz
      subst hz
      have hrun : (Instr.alloc t true (.tuple #[])).run P w = .ok (.pointer (some ⟨w.heap.size, 0, none⟩)) (w.alloc (.cells z.cells t)) := by simp [Instr.alloc, zeroValue, typeInfo, hi, hzz, newVar, newRow]
      unfold Oper.wp execOp
      simp only [ho, Sem.run_bind, hrun, Result.andThen_ok]
      exact hK _ _ h

/-- A whole row into the block that was made last. -/
theorem wpList_store_new {P : Program} {ops : Array Oper} {rest : List Oper} {o : Oper} {a : Act} {w : World} {Q : Exit → Act → World → Prop} (hgd : o.guard = none) (ty : TypeId) (x y : Operand) (ho : o.op = .store ty x y)
    (cells old : Array Value) (hx : a.eval x = .pointer (some ⟨w.heap.size, 0, none⟩)) (hy : a.eval y = .agg cells) (hi : (P.info? ty).map (·.size) = some cells.size) (hold : old.size = cells.size) (h1 : cells.all (·.oneCell') = true)
    (h : wpList P ops Q rest (a.put o.dst undef) (w.alloc (.cells cells ty))) : wpList P ops Q (o :: rest) a (w.alloc (.cells old ty)) := by
  refine wpList_store_row hgd ty x y ho _ cells hx hy ty old (heap_alloc_new _ _) hi hold h1 ?_
  rw [World.setRow_alloc_new]
  exact h

theorem and_one (n : Nat) (hn : n < 4294967296) : bits BinOp.and IntKind.u32 (n : Int) 1 = ((n % 2 : Nat) : Int) := by
  have := u32_and_nat n 1 hn (by omega)
  rw [nat_mask1] at this
  exact this
theorem stp_odd {n p : Nat} (hn : n < 4294967296) (hp : p < 4294967296) (h : (bits BinOp.and IntKind.u32 (n : Int) 1 == 1) = true) : bits BinOp.xor IntKind.u32 ((n : Int) / 2) (p : Int) = ((stp p n : Nat) : Int) := by
  rw [and_one n hn] at h
  have h2 : n % 2 = 1 := by have := of_decide_eq_true h; omega
  have e : (n : Int) / 2 = ((n / 2 : Nat) : Int) := by omega
  rw [e, u32_xor_nat _ _ (by omega) hp, stp, if_pos h2]
theorem stp_even {n p : Nat} (hn : n < 4294967296) (h : (bits BinOp.and IntKind.u32 (n : Int) 1 == 1) = false) : (n : Int) / 2 = ((stp p n : Nat) : Int) := by
  rw [and_one n hn] at h
  have h2 : ¬ n % 2 = 1 := by have := of_decide_eq_false h; omega
  rw [stp, if_neg h2, Nat.xor_zero]
  omega

theorem step_any (n p : Nat) (w : World) (hn : n < 4294967296) (hp : p < 4294967296) :
    Calls Try.prog 27 #[.int .u32 (n : Int), .int .u32 (p : Int)] w fun e w' => e = .returned (.int .u32 ((stp p n : Nat) : Int)) ∧ w = w' := by
  go_enter Try.func27, Try.ntmps27
  go_wp2
  · go_ret
    exact ⟨by rw [stp_odd hn hp (by assumption)]; rfl, rfl⟩
  · go_ret
    exact ⟨by rw [stp_even (p := p) hn (by assumption)]; rfl, rfl⟩

/-- The cells of a table of which the first k are made. -/
def tabk (p k : Nat) : Array Value := ((List.range 256).map fun j => uv (if j < k then stpN p 8 j else 0)).toArray
/-- The cells of a table. -/
def tab (p : Nat) : Array Value := tabk p 256
theorem tabk_size (p k : Nat) : (tabk p k).size = 256 := by simp [tabk]
theorem tabk_at (p k j : Nat) (hj : j < 256) : (tabk p k)[j]? = some (uv (if j < k then stpN p 8 j else 0)) := by simp [tabk, hj]
theorem tabk_next (p k : Nat) : (tabk p k).setIfInBounds k (uv (stpN p 8 k)) = tabk p (k + 1) := by
  apply Array.ext_getElem?
  intro i
  rw [Array.getElem?_setIfInBounds, tabk_size]
  by_cases hi : i < 256
  · rw [tabk_at p k i hi, tabk_at p (k + 1) i hi]
    by_cases h : k = i
    · subst h
      simp [hi]
    · rw [if_neg h]
      have : (i < k) = (i < k + 1) := by apply propext; omega
      simp only [this]
  · have e : ∀ k, (tabk p k)[i]? = none := fun k => by rw [Array.getElem?_eq_none]; rw [tabk_size]; omega
    rw [e, e]
    by_cases h : k = i
    · subst h
      simp [hi]
    · rw [if_neg h]
theorem tab_at (p j : Nat) (hj : j < 256) : (tab p)[j]? = some (uv (stpN p 8 j)) := by rw [tab, tabk_at p 256 j hj, if_pos hj]
theorem tab_size (p : Nat) : (tab p).size = 256 := tabk_size p 256
theorem tab_one (p : Nat) : (tab p).all (·.oneCell') = true := by
  rw [Array.all_eq_true_iff_forall_mem]
  intro v hv
  simp only [tab, tabk, List.mem_toArray, List.mem_map] at hv
  obtain ⟨j, _, rfl⟩ := hv
  rfl
theorem Try.zeroTable : ((Try.prog.info? 52).bind (·.zero)).map (·.cells) = some (tabk 0 0) := by kernel_rfl
theorem tabk_none (p : Nat) : tabk p 0 = tabk 0 0 := by simp [tabk]
theorem Try.sizeTable : (Try.prog.info? 52).map (·.size) = some 256 := by kernel_rfl
theorem tab_fits (p : Nat) : (Try.prog.info? 52).map (·.size) = some (tab p).size := by rw [tab_size]; exact Try.sizeTable
theorem tab_old (p : Nat) : (tabk 0 0).size = (tab p).size := (tabk_size 0 0).trans (tab_size p).symm
theorem tab_there (w : World) (p : Nat) : ∀ j, j < 256 → (w.alloc (.cells (tab p) 52)).cell? ⟨w.heap.size, j, none⟩ = some (uv (stpN p 8 j)) := fun j hj => by
  rw [cell_of_row _ _ _ _ _ _ (heap_alloc_new w _), tab_at p j hj]

set_option maxRecDepth 100000 in
set_option maxHeartbeats 400000 in
theorem of_any (p : Nat) (w : World) (hp : p < 4294967296) :
    Calls Try.prog 22 #[.int .u32 (p : Int)] w fun e w' => e = .returned (.agg (tab p)) ∧ Kept noBlock w w' := by
  have HP := Lib.hid hp; clear hp
  go_enter Try.func22, Try.ntmps22
  go_wp2_with (refine wpList_alloc_row rfl 52 rfl (tabk 0 0) Try.zeroTable ?_)
  have e0 := (tabk_none p).symm
  rw [e0]
  clear e0
  go_loopw [6] (fun i wr => ∃ k : Nat, k ≤ 256 ∧ i = .int .i64 k ∧ Kept noBlock w wr ∧ wr.heap[w.heap.size]? = some (.cells (tabk p 0) 52 (0, 0)) ∧ wr.heap[w.heap.size + 1]? = some (.cells (tabk p k) 52 (0, 0))) (fun i _ => 256 - (intOf i).toNat)
  case atStart => exact ⟨0, by omega, rfl, (Kept.alloc _ _ _).step (Kept.alloc _ _ _), heap_alloc2_old _ _ _, heap_alloc2_new _ _ _⟩
  case round =>
    obtain ⟨k, hk, rfl, hkept, h0, h1⟩ := hrel
    by_cases hlt : k < 256
    · have hc : wr.cell? ⟨w.heap.size + 1, k, none⟩ = some (uv 0) := by
        rw [cell_of_row _ _ _ _ _ _ h1, tabk_at p k k hlt, if_neg (by omega)]
      have hf : wr.frozen? ⟨w.heap.size + 1, k, none⟩ = false := frozen_of_row _ _ _ _ _ h1
      have H0 := Lib.hid h0; clear h0
      have H1 := Lib.hid h1; clear h1
      have hd : decide ((k : Int) < 256) = true := decide_eq_true (by omega)
      go_wp2
      go_loop [5, 11] (fun n i => ∃ j : Nat, j ≤ 8 ∧ i = .int .i64 j ∧ n = .int .u32 ((stpN p j k : Nat) : Int)) (fun _ i => 8 - (intOf i).toNat)
      case atStart => exact ⟨0, by omega, rfl, by simp [stpN]⟩
      case round =>
        obtain ⟨j, hj, rfl, rfl⟩ := hrel
        by_cases hj8 : j < 8
        · go_wp2_with fail
          refine (step_any (stpN p j k) p wr (stpN_lt HP.out (by omega) j) HP.out).mono ?_
          rintro e w1 ⟨rfl, rfl⟩
          go_wp2
          go_round
          case rel => exact ⟨j + 1, by omega, by go_num, rfl⟩
          case measure => simp [intOf]; omega
        · obtain rfl : j = 8 := by omega
          go_wp2
          go_roundw
          case rel =>
            refine ⟨k + 1, by omega, by go_num, hkept.trans (Kept.setCell (S := fun i => i = w.heap.size + 1) wr (by rfl) _) (fun i hi h => by omega), ?_, ?_⟩
            · rw [heap_setCell_other _ _ _ _ (by simp)]
              exact H0.out
            · rw [heap_setCell_same _ _ _ _ _ _ H1.out]
              exact congrArg (fun c => some (Obj.cells c 52 (0, 0))) (tabk_next p k)
          case measure => simp [intOf]; omega
    · obtain rfl : k = 256 := by omega
      have H0 := Lib.hid h0; clear h0
      have H1 := Lib.hid h1; clear h1
      have hsz : (Try.prog.info? 52).map (·.size) = some (tab p).size := by rw [tab_size]; exact Try.sizeTable
      have HS := Lib.hid hsz; clear hsz
      go_wp2_with (first | refine wpList_load_row rfl 52 _ rfl (w.heap.size + 1) rfl 52 (tab p) (0, 0) _ H1.out Try.underlying52 rfl HS.out ?_ | refine wpList_store_row rfl 52 _ _ rfl w.heap.size (tab p) rfl rfl 52 (tabk p 0) H0.out HS.out ((tabk_size p 0).trans (tab_size p).symm) (tab_one p) ?_)
      refine bodyPost_ret (v := .agg (tab p)) (results_cell_row rfl _ _ w.heap.size 52 (tab p) (0, 0) _ rfl (setRow_heap _ _ _ _ _ _ H0.out) Try.underlying52 rfl HS.out) rfl ?_
      exact ⟨rfl, hkept.trans (Kept.setRow (S := fun i => i = w.heap.size) wr (by rfl) _) (fun i hi h => by omega)⟩

theorem wrap_u8 (r : Nat) : IntKind.u8.wrap (r : Int) = ((r % 256 : Nat) : Int) := by rw [IntKind.wrap_u8']; omega

set_option maxRecDepth 100000 in
set_option maxHeartbeats 400000 in
theorem tsum_any (g p : Nat) (F : Nat → Prop) (a : Option Addr) (n c : Nat) (l : List UInt8) (w : World) (ht : ∀ j, j < 256 → w.cell? ⟨g, j, none⟩ = some (uv (stpN p 8 j))) (hp : p < 4294967296)
    (h : Lies w F a (l.map bv)) (hl : l.length = n) (hn : n ≤ 9223372036854775807) :
    Calls Try.prog 26 #[.pointer (some ⟨g, 0, none⟩), .slice a n c] w fun e w' => e = .returned (.int .u32 ((crc p l : Nat) : Int)) ∧ w = w' := by
  obtain rfl := hl
  have HP := Lib.hid hp; clear hp
  have HT := Lib.hid ht; clear ht
  go_enter Try.func26, Try.ntmps26
  go_wp2
  go_loop [5, 10] (fun r i => ∃ k : Nat, k ≤ l.length ∧ i = .int .i64 k ∧ r = .int .u32 ((run p (l.take k) 4294967295 : Nat) : Int)) (fun _ i => l.length - (intOf i).toNat)
  case atStart => exact ⟨0, by omega, rfl, by simp [run]⟩
  case round =>
    obtain ⟨k, hk, rfl, rfl⟩ := hrel
    obtain ⟨r, hr⟩ : ∃ r, r = run p (l.take k) 4294967295 := ⟨_, rfl⟩
    rw [← hr]
    have hr32 : r < 4294967296 := by rw [hr]; exact run_lt HP.out _ (by omega)
    have HR := Lib.hid hr32; clear hr32
    have HE := Lib.hid hr; clear hr
    by_cases hlt : k < l.length
    · obtain ⟨x, hx⟩ : ∃ x, l[k]? = some x := ⟨_, List.getElem?_eq_getElem hlt⟩
      obtain ⟨ad, rfl, _, hcell⟩ := h.at_ (k := k) (u := bv x) (by simp [hx])
      unfold bv at hcell
      have HX := Lib.hid hx; clear hx
      obtain ⟨ix, hix⟩ : ∃ ix, ix = x.toNat ^^^ r % 256 := ⟨_, rfl⟩
      have hxr : bits BinOp.xor IntKind.u8 (x.toNat : Int) ((r : Int) % 256) = (ix : Int) := by
        have := u8_xor_nat x.toNat (r % 256) x.toNat_lt (by omega)
        rw [← hix] at this
        rw [← this]
        rfl
      have hi256 : ix < 256 := by rw [hix]; exact Nat.xor_lt_two_pow (n := 8) x.toNat_lt (by omega)
      have hc := HT.out _ hi256
      unfold uv at hc
      have HI := Lib.hid hix; clear hix
      go_wp2
      go_round
      case rel =>
        refine ⟨k + 1, by omega, by go_num, ?_⟩
        have e1 := u32_xor_nat (stpN p 8 ix) (r / 256) (stpN_lt HP.out (by omega) 8) (by have := HR.out; omega)
        rw [HI.out, upd_table p r x.toNat, HE.out, ← run_snoc, ← take_snoc l k x HX.out, ← HE.out, ← HI.out] at e1
        rw [← e1]
        rfl
      case measure => simp [intOf]; omega
    · obtain rfl : k = l.length := by omega
      go_wp2
      go_ret
      refine ⟨?_, rfl⟩
      have e1 := u32_xor_nat 4294967295 r (by omega) HR.out
      have e2 : 4294967295 ^^^ r = crc p l := by rw [HE.out, List.take_length, Nat.xor_comm]; rfl
      rw [e2] at e1
      rw [← e1]
      rfl

set_option maxHeartbeats 400000 in
theorem sum_any (F : Nat → Prop) (a : Option Addr) (n c : Nat) (l : List UInt8) (w : World) (h : Lies w F a (l.map bv)) (hl : l.length = n) (hn : n ≤ 9223372036854775807) :
    Calls Try.prog 20 #[.slice a n c] w fun e w' => e = .returned (.int .u32 ((crc 3988292384 l : Nat) : Int)) ∧ Kept noBlock w w' := by
  go_enter Try.func20, Try.ntmps20
  go_wp2_with fail
  refine (of_any 3988292384 w (by decide)).mono ?_
  rintro e w1 ⟨rfl, k1⟩
  go_wp2_with (first | refine wpList_alloc_row rfl 52 rfl (tabk 0 0) Try.zeroTable ?_ | refine wpList_store_new rfl 52 _ _ rfl (tab 3988292384) (tabk 0 0) rfl rfl (tab_fits _) (tab_old _) (tab_one _) ?_)
  have k2 := k1.step (Kept.alloc noBlock w1 (.cells (tab 3988292384) 52))
  refine (tsum_any _ 3988292384 F a n c l _ (tab_there w1 3988292384) (by decide) (h.keep k2 (fun _ _ h => h)) hl hn).mono ?_
  rintro e w2 ⟨rfl, rfl⟩
  go_wp2
  go_ret
  exact ⟨rfl, k2⟩

end Go.Proofs.Ythankjgebaanpaa
