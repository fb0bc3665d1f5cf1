/-
  Several texts, one behind the other. No statement is proved here.
-/
import Derived.Test.YtjijdkdpmbfdmaaMem
import Derived.Test.YtjijdkdpmbfdmaaCrcK
import Derived.Test.YtjijdkdpmbfdmaaProg
import Derived.Laws.BitsAllLaws
import Derived.Laws.Rows
import Derived.Deep.WholeRow
import Derived.BigQuiet
import Derived.Deep.QuietTactic
import Derived.Outline
import Derived.Test.YtjijdkdpmbfdmaaSayK
import Derived.Lib.SliceRun
import Derived.Laws.MakeOwn
import Derived.Laws.OwnMore
import Derived.Deep.DeepCutAuto
import Derived.RangeFuncNested
import Derived.RangeFuncLeaves
import Derived.ControlIn
import Derived.OwnWalkIn
import Derived.TacticsInMore
import Derived.LoopNIn
import Derived.LoopIn
/-
  The contracts of package check: what a table holds, and what a sum is. No statement is proved here.
-/
namespace Go.Proofs.Ytjijdkdpmbfdmaa
open Go.RowKit

/-- A word of 32 bits as a cell. -/
def uv (n : Nat) : Value := .int .u32 (n : Int)

theorem Kept.setRow {S : Nat → Prop} (w : World) {g : Nat} (hg : S g) (cs : Array Value) : Kept S w (w.setRow g cs) :=
  ⟨rfl, rfl, rfl, by simp, fun i _ hn => setRow_other w g i cs fun e => hn (e ▸ hg)⟩

/-- A new variable of many cells: its cells are not written out. -/
theorem wpList_alloc_row {P : Program} {ops : Array Oper} {rest : List Oper} {o : Oper} {a : Act} {w : World} {Q : Exit → Act → World → Prop} (hg : o.guard = none) (t : TypeId) (ho : o.op = .alloc t) (cs : Array Value)
    (hz : ((P.info? t).bind (·.zero)).map (·.cells) = some cs) (h : wpList P ops Q rest (a.put o.dst (.pointer (some ⟨w.heap.size, 0, none⟩))) (w.alloc (.cells cs t))) : wpList P ops Q (o :: rest) a w := by
  refine wpList_plain hg fun K hK => ?_
  cases hi : P.info? t with
  | none => simp [hi] at hz
  | some i =>
    cases hzz : i.zero with
    | none => simp [hi, hzz] at hz
    | some z =>
      simp [hi, hzz] at hz
      subst hz
      have hrun : (Instr.alloc t true (.tuple #[])).run P w = .ok (.pointer (some ⟨w.heap.size, 0, none⟩)) (w.alloc (.cells z.cells t)) := by simp [Instr.alloc, zeroValue, typeInfo, hi, hzz, newVar, newRow]
      unfold Oper.wp execOp
      simp only [ho, Sem.run_bind, hrun, Result.andThen_ok]
      exact hK _ _ h

/-- A whole row into the block that was made last. -/
theorem wpList_store_new {P : Program} {ops : Array Oper} {rest : List Oper} {o : Oper} {a : Act} {w : World} {Q : Exit → Act → World → Prop} (hgd : o.guard = none) (ty : TypeId) (x y : Operand) (ho : o.op = .store ty x y)
    (cells old : Array Value) (hx : a.eval x = .pointer (some ⟨w.heap.size, 0, none⟩)) (hy : a.eval y = .agg cells) (hi : (P.info? ty).map (·.size) = some cells.size) (hold : old.size = cells.size) (h1 : cells.all (·.oneCell') = true)
    (h : wpList P ops Q rest (a.put o.dst undef) (w.alloc (.cells cells ty))) : wpList P ops Q (o :: rest) a (w.alloc (.cells old ty)) := by
  refine wpList_store_row hgd ty x y ho _ cells hx hy ty old (heap_alloc_new _ _) hi hold h1 ?_
  rw [World.setRow_alloc_new]
  exact h

theorem and_one (n : Nat) (hn : n < 4294967296) : bits BinOp.and IntKind.u32 (n : Int) 1 = ((n % 2 : Nat) : Int) := by
  have := u32_and_nat n 1 hn (by omega)
  rw [nat_mask1] at this
  exact this
theorem stp_odd {n p : Nat} (hn : n < 4294967296) (hp : p < 4294967296) (h : (bits BinOp.and IntKind.u32 (n : Int) 1 == 1) = true) : bits BinOp.xor IntKind.u32 ((n : Int) / 2) (p : Int) = ((stp p n : Nat) : Int) := by
  rw [and_one n hn] at h
  have h2 : n % 2 = 1 := by have := of_decide_eq_true h; omega
  have e : (n : Int) / 2 = ((n / 2 : Nat) : Int) := by omega
  rw [e, u32_xor_nat _ _ (by omega) hp, stp, if_pos h2]
theorem stp_even {n p : Nat} (hn : n < 4294967296) (h : (bits BinOp.and IntKind.u32 (n : Int) 1 == 1) = false) : (n : Int) / 2 = ((stp p n : Nat) : Int) := by
  rw [and_one n hn] at h
  have h2 : ¬ n % 2 = 1 := by have := of_decide_eq_false h; omega
  rw [stp, if_neg h2, Nat.xor_zero]
  omega

theorem cstep_any (n p : Nat) (w : World) (hn : n < 4294967296) (hp : p < 4294967296) :
    Calls Try.prog 61 #[.int .u32 (n : Int), .int .u32 (p : Int)] w fun e w' => e = .returned (.int .u32 ((stp p n : Nat) : Int)) ∧ w = w' := by
  go_enter Try.func61, Try.ntmps61
  go_wp2
  · go_ret
    exact ⟨by rw [stp_odd hn hp (by assumption)]; rfl, rfl⟩
  · go_ret
    exact ⟨by rw [stp_even (p := p) hn (by assumption)]; rfl, rfl⟩

/-- The cells of a table of which the first k are made. -/
def tabk (p k : Nat) : Array Value := ((List.range 256).map fun j => uv (if j < k then stpN p 8 j else 0)).toArray
/-- The cells of a table. -/
def tab (p : Nat) : Array Value := tabk p 256
theorem tabk_size (p k : Nat) : (tabk p k).size = 256 := by simp [tabk]
theorem tabk_at (p k j : Nat) (hj : j < 256) : (tabk p k)[j]? = some (uv (if j < k then stpN p 8 j else 0)) := by simp [tabk, hj]
theorem tabk_next (p k : Nat) : (tabk p k).setIfInBounds k (uv (stpN p 8 k)) = tabk p (k + 1) := by
  apply Array.ext_getElem?
  intro i
  rw [Array.getElem?_setIfInBounds, tabk_size]
  by_cases hi : i < 256
  · rw [tabk_at p k i hi, tabk_at p (k + 1) i hi]
    by_cases h : k = i
    · subst h
      simp [hi]
    · rw [if_neg h]
      have : (i < k) = (i < k + 1) := by apply propext; omega
      simp only [this]
  · have e : ∀ k, (tabk p k)[i]? = none := fun k => by rw [Array.getElem?_eq_none]; rw [tabk_size]; omega
    rw [e, e]
    by_cases h : k = i
    · subst h
      simp [hi]
    · rw [if_neg h]
theorem tab_at (p j : Nat) (hj : j < 256) : (tab p)[j]? = some (uv (stpN p 8 j)) := by rw [tab, tabk_at p 256 j hj, if_pos hj]
theorem tab_size (p : Nat) : (tab p).size = 256 := tabk_size p 256
theorem tab_one (p : Nat) : (tab p).all (·.oneCell') = true := by
  rw [Array.all_eq_true_iff_forall_mem]
  intro v hv
  simp only [tab, tabk, List.mem_toArray, List.mem_map] at hv
  obtain ⟨j, _, rfl⟩ := hv
  rfl
theorem Try.zeroTable : ((Try.prog.info? 104).bind (·.zero)).map (·.cells) = some (tabk 0 0) := by kernel_rfl
theorem tabk_none (p : Nat) : tabk p 0 = tabk 0 0 := by simp [tabk]
theorem Try.sizeTable : (Try.prog.info? 104).map (·.size) = some 256 := by kernel_rfl
theorem tab_fits (p : Nat) : (Try.prog.info? 104).map (·.size) = some (tab p).size := by rw [tab_size]; exact Try.sizeTable
theorem tab_old (p : Nat) : (tabk 0 0).size = (tab p).size := (tabk_size 0 0).trans (tab_size p).symm
theorem tab_there (w : World) (p : Nat) : ∀ j, j < 256 → (w.alloc (.cells (tab p) 104)).cell? ⟨w.heap.size, j, none⟩ = some (uv (stpN p 8 j)) := fun j hj => by
  rw [cell_of_row _ _ _ _ _ _ (heap_alloc_new w _), tab_at p j hj]

set_option maxRecDepth 100000 in
set_option maxHeartbeats 400000 in
theorem tof_any (p : Nat) (w : World) (hp : p < 4294967296) :
    Calls Try.prog 50 #[.int .u32 (p : Int)] w fun e w' => e = .returned (.agg (tab p)) ∧ Kept noBlock w w' := by
  have HP := Lib.hid hp; clear hp
  go_enter Try.func50, Try.ntmps50
  go_wp2_with (refine wpList_alloc_row rfl 104 rfl (tabk 0 0) Try.zeroTable ?_)
  have e0 := (tabk_none p).symm
  rw [e0]
  clear e0
  go_loopw [6] (fun i wr => ∃ k : Nat, k ≤ 256 ∧ i = .int .i64 k ∧ Kept noBlock w wr ∧ wr.heap[w.heap.size]? = some (.cells (tabk p 0) 104 (0, 0)) ∧ wr.heap[w.heap.size + 1]? = some (.cells (tabk p k) 104 (0, 0))) (fun i _ => 256 - (intOf i).toNat)
  case atStart => exact ⟨0, by omega, rfl, (Kept.alloc _ _ _).step (Kept.alloc _ _ _), heap_alloc2_old _ _ _, heap_alloc2_new _ _ _⟩
  case round =>
    obtain ⟨k, hk, rfl, hkept, h0, h1⟩ := hrel
    by_cases hlt : k < 256
    · have hc : wr.cell? ⟨w.heap.size + 1, k, none⟩ = some (uv 0) := by
        rw [cell_of_row _ _ _ _ _ _ h1, tabk_at p k k hlt, if_neg (by omega)]
      have hf : wr.frozen? ⟨w.heap.size + 1, k, none⟩ = false := frozen_of_row _ _ _ _ _ h1
      have H0 := Lib.hid h0; clear h0
      have H1 := Lib.hid h1; clear h1
      have hd : decide ((k : Int) < 256) = true := decide_eq_true (by omega)
      go_wp2
      go_loop [5, 11] (fun n i => ∃ j : Nat, j ≤ 8 ∧ i = .int .i64 j ∧ n = .int .u32 ((stpN p j k : Nat) : Int)) (fun _ i => 8 - (intOf i).toNat)
      case atStart => exact ⟨0, by omega, rfl, by simp [stpN]⟩
      case round =>
        obtain ⟨j, hj, rfl, rfl⟩ := hrel
        by_cases hj8 : j < 8
        · go_wp2_with fail
          refine (cstep_any (stpN p j k) p wr (stpN_lt HP.out (by omega) j) HP.out).mono ?_
          rintro e w1 ⟨rfl, rfl⟩
          go_wp2
          go_round
          case rel => exact ⟨j + 1, by omega, by go_num, rfl⟩
          case measure => simp [intOf]; omega
        · obtain rfl : j = 8 := by omega
          go_wp2
          go_roundw
          case rel =>
            refine ⟨k + 1, by omega, by go_num, hkept.trans (Kept.setCell (S := fun i => i = w.heap.size + 1) wr (by rfl) _) (fun i hi h => by omega), ?_, ?_⟩
            · rw [heap_setCell_other _ _ _ _ (by simp)]
              exact H0.out
            · rw [heap_setCell_same _ _ _ _ _ _ H1.out]
              exact congrArg (fun c => some (Obj.cells c 104 (0, 0))) (tabk_next p k)
          case measure => simp [intOf]; omega
    · obtain rfl : k = 256 := by omega
      have H0 := Lib.hid h0; clear h0
      have H1 := Lib.hid h1; clear h1
      have hsz : (Try.prog.info? 104).map (·.size) = some (tab p).size := by rw [tab_size]; exact Try.sizeTable
      have HS := Lib.hid hsz; clear hsz
      go_wp2_with (first | refine wpList_load_row rfl 104 _ rfl (w.heap.size + 1) rfl 104 (tab p) (0, 0) _ H1.out Try.underlying104 rfl HS.out ?_ | refine wpList_store_row rfl 104 _ _ rfl w.heap.size (tab p) rfl rfl 104 (tabk p 0) H0.out HS.out ((tabk_size p 0).trans (tab_size p).symm) (tab_one p) ?_)
      refine bodyPost_ret (v := .agg (tab p)) (results_cell_row rfl _ _ w.heap.size 104 (tab p) (0, 0) _ rfl (setRow_heap _ _ _ _ _ _ H0.out) Try.underlying104 rfl HS.out) rfl ?_
      exact ⟨rfl, hkept.trans (Kept.setRow (S := fun i => i = w.heap.size) wr (by rfl) _) (fun i hi h => by omega)⟩

theorem wrap_u8 (r : Nat) : IntKind.u8.wrap (r : Int) = ((r % 256 : Nat) : Int) := by rw [IntKind.wrap_u8']; omega

set_option maxRecDepth 100000 in
set_option maxHeartbeats 400000 in
theorem tsum_any (g p : Nat) (F : Nat → Prop) (a : Option Addr) (n c : Nat) (l : List UInt8) (w : World) (ht : ∀ j, j < 256 → w.cell? ⟨g, j, none⟩ = some (uv (stpN p 8 j))) (hp : p < 4294967296)
    (h : Lies w F a (l.map bv)) (hl : l.length = n) (hn : n ≤ 9223372036854775807) :
    Calls Try.prog 51 #[.pointer (some ⟨g, 0, none⟩), .slice a n c] w fun e w' => e = .returned (.int .u32 ((crc p l : Nat) : Int)) ∧ w = w' := by
  obtain rfl := hl
  have HP := Lib.hid hp; clear hp
  have HT := Lib.hid ht; clear ht
  go_enter Try.func51, Try.ntmps51
  go_wp2
  go_loop [5, 10] (fun r i => ∃ k : Nat, k ≤ l.length ∧ i = .int .i64 k ∧ r = .int .u32 ((run p (l.take k) 4294967295 : Nat) : Int)) (fun _ i => l.length - (intOf i).toNat)
  case atStart => exact ⟨0, by omega, rfl, by simp [run]⟩
  case round =>
    obtain ⟨k, hk, rfl, rfl⟩ := hrel
    obtain ⟨r, hr⟩ : ∃ r, r = run p (l.take k) 4294967295 := ⟨_, rfl⟩
    rw [← hr]
    have hr32 : r < 4294967296 := by rw [hr]; exact run_lt HP.out _ (by omega)
    have HR := Lib.hid hr32; clear hr32
    have HE := Lib.hid hr; clear hr
    by_cases hlt : k < l.length
    · obtain ⟨x, hx⟩ : ∃ x, l[k]? = some x := ⟨_, List.getElem?_eq_getElem hlt⟩
      obtain ⟨ad, rfl, _, hcell⟩ := h.at_ (k := k) (u := bv x) (by simp [hx])
      unfold bv at hcell
      have HX := Lib.hid hx; clear hx
      obtain ⟨ix, hix⟩ : ∃ ix, ix = x.toNat ^^^ r % 256 := ⟨_, rfl⟩
      have hxr : bits BinOp.xor IntKind.u8 (x.toNat : Int) ((r : Int) % 256) = (ix : Int) := by
        have := u8_xor_nat x.toNat (r % 256) x.toNat_lt (by omega)
        rw [← hix] at this
        rw [← this]
        rfl
      have hi256 : ix < 256 := by rw [hix]; exact Nat.xor_lt_two_pow (n := 8) x.toNat_lt (by omega)
      have hc := HT.out _ hi256
      unfold uv at hc
      have HI := Lib.hid hix; clear hix
      go_wp2
      go_round
      case rel =>
        refine ⟨k + 1, by omega, by go_num, ?_⟩
        have e1 := u32_xor_nat (stpN p 8 ix) (r / 256) (stpN_lt HP.out (by omega) 8) (by have := HR.out; omega)
        rw [HI.out, upd_table p r x.toNat, HE.out, ← run_snoc, ← take_snoc l k x HX.out, ← HE.out, ← HI.out] at e1
        rw [← e1]
        rfl
      case measure => simp [intOf]; omega
    · obtain rfl : k = l.length := by omega
      go_wp2
      go_ret
      refine ⟨?_, rfl⟩
      have e1 := u32_xor_nat 4294967295 r (by omega) HR.out
      have e2 : 4294967295 ^^^ r = crc p l := by rw [HE.out, List.take_length, Nat.xor_comm]; rfl
      rw [e2] at e1
      rw [← e1]
      rfl

set_option maxRecDepth 100000 in
set_option maxHeartbeats 400000 in
theorem sum_any (F : Nat → Prop) (a : Option Addr) (n c : Nat) (l : List UInt8) (w : World) (h : Lies w F a (l.map bv)) (hl : l.length = n) (hn : n ≤ 9223372036854775807) :
    Calls Try.prog 31 #[.slice a n c] w fun e w' => e = .returned (.int .u32 ((crc 3988292384 l : Nat) : Int)) ∧ Kept noBlock w w' := by
  go_enter Try.func31, Try.ntmps31
  go_wp2_with fail
  refine (tof_any 3988292384 w (by decide)).mono ?_
  rintro e w1 ⟨rfl, k1⟩
  go_wp2_with (first | refine wpList_alloc_row rfl 104 rfl (tabk 0 0) Try.zeroTable ?_ | refine wpList_store_new rfl 104 _ _ rfl (tab 3988292384) (tabk 0 0) rfl rfl (tab_fits _) (tab_old _) (tab_one _) ?_)
  have k2 := k1.step (Kept.alloc noBlock w1 (.cells (tab 3988292384) 104))
  refine (tsum_any _ 3988292384 F a n c l _ (tab_there w1 3988292384) (by decide) (h.keep k2 (fun _ _ h => h)) hl hn).mono ?_
  rintro e w2 ⟨rfl, rfl⟩
  go_wp2
  go_ret
  exact ⟨rfl, k2⟩

end Go.Proofs.Ytjijdkdpmbfdmaa

/-
  The contracts of package frame, first part: words, and copies of bytes. No statement is proved here.
-/
namespace Go.Proofs.Ytjijdkdpmbfdmaa
open Go.RowKit

theorem Try.infoU8f : (Try.prog.info? 5).map (fun i => (i.zero, i.size, i.bytes)) = some (some (.int .u8 0), 1, 1) := by kernel_rfl

theorem made_cells (z : Value) (hz : z.cells = #[z]) (n : Nat) : (madeCells z.cells n).toList = List.replicate n z := by
  unfold madeCells
  rw [hz]
  refine List.ext_getElem (by simp) fun i h1 h2 => ?_
  simp [Nat.mod_one]

/-- A row that is made: its cells are not written out. -/
theorem wpList_make {P : Program} {ops : Array Oper} {rest : List Oper} {o : Oper} {a : Act} {w : World} {Q : Exit → Act → World → Prop} (hgd : o.guard = none) (t e : TypeId) (x y : Operand) (ho : o.op = .makeSlice t x y) (z : Value)
    (ht : P.underlying t = some (.slice e)) (hinfo : (P.info? e).map (fun i => (i.zero, i.size, i.bytes)) = some (some z, 1, 1)) (hz1 : z.cells = #[z]) (kl kc : IntKind) (l c : Nat) (hx : a.eval x = .int kl (l : Int)) (hy : a.eval y = .int kc (c : Int)) (hlc : l ≤ c)
    (hc : c ≤ 140737488355328)
    (h : ∀ w', w'.ownsRow w.heap.size e 1 (.slice (some ⟨w.heap.size, 0, none⟩) l c) l (List.replicate l z) → Kept noBlock w w' → w.heap.size < w'.heap.size → wpList P ops Q rest (a.put o.dst (.slice (some ⟨w.heap.size, 0, none⟩) l c)) w') : wpList P ops Q (o :: rest) a w := by
  refine wpList_plain hgd fun K hK => ?_
  obtain ⟨i, hi, hz, h1, h2⟩ := info_parts hinfo
  have hr := run_make (P := P) w t e i z ht hi hz kl kc (l : Int) (c : Int) (by omega) (by omega) (by rw [h2]; omega) (by omega)
  rw [h1, Nat.mul_one, Int.toNat_natCast, Int.toNat_natCast] at hr
  unfold Oper.wp execOp
  simp only [ho, hx, hy, Sem.run_bind, hr, Result.andThen_ok]
  refine hK _ _ (h _ ⟨by simp, .inr ⟨w.heap.size, c, _, rfl, Nat.le_refl _, heap_alloc_new w _, hlc, by unfold maxLen; omega, by rw [size_madeCells]; omega, ?_⟩⟩ (Kept.alloc _ _ _) (by simp))
  rw [made_cells z hz1, List.take_replicate]
  congr 1
  omega

set_option maxHeartbeats 400000 in
theorem bclone_any (F : Nat → Prop) (a : Option Addr) (n c : Nat) (l : List UInt8) (w : World) (h : Lies w F a (l.map bv)) (hl : l.length = n) (hx : n ≤ 200000000000000) :
    Calls Try.prog 53 #[.slice a n c] w fun e w' => ∃ A c', e = .returned (.slice A n c') ∧ w'.ownsRow w.heap.size 5 1 (.slice A n c') n (l.map bv) ∧ Kept noBlock w w' := by
  have hq : ∀ (w : World) (a : Option Addr) (n c n' c' : Nat), (binOp .eql 28 (.slice a n c) (.slice none n' c')).run Try.prog w = .ok (.bool a.isNone) w := fun w a n c n' c' => Lib.run_eql_slice_nil w _ _ a n c n' c' Try.underlying28
  cases a with
  | none =>
    obtain rfl : l = [] := by
      cases l with
      | nil => rfl
      | cons x r => obtain ⟨ad, h, _⟩ := h (by simp); cases h
    obtain rfl : n = 0 := hl.symm
    go_enter Try.func53, Try.ntmps53
    go_wp2
    go_ret
    exact ⟨none, 0, rfl, World.ownsRow_nil _ _ _ _, Kept.refl _ _⟩
  | some ad =>
    have hsrc : Src Try.prog 1 28 (.slice (some ad) n c) n (l.map bv) (w.alloc (.cells #[] 5)) :=
      src_lies Try.underlying28 (h.keep (Kept.alloc noBlock w _) (fun _ _ h => h)) (by simpa using hl) (bv_one l)
    have hown : (w.alloc (.cells #[] 5)).ownsRow 0 5 1 (.slice (some ⟨w.heap.size, 0, none⟩) 0 0) 0 [] := World.ownsRow_made w #[] 0 (Nat.zero_le _) (Nat.zero_le _) rfl
    go_enter Try.func53, Try.ntmps53
    go_wp2_with (at_builtin; refine wpList_append_src rfl (.tmp 5) (.tmp 6) 28 28 rfl 5 (.int .u8 0) 1 1 Try.underlying28 Try.infoU8f rfl _ 0 [] rfl hown _ n (l.map bv) rfl hsrc ?c3 ?c4 ?_)
    case c3 => unfold maxLen; omega
    case c4 => omega
    intro A' c' w1 hown1 k1 hat
    have R := Lib.hid hown1
    have k2 : Kept noBlock w w1 := (Kept.alloc noBlock w _).trans k1 (fun i hi h => by simp [Value.ownBlock] at h; omega)
    have hb2 : ∀ k, (Value.slice A' n c').ownBlock = some k → w.heap.size ≤ k := fun k hk => by
      rcases hat k hk with h | h
      · simp [Value.ownBlock] at h; omega
      · have := h.1; simp at this; omega
    clear hown1 hat k1
    go_wp2
    go_ret
    refine ⟨A', c', by simp, ?_, k2⟩
    have := own_base R.out hb2
    simpa using this

theorem be4_take (v k : Nat) (hk : k < 4) : (be4 v).take (k + 1) = (be4 v).take k ++ [hiByte v k] := by
  match k, hk with
  | 0, _ => rfl
  | 1, _ => rfl
  | 2, _ => rfl
  | 3, _ => rfl

set_option maxRecDepth 100000 in
set_option maxHeartbeats 1000000 in
theorem aword_any (A : Option Addr) (n c : Nat) (xs : List UInt8) (v : Nat) (w : World) (h : w.ownsRow 0 5 1 (.slice A n c) n (xs.map bv)) (hv : v < 4294967296) (hn : n + 4 ≤ 140737488355328) :
    Calls Try.prog 30 #[.slice A n c, .int .u32 (v : Int)] w fun e w' => ∃ A' c', e = .returned (.slice A' (n + 4) c') ∧ w'.ownsRow 0 5 1 (.slice A' (n + 4) c') (n + 4) ((xs ++ be4 v).map bv) ∧ Grew w w' (.slice A n c) (.slice A' (n + 4) c') := by
  have HV := Lib.hid hv; clear hv
  have H := Lib.hid h; clear h
  go_enter Try.func30, Try.ntmps30
  go_wp2
  go_loopw [0, 5] (fun b s wr => ∃ (k : Nat) (A' : Option Addr) (c' m : Nat) (ys : List UInt8), k ≤ 4 ∧ m = n + k ∧ b = .slice A' m c' ∧ s = .int .i64 (24 - 8 * (k : Int)) ∧ Hid (ys = xs ++ (be4 v).take k) ∧ Hid (wr.ownsRow 0 5 1 (.slice A' m c') m (ys.map bv)) ∧ Hid (Grew w wr (.slice A n c) (.slice A' m c'))) (fun _ s _ => (intOf s + 8).toNat)
  case atStart => exact ⟨0, A, c, n, xs, by omega, rfl, rfl, rfl, Lib.hid (by simp), H, Lib.hid (Grew.refl _ _)⟩
  case round =>
    obtain ⟨k, A', c', m, ys, hk, hm, rfl, rfl, HY, HO, HG⟩ := hrel
    have HM := Lib.hid hm
    have hm1 : m ≤ n + 4 := by omega
    have hm2 : k < 4 → m + 1 ≤ 140737488355328 := by omega
    clear hm
    by_cases hlt : k < 4
    · obtain ⟨s8, hs8⟩ : ∃ s8, s8 = 24 - 8 * k := ⟨_, rfl⟩
      have e8 : (24 - 8 * (k : Int)) = (s8 : Int) := by omega
      rw [e8]
      have hs32 : s8 < 32 := by omega
      have hb : IntKind.u8.wrap ((v : Int) / 2 ^ s8) = ((hiByte v k).toNat : Int) := by
        have e1 : (v : Int) / 2 ^ s8 = ((v / 2 ^ s8 : Nat) : Int) := by simp
        rw [e1, wrap_u8, hiByte_toNat, ← hs8]
      have H8 := Lib.hid hs8; clear hs8
      have E8 := Lib.hid e8; clear e8
      go_wp2_with (at_builtin; refine wpList_append_src rfl _ _ 28 28 rfl 5 (.int .u8 0) 1 1 Try.underlying28 Try.infoU8f rfl (.slice A' m c') m (ys.map bv) rfl (HO.out.alloc _) _ 1 [bv (hiByte v k)] rfl (src_new Try.underlying28 _ rfl (heap_alloc_new _ _)) ?c3 ?c4 ?_)
      case c3 => unfold maxLen; have := hm2 hlt; omega
      case c4 => have := hm2 hlt; omega
      intro A2 c2 w1 hown1 k1 hat
      have G2 : Grew wr w1 (.slice A' m c') (.slice A2 (m + 1) c2) := Grew.after (Kept.alloc noBlock wr _) ⟨k1, hat⟩
      have O2 := Lib.hid hown1
      have GG := Lib.hid (HG.out.trans G2)
      clear hown1 hat k1 G2
      go_wp2
      go_roundw
      case rel =>
        refine ⟨k + 1, A2, c2, m + 1, ys ++ [hiByte v k], by omega, by have := HM.out; omega, rfl, by have := E8.out; go_num, Lib.hid ?_, Lib.hid ?_, GG⟩
        · rw [HY.out, be4_take v k hlt, List.append_assoc]
        · rw [List.map_append]; exact O2.out
      case measure => have := E8.out; simp [intOf]; omega
    · obtain rfl : k = 4 := by omega
      obtain rfl : m = n + 4 := HM.out
      go_wp2
      go_ret
      have e := HY.out
      rw [List.take_of_length_le (by rw [be4_length]; omega)] at e
      subst e
      exact ⟨A', c', rfl, by simpa using HO.out, HG.out⟩

theorem wrd_take_lt {l : List UInt8} {k : Nat} (hk : k ≤ 4) (hl : 4 ≤ l.length) : wrd (l.take k) < 2 ^ (8 * k) := by
  match k, hk with
  | 0, _ => simp [wrd]
  | k + 1, hk =>
    obtain ⟨x, hx⟩ : ∃ x, l[k]? = some x := ⟨_, List.getElem?_eq_getElem (by omega)⟩
    rw [take_snoc l k x hx, wrd_snoc]
    have ih := wrd_take_lt (l := l) (k := k) (by omega) hl
    have := x.toNat_lt
    rw [show 8 * (k + 1) = 8 * k + 8 by omega, Nat.pow_add]
    omega

set_option maxRecDepth 100000 in
set_option maxHeartbeats 1000000 in
theorem word_any (F : Nat → Prop) (a : Option Addr) (n c : Nat) (l : List UInt8) (w : World) (h : Lies w F a (l.map bv)) (hl : l.length = n) (h4 : 4 ≤ n) (hc : n ≤ c) :
    Calls Try.prog 62 #[.slice a n c] w fun e w' => e = .returned (.int .u32 ((wrd (l.take 4) : Nat) : Int)) ∧ w = w' := by
  have hl4 : 4 ≤ l.length := by omega
  go_enter Try.func62, Try.ntmps62
  go_wp2
  go_loop [3, 9] (fun r i => ∃ k : Nat, k ≤ 4 ∧ i = .int .i64 k ∧ r = .int .u32 ((wrd (l.take k) : Nat) : Int)) (fun _ i => 4 - (intOf i).toNat)
  case atStart => exact ⟨0, by omega, rfl, rfl⟩
  case round =>
    obtain ⟨k, hk, rfl, rfl⟩ := hrel
    obtain ⟨r, hr⟩ : ∃ r, r = wrd (l.take k) := ⟨_, rfl⟩
    rw [← hr]
    by_cases hlt : k < 4
    · obtain ⟨x, hx⟩ : ∃ x, l[k]? = some x := ⟨_, List.getElem?_eq_getElem (by omega)⟩
      obtain ⟨ad, rfl, _, hcell⟩ := h.at_ (k := k) (u := bv x) (by simp [hx])
      unfold bv at hcell
      have hr24 : r < 16777216 := by
        have h1 := wrd_take_lt (l := l) (k := k) (by omega) hl4
        rw [← hr] at h1
        refine Nat.lt_of_lt_of_le h1 ?_
        exact Nat.pow_le_pow_right (n := 2) (i := 8 * k) (j := 24) (by omega) (by omega)
      have HX := Lib.hid hx; clear hx
      have HR := Lib.hid hr; clear hr
      go_wp2
      go_round
      case rel =>
        refine ⟨k + 1, by omega, by go_num, ?_⟩
        rw [take_snoc l k x HX.out, wrd_snoc, ← HR.out]
        have ho := u32_or_nat (r * 256) x.toNat (by omega) (by have := x.toNat_lt; omega)
        have he : (r * 256) ||| x.toNat = r * 256 + x.toNat := by
          have := Nat.two_pow_add_eq_or_of_lt (i := 8) (b := x.toNat) x.toNat_lt r
          rw [show (2 : Nat) ^ 8 = 256 from rfl, Nat.mul_comm 256 r] at this
          exact this.symm
        have hx : (x.toNat : Int) % 4294967296 = (x.toNat : Int) := by have := x.toNat_lt; omega
        rw [he] at ho
        rw [hx, ← ho]
        rfl
      case measure => simp [intOf]; omega
    · obtain rfl : k = 4 := by omega
      go_wp2
      go_ret
      exact ⟨rfl, rfl⟩

end Go.Proofs.Ytjijdkdpmbfdmaa

/-
  The contracts of package frame, second part: Make, One. No statement is proved here.
-/
namespace Go.Proofs.Ytjijdkdpmbfdmaa
open Go.RowKit

theorem Lies.behind {w : World} {F : Nat → Prop} {b o : Nat} {xs : List Value} (h : Lies w F (some ⟨b, o, none⟩) xs) (k : Nat) : Lies w F (some ⟨b, o + k, none⟩) (xs.drop k) := fun hx => by
  obtain ⟨ad, e, hf, hc⟩ := h (by rintro rfl; simp at hx)
  injection e with e
  subst e
  refine ⟨_, rfl, hf, fun j u hu => ?_⟩
  rw [List.getElem?_drop] at hu
  have := hc _ u hu
  rw [add_plain] at this ⊢
  rw [Nat.add_assoc]
  exact this

set_option maxRecDepth 100000 in
set_option maxHeartbeats 1000000 in
theorem make_full (a : Option Addr) (n c : Nat) (w : World) (hn : 16384 < n) : Calls Try.prog 15 #[.slice a n c] w fun e w' => e = .returned (.tuple #[.slice none 0 0, .int .i64 4]) ∧ w = w' := by
  go_enter Try.func15, Try.ntmps15
  go_wp2
  go_ret2
  exact ⟨rfl, rfl⟩

set_option maxRecDepth 100000 in
set_option maxHeartbeats 1000000 in
theorem make_any (F : Nat → Prop) (a : Option Addr) (n c : Nat) (l : List UInt8) (w : World) (h : Lies w F a (l.map bv)) (hl : l.length = n) (hn : n ≤ 16384) :
    Calls Try.prog 15 #[.slice a n c] w fun e w' => ∃ A c', e = .returned (.tuple #[.slice A (n + 9) c', .int .i64 0]) ∧ w'.ownsRow w.heap.size 5 1 (.slice A (n + 9) c') (n + 9) ((frm l).map bv) ∧ Kept noBlock w w' := by
  have HL := Lib.hid hl; clear hl
  have hcap : (8 + (n : Int) + 1) = ((n + 9 : Nat) : Int) := by omega
  go_enter Try.func15, Try.ntmps15
  go_wp2_with (refine wpList_make rfl 28 5 _ _ rfl (.int .u8 0) Try.underlying28 Try.infoU8f rfl .i64 .i64 0 (n + 9) rfl ?hcap (by omega) (by omega) ?_)
  case hcap => exact congrArg (Value.int IntKind.i64) (by omega)
  clear hcap
  intro w1 hown1 k1 hlt1
  have R1 := Lib.hid (own_base (base' := 0) hown1 (fun _ _ => Nat.zero_le _)); clear hown1
  obtain ⟨B, hB⟩ : ∃ B, B = w.heap.size := ⟨_, rfl⟩
  rw [← hB] at R1 ⊢
  have HB := Lib.hid hB; clear hB hlt1
  go_wp2_with fail
  refine (aword_any _ 0 (n + 9) [] n w1 R1.out (by omega) (by omega)).mono ?_
  rintro e w2 ⟨A2, c2, rfl, o2, g2⟩
  have R2 := Lib.hid o2; clear o2
  have G2 := Lib.hid g2; clear g2
  clear R1
  have kk2 := G2.out.new k1 (fun i hi => by simp [Value.ownBlock] at hi; have := HB.out; omega)
  have K2 := Lib.hid kk2; clear kk2
  go_wp2_with fail
  refine (sum_any F a n c l w2 (h.keep K2.out.1 (fun _ _ h => h)) HL.out (by omega)).mono ?_
  rintro e w3 ⟨rfl, k3⟩
  obtain ⟨s, hs⟩ : ∃ s, s = crc 3988292384 l := ⟨_, rfl⟩
  rw [← hs]
  have HS := Lib.hid hs; clear hs
  have R3 := Lib.hid (own_keep R2.out k3 (fun _ _ h => h)); clear R2
  go_wp2_with fail
  refine (aword_any A2 4 c2 (be4 n) s w3 (by simpa using R3.out) (by rw [HS.out]; exact crc0_lt l) (by omega)).mono ?_
  rintro e w4 ⟨A4, c4, rfl, o4, g4⟩
  have R4 := Lib.hid o4; clear o4
  have K4 := Lib.hid (g4.new (K2.out.1.step k3) K2.out.2); clear g4 R3 K2 G2
  have hsrc : Src Try.prog 1 28 (.slice a n c) n (l.map bv) w4 := src_lies Try.underlying28 (h.keep K4.out.1 (fun _ _ h => h)) (by simpa using HL.out) (bv_one l)
  go_wp2_with (at_builtin; refine wpList_append_src rfl _ _ 28 28 rfl 5 (.int .u8 0) 1 1 Try.underlying28 Try.infoU8f rfl (.slice A4 8 c4) 8 _ rfl R4.out _ n (l.map bv) rfl hsrc ?c3 ?c4 ?_)
  case c3 => unfold maxLen; omega
  case c4 => omega
  intro A5 c5 w5 hown5 k5 hat5
  have K5 := Lib.hid (Grew.new ⟨k5, hat5⟩ K4.out.1 K4.out.2)
  have R5 := Lib.hid hown5
  clear hown5 k5 hat5 K4 R4 hsrc
  go_wp2_with (at_builtin; refine wpList_append_src rfl _ _ 28 28 rfl 5 (.int .u8 0) 1 1 Try.underlying28 Try.infoU8f rfl (.slice A5 (8 + n) c5) (8 + n) _ rfl (R5.out.alloc _) _ 1 [bv 229] rfl (src_new Try.underlying28 _ rfl (heap_alloc_new _ _)) ?c3 ?c4 ?_)
  case c3 => unfold maxLen; omega
  case c4 => omega
  intro A6 c6 w6 hown6 k6 hat6
  have K6 := Lib.hid (Grew.new (Grew.after (Kept.alloc noBlock w5 _) ⟨k6, hat6⟩) K5.out.1 K5.out.2)
  have e9 : 8 + n + 1 = n + 9 := by omega
  rw [e9] at hown6 K6 ⊢
  have R6 := Lib.hid hown6
  clear hown6 k6 hat6 K5 R5
  go_wp2
  go_ret2
  refine ⟨A6, c6, rfl, own_base (base := 0) ?_ K6.out.2, K6.out.1⟩
  have := R6.out
  unfold frm
  rw [HL.out, ← HS.out]
  simpa using this

set_option maxRecDepth 100000 in
set_option maxHeartbeats 1000000 in
theorem first_any (g : Nat) (F : Nat → Prop) (a : Option Addr) (n c : Nat) (l : List UInt8) (w : World) (ht : ∀ j, j < 256 → w.cell? ⟨g, j, none⟩ = some (uv (stpN 3988292384 8 j))) (h : Lies w F a (l.map bv)) (hl : l.length = n) (hn : n ≤ 200000000000000) (hc : n ≤ c) :
    Calls Try.prog 55 #[.pointer (some ⟨g, 0, none⟩), .slice a n c] w fun e w' => ∃ A c', e = .returned (.tuple #[.slice A (rd l).1.length c', .int .i64 ((rd l).2.1 : Nat), .int .i64 ((rd l).2.2 : Nat)]) ∧
      w'.ownsRow w.heap.size 5 1 (.slice A (rd l).1.length c') (rd l).1.length ((rd l).1.map bv) ∧ Kept noBlock w w' := by
  have HT := Lib.hid ht; clear ht
  have HL := Lib.hid hl; clear hl
  go_enter Try.func55, Try.ntmps55
  by_cases h8 : n < 8
  · go_wp2
    go_ret3
    have e := rd_short (b := l) (by rw [HL.out]; exact h8)
    rw [e]
    exact ⟨none, 0, rfl, World.ownsRow_nil _ _ _ _, Kept.refl _ _⟩
  · obtain ⟨b, o, rfl, hF, hcell⟩ := h.norm (by intro e; have := congrArg List.length e; rw [List.length_map, HL.out] at this; simp at this; omega)
    clear hcell
    have i4 : (4 : Int) ≤ n := by omega
    have c4 : ¬ c = 4 := by omega
    have h4 : Lies w.drew F (some ⟨b, o + 4, none⟩) ((l.drop 4).map bv) := by rw [List.map_drop]; exact (h.keep (Kept.drew noBlock w) (fun _ _ h => h)).behind 4
    have h0 := h.keep (Kept.drew noBlock w) (fun _ _ h => h)
    go_wp2_with fail
    refine wp_region_noPanic ?_
    refine wp_region_held_drew (S := fun _ => True) (by kernel_rfl) trivial (fun hHeld => ?_)
    refine wpAnyH_take (i := 0) (oi := ⟨some 14, Op.move (Operand.tmp 1), 28, _, _, none⟩) (v := ?v0n1k1) rfl (by kernel_rfl) (by kernel_rfl) (by kernel_rfl) (fun _ _ _ h => h) (Or.inl ⟨by rfl, ?y0n1k1⟩) hHeld ?z0n1k1
    case y0n1k1 => intro w hSw; (try dsimp only at hSw); go_simp <;> rfl
    try simp only [Act.put, List.setIfInBounds_toArray, List.set_cons_zero, List.set_cons_succ]
    refine wpAnyH_take (i := 2) (oi := ⟨some 16, Op.move (Operand.tmp 1), 28, _, _, none⟩) (v := ?v2n1k2) rfl (by kernel_rfl) (by kernel_rfl) (by kernel_rfl) (fun _ _ _ h => h) (Or.inl ⟨by rfl, ?y2n1k2⟩) hHeld ?z2n1k2
    case y2n1k2 => intro w hSw; (try dsimp only at hSw); go_simp <;> rfl
    try simp only [Act.put, List.setIfInBounds_toArray, List.set_cons_zero, List.set_cons_succ]
    refine wpAnyH_take (i := 3) (oi := ⟨some 17, Op.slice 28 (Operand.tmp 16) (some (Operand.const (Value.int IntKind.i64 4))) none none, 28, _, _, none⟩) (v := ?v3n1k3) rfl (by kernel_rfl) (by kernel_rfl) (by kernel_rfl) (fun _ _ _ h => h) (Or.inl ⟨by rfl, ?y3n1k3⟩) hHeld ?z3n1k3
    case y3n1k3 => intro w hSw; (try dsimp only at hSw); go_simp <;> rfl
    try simp only [Act.put, List.setIfInBounds_toArray, List.set_cons_zero, List.set_cons_succ]
    refine wpAnyH_ready (rs := [1]) (by kernel_rfl) (by simp) ?_
    refine AllReadyH.cons (o := ⟨some 15, Op.call { callee := Callee.value (Operand.func 62), args := #[Operand.tmp 14], argTypes := #[28] }, 73, _, _, none⟩) rfl (fun K hK => ?_) AllReadyH.nil
    go_simp
    refine (word_any F _ n c l _ h0 HL.out (by omega) hc).mono ?_
    rintro e w1 ⟨rfl, rfl⟩
    dsimp only
    refine hK.out _ _ trivial (fun hHeld => ?_)
    clear hK K
    try simp only [Act.put, List.setIfInBounds_toArray, List.set_cons_zero, List.set_cons_succ]
    refine wpAnyH_ready (rs := [4]) (by kernel_rfl) (by simp) ?_
    refine AllReadyH.cons (o := ⟨some 18, Op.call { callee := Callee.value (Operand.func 62), args := #[Operand.tmp 17], argTypes := #[28] }, 73, _, _, none⟩) rfl (fun K hK => ?_) AllReadyH.nil
    go_simp
    refine (word_any F _ (n - 4) (c - 4) (l.drop 4) _ h4 (by rw [List.length_drop, HL.out]) (by omega) (by omega)).mono ?_
    rintro e w1 ⟨rfl, rfl⟩
    dsimp only
    refine hK.out _ _ trivial (fun hHeld => ?_)
    clear hK K
    try simp only [Act.put, List.setIfInBounds_toArray, List.set_cons_zero, List.set_cons_succ]
    refine wpAnyH_take (i := 5) (oi := ⟨some 7, Op.assign (Operand.tmp 15), 73, _, _, none⟩) (v := ?v5n1k4) rfl (by kernel_rfl) (by kernel_rfl) (by kernel_rfl) (fun _ _ _ h => h) (Or.inl ⟨by rfl, ?y5n1k4⟩) hHeld ?z5n1k4
    case y5n1k4 => intro w hSw; (try dsimp only at hSw); go_simp <;> rfl
    try simp only [Act.put, List.setIfInBounds_toArray, List.set_cons_zero, List.set_cons_succ]
    refine wpAnyH_take (i := 6) (oi := ⟨some 8, Op.assign (Operand.tmp 18), 73, _, _, none⟩) (v := ?v6n1k5) rfl (by kernel_rfl) (by kernel_rfl) (by kernel_rfl) (fun _ _ _ h => h) (Or.inl ⟨by rfl, ?y6n1k5⟩) hHeld ?z6n1k5
    case y6n1k5 => intro w hSw; (try dsimp only at hSw); go_simp <;> rfl
    try simp only [Act.put, List.setIfInBounds_toArray, List.set_cons_zero, List.set_cons_succ]
    refine wpAnyH_done (by kernel_rfl) ?_ _
    refine NoPanic.normal ?_
    obtain ⟨z, hz⟩ : ∃ z, z = wrd (l.take 4) := ⟨_, rfl⟩
    obtain ⟨s, hs⟩ : ∃ s, s = wrd ((l.drop 4).take 4) := ⟨_, rfl⟩
    rw [← hz, ← hs]
    have hz32 : z < 4294967296 := by rw [hz]; exact wrd_lt (by rw [List.length_take, HL.out]; omega)
    have kd := Kept.drew noBlock w
    have HT2 : Hid (∀ j, j < 256 → w.drew.cell? ⟨g, j, none⟩ = some (uv (stpN 3988292384 8 j))) := Lib.hid (fun j hj => kd.cell (HT.out j hj) (fun h => h))
    clear h4 h hHeld HT
    generalize w.drew = w2 at h0 kd HT2 ⊢
    have HZ := Lib.hid hz; clear hz
    have HS := Lib.hid hs; clear hs
    have n8 : ¬ l.length < 8 := by rw [HL.out]; exact h8
    by_cases hg : 16384 < z
    · go_wp2
      go_ret3
      rw [rd_great n8 (by rw [← HZ.out]; exact hg)]
      exact ⟨none, 0, rfl, World.ownsRow_nil _ _ _ _, kd⟩
    · have ng : ¬ 16384 < wrd (l.take 4) := by rw [← HZ.out]; exact hg
      obtain ⟨m, hm⟩ : ∃ m, m = z + 8 := ⟨_, rfl⟩
      have em : 8 + (z : Int) = (m : Int) := by omega
      have hm2 : m - 8 ≤ 16384 := by omega
      have hm8 : 8 ≤ m := by omega
      by_cases ht : n ≤ m
      · have HM := Lib.hid hm; clear hm
        go_wp2
        go_ret3
        rw [rd_torn n8 ng (by rw [← HZ.out, HL.out, ← HM.out]; exact ht)]
        exact ⟨none, 0, rfl, World.ownsRow_nil _ _ _ _, kd⟩
      · have nt : ¬ l.length ≤ wrd (l.take 4) + 8 := by rw [← HZ.out, HL.out, ← hm]; exact ht
        obtain ⟨x, hx⟩ : ∃ x, l[m]? = some x := ⟨_, List.getElem?_eq_getElem (by rw [HL.out]; omega)⟩
        have hcx : w2.cell? ⟨b, o + m, none⟩ = some (.int .u8 (x.toNat : Int)) := by
          obtain ⟨ad, e, _, hc⟩ := h0.at_ (k := m) (u := bv x) (by simp [hx])
          injection e with e
          subst e
          rw [add_plain] at hc
          exact hc
        have HM := Lib.hid hm; clear hm
        by_cases h229 : x = 229
        · have hend : l[wrd (l.take 4) + 8]? = some 229 := by rw [← HZ.out, ← HM.out, hx, h229]
          subst h229
          have hrow : Lies w2 F (some ⟨b, o + 8, none⟩) (((l.drop 8).take z).map bv) := by
            rw [List.map_take, List.map_drop]
            exact (h0.behind 8).take z
          have hrl : ((l.drop 8).take z).length = m - 8 := by rw [List.length_take, List.length_drop, HL.out]; have := HM.out; omega
          obtain ⟨row, hr⟩ : ∃ row, row = (l.drop 8).take z := ⟨_, rfl⟩
          rw [← hr] at hrow hrl
          have c8 : ¬ c = 8 := by omega
          have HX := Lib.hid hx; clear hx
          have HR := Lib.hid hr; clear hr
          go_wp2_with fail
          refine (tsum_any g 3988292384 F _ (m - 8) (c - 8) row w2 HT2.out (by decide) hrow hrl (by omega)).mono ?_
          rintro e w3 ⟨rfl, rfl⟩
          obtain ⟨q, hq⟩ : ∃ q, q = crc 3988292384 row := ⟨_, rfl⟩
          rw [← hq]
          by_cases hqs : q = s
          · subst hqs
            have e4 := rd_there n8 ng nt hend (by rw [← HZ.out, ← HS.out, ← HR.out]; exact hq.symm)
            rw [← HZ.out, ← HR.out] at e4
            clear hq
            go_wp2_with fail
            refine (bclone_any F _ (m - 8) (c - 8) row w2 hrow hrl (by omega)).mono ?_
            rintro e w4 ⟨A', c', rfl, o4, k4⟩
            have R4 := Lib.hid o4; clear o4
            have E4 := Lib.hid e4; clear e4
            go_wp2
            go_ret3
            rw [E4.out, hrl]
            refine ⟨A', c', ?_, own_base R4.out (fun i hi => Nat.le_trans kd.size (R4.out.lt i hi).1), kd.step k4⟩
            have e9 : (m : Int) + 1 = ((z + 9 : Nat) : Int) := by have := HM.out; omega
            simp [e9]
          · have hqs2 : ((q : Int) == (s : Int)) = false := beq_false_of_ne (fun h => hqs (by omega))
            have e4 := rd_sum n8 ng nt hend (by rw [← HZ.out, ← HS.out, ← HR.out, ← hq]; exact hqs)
            have E4 := Lib.hid e4; clear e4 hq
            go_wp2
            go_ret3
            rw [E4.out]
            exact ⟨none, 0, rfl, World.ownsRow_nil _ _ _ _, kd⟩
        · have hx2 : ((x.toNat : Int) == 229) = false := beq_false_of_ne (fun h => h229 (UInt8.toNat_inj.1 (by show x.toNat = 229; omega)))
          have e4 := rd_end n8 ng nt (by rw [← HZ.out, ← HM.out, hx]; simpa using h229)
          have E4 := Lib.hid e4; clear e4 hx
          go_wp2
          go_ret3
          rw [E4.out]
          exact ⟨none, 0, rfl, World.ownsRow_nil _ _ _ _, kd⟩

set_option maxRecDepth 100000 in
set_option maxHeartbeats 1000000 in
theorem fone_any (F : Nat → Prop) (a : Option Addr) (n c : Nat) (l : List UInt8) (w : World) (h : Lies w F a (l.map bv)) (hl : l.length = n) (hn : n ≤ 200000000000000) (hc : n ≤ c) :
    Calls Try.prog 46 #[.slice a n c] w fun e w' => ∃ A c', e = .returned (.tuple #[.slice A (rd l).1.length c', .int .i64 ((rd l).2.1 : Nat), .int .i64 ((rd l).2.2 : Nat)]) ∧
      w'.ownsRow w.heap.size 5 1 (.slice A (rd l).1.length c') (rd l).1.length ((rd l).1.map bv) ∧ Kept noBlock w w' := by
  go_enter Try.func46, Try.ntmps46
  go_wp2_with fail
  refine (tof_any 3988292384 w (by decide)).mono ?_
  rintro e w1 ⟨rfl, k1⟩
  go_wp2_with (first | refine wpList_alloc_row rfl 104 rfl (tabk 0 0) Try.zeroTable ?_ | refine wpList_store_new rfl 104 _ _ rfl (tab 3988292384) (tabk 0 0) rfl rfl (tab_fits _) (tab_old _) (tab_one _) ?_)
  have k2 := k1.step (Kept.alloc noBlock w1 (.cells (tab 3988292384) 104))
  refine (first_any _ F a n c l _ (tab_there w1 3988292384) (h.keep k2 (fun _ _ h => h)) hl hn hc).mono ?_
  rintro e w3 ⟨A', c', rfl, o3, k3⟩
  have R3 := Lib.hid o3; clear o3
  obtain ⟨u, hu⟩ : ∃ u, u = rd l := ⟨_, rfl⟩
  rw [← hu] at R3 ⊢
  have HU := Lib.hid hu; clear hu
  go_wp2
  go_ret3
  rw [← HU.out]
  exact ⟨A', c', rfl, own_base R3.out (fun i hi => Nat.le_trans k2.size (R3.out.lt i hi).1), k2.step k3⟩

end Go.Proofs.Ytjijdkdpmbfdmaa

/-
  A loop over a function whose body is told what lies in memory: a contract for the function, and a law for the loop. No statement is proved here.
-/
namespace Go.Proofs.Ytjijdkdpmbfdmaa
open Go.RowKit

/-- All that w had is as it was, but for blocks from m on that hold no cells. -/
def Steady (m : Nat) (w w' : World) : Prop := Kept (fun k => m ≤ k ∧ ∃ o, w.heap[k]? = some o ∧ o.isCells = false) w w'
theorem Steady.of_kept {m : Nat} {w w' : World} (h : Kept noBlock w w') : Steady m w w' := h.mono (fun _ _ h => h.elim)
theorem kept_putObj (W : World) (l : Nat) (o' : Obj) : Kept (fun k => k = l) W (W.putObj l o') := Kept.grown (grownBy_putObj' W l o') (fun k h => by injection h with h; exact h.symm)
theorem Steady.putObj {m l : Nat} {W : World} {o : Obj} (o' : Obj) (hm : m ≤ l) (h : W.heap[l]? = some o) (ho : o.isCells = false) : Steady m W (W.putObj l o') :=
  (kept_putObj W l o').mono (fun i _ e => by subst e; exact ⟨hm, o, h, ho⟩)

/-- A function that goes over things: for whatever is done with them ('J': between two of them; 'Jx': behind one at which it was left). 'Px': what is known of a thing that is handed over; 'Kp': what the one who takes it leaves as it was. -/
def Goes {α : Type} (F : Fence) (n : Nat) (P : Program) (g : Nat) (lb : Array Value) (enc : α → Array Value) (Px : List α → α → World → Prop) (Kp : World → World → Prop) (S Sp : List α → Prop) (w : World) : Prop :=
  ∀ (l : Nat) (J Jx : List α → World → Prop) (W : World), Kept noBlock w W → (∀ s A B, J s A → Kept noBlock A B → J s B) → (∀ s A B, Jx s A → Kept noBlock A B → Jx s B) →
    (∀ pre x W1, J pre W1 → Px pre x W1 → YieldAt F (n - 1) P l (enc x) W1 fun e W' =>
      (e = .returned (.bool true) ∧ J (pre ++ [x]) W' ∧ Kp W1 W') ∨ (e = .returned (.bool false) ∧ Jx (pre ++ [x]) W')) →
    J [] W →
    CallsIn F n P g (#[.func (.yield l) #[] #[]] ++ lb) W fun e W' => (∃ v, e = .returned v) ∧ ((∃ xs, S xs ∧ J xs W') ∨ (∃ pre, Sp pre ∧ Jx pre W'))

/-- The loop. 'I': what holds between two rounds; 'Ix': behind a round that left by a jump. -/
theorem wpIn_goes {F : Fence} {n : Nat} {P : Program} {α : Type} {g : Operand} {ps : Array Tmp} {assign body : Code} {Q : Exit → Act → World → Prop} {a : Act} {w : World}
    (hro : F.round = none) (h1 : 1 ≤ n) {gf : Nat} {lb : Array Value} (hg : a.eval g = .func (.func gf) #[] lb) (hFg : F.fn gf) (eg : ∀ args w, (callFunc gf args).run P w = .ok (.enter gf args) w)
    {enc : α → Array Value} {Px : List α → α → World → Prop} {Kp : World → World → Prop} {S Sp : List α → Prop} {w0 : World} (hgo : Goes F (n - 1) P gf lb enc Px Kp S Sp w0) (hb0 : Kept noBlock w0 w) (hps : ∀ x, (enc x).size = ps.size)
    (hKt : ∀ {A B C : World}, Kp A B → Kp B C → Kp A C) (hKb : ∀ (W : World) (l : Nat) (o o' : Obj), W.heap[l]? = some o → o.isCells = false → Kp W (W.putObj l o'))
    (hPx : ∀ pre x A B, Px pre x A → Steady w.heap.size A B → Px pre x B)
    (I : List α → World → Prop) (Ix : Code → List α → World → Prop) (hI : ∀ s A B, I s A → Steady w.heap.size A B → I s B) (hIx : ∀ c s A B, Ix c s A → Steady w.heap.size A B → Ix c s B) (h0 : I [] w) (a₁ : α → Act)
    (hassign : ∀ (l : Nat) (x : α) (W : World) (K : Act → World → Prop), K (a₁ x) W →
      assign.wpIn (F.inRound l) (n - 1 - 1) P (Exit.then K (fun _ _ _ => False)) { tmps := (ps.zip (enc x)).foldl (fun t (p, v) => t.setIfInBounds p v) a.tmps, defers := [] } W)
    (hbody : ∀ (l : Nat) (pre : List α) (x : α) (W : World), I pre W → Px pre x W → body.wpIn (F.inRound l) (n - 1 - 1) P (ownPostG w.heap.size Kp I Ix (pre ++ [x]) W) (a₁ x) W)
    (hdone : ∀ (D : Nat) (xs : List α) (W : World), w.heap.size ≤ D → S xs → I xs W → W.heap[D]? = some (.deferred (some [])) → Q .normal { a with defers := { target := .collected D, args := #[] } :: a.defers } W)
    (hstop : ∀ (D : Nat) (c : Code) (pre : List α) (W : World), w.heap.size ≤ D → Sp pre → Ix c pre W → W.heap[D]? = some (.deferred (some [])) → c.wpIn F n P Q { a with defers := { target := .collected D, args := #[] } :: a.defers } W) :
    (Code.rangeFunc g ps assign body).wpIn F n P Q a w := by
  refine wpIn_rangeFunc fun fn hfn => ?_
  rw [hro]
  let r : LoopState → Option Code → Loop := fun st pe => { state := st, pending := pe, fn, tmps := a.tmps, params := ps, assign, body, defers := w.heap.size }
  let L := w.heap.size + 1
  let At : LoopState → Option Code → World → Prop := fun st pe W => W.heap[L]? = some (.loop (r st pe)) ∧ W.heap[w.heap.size]? = some (.deferred (some []))
  have turn : ∀ {st pe} (st' pe') {W : World}, At st pe W → At st' pe' (W.putObj L (.loop (r st' pe'))) := fun st' pe' W h =>
    ⟨World.putObj_heap_same (lt_of_blk h.1), (World.putObj_heap_other (by show w.heap.size ≠ w.heap.size + 1; omega)).trans h.2⟩
  have quiet : ∀ {st pe} (o' : Obj) {W : World}, At st pe W → Steady w.heap.size W (W.putObj L o') := fun o' W h => Steady.putObj o' (Nat.le_succ _) h.1 rfl
  have held : ∀ {st pe} {W W' : World}, At st pe W → Kept noBlock W W' → At st pe W' := fun h k => ⟨k.blk h.1 (fun h => h), k.blk h.2 (fun h => h)⟩
  have held2 : ∀ {st pe} {W W' : World}, At st pe W → KeepsFrom w.heap.size W W' → At st pe W' := fun h k => ⟨k.same _ _ (Nat.le_succ _) h.1 rfl, k.same _ _ (Nat.le_refl _) h.2 rfl⟩
  obtain ⟨W1, hW1⟩ : ∃ W1, W1 = (w.alloc (.deferred (some []))).alloc (.loop (r .ready none)) := ⟨_, rfl⟩
  have kW1 : Kept noBlock w W1 := by rw [hW1]; exact (Kept.alloc _ _ _).step (Kept.alloc _ _ _)
  have at1 : At .ready none W1 := by
    rw [hW1]
    refine ⟨?_, (Below.heap_alloc _ _ _ (by simp)).trans (heap_alloc_new w _)⟩
    have := heap_alloc_new (w.alloc (.deferred (some []))) (.loop (r .ready none))
    rwa [World.size_alloc] at this
  have he : (Instr.enterLoop fn a.tmps ps assign body none).run P w = .ok (L, [{ target := .collected w.heap.size, args := #[] }]) W1 := by rw [hW1]; exact run_enterLoop_outer _ _ _ _ _
  refine ⟨L, [{ target := .collected w.heap.size, args := #[] }], W1, { target := .fn (.func gf) lb, args := #[.func (.yield L) #[] #[]] }, W1, gf, #[.func (.yield L) #[] #[]] ++ lb, W1, he, ?_, ?_, ?_, fun _ => h1, ?_⟩
  · simp only [resolve, hg]
    simp [go_sem]
  · intro f' hf'
    simp [Target.leads] at hf'
    subst hf'
    exact hFg
  · simp [invoke, go_sem, eg]
  · refine (hgo L (fun pre W => I pre W ∧ At .ready none W) (fun pre W => ∃ c, Ix c pre W ∧ At .done (some c) W) W1 (hb0.step kW1) (fun s A B h k => ⟨hI s A B h.1 (Steady.of_kept k), held h.2 k⟩)
      (fun s A B h k => by obtain ⟨c, hc, ha⟩ := h; exact ⟨c, hIx c s A B hc (Steady.of_kept k), held ha k⟩) ?_ ⟨hI _ _ _ h0 (Steady.of_kept kW1), at1⟩).mono ?_
    · rintro pre x W ⟨hi, hat⟩ hpx
      refine ⟨fn, _, assign, body, run_yield (P := P) (args := enc x) hat.1 (hps x), roundIn_of_wpIn hfn (hassign L x W _ ⟨_, run_beginRound hat.1 rfl, ?_⟩)⟩
      have hatB : At .busy none (W.putObj L (.loop (r .busy none))) := turn .busy none hat
      refine wpIn_mono (hbody L pre x (W.putObj L (.loop (r .busy none))) (hI _ _ _ hi (quiet _ hat)) (hPx _ _ _ _ hpx (quiet _ hat))) ?_
      have fin : ∀ (j : Option Code) (W3 : World), KeepsFrom w.heap.size (W.putObj L (.loop (r .busy none))) W3 →
          (Instr.endRound L j).run P W3 = .ok (.bool j.isNone) (W3.putObj L (.loop (r (if j.isNone then .ready else .done) j))) ∧ At .busy none W3 := fun j W3 k =>
        ⟨run_endRound (P := P) j (held2 hatB k).1, held2 hatB k⟩
      rintro e a3 W3 hp
      cases e with
      | normal =>
        obtain ⟨k3, hkp, hi3⟩ := hp
        obtain ⟨hr, ha3⟩ := fin none W3 k3
        exact ⟨_, _, hr, .inl ⟨rfl, ⟨hI _ _ _ hi3 (quiet _ ha3), turn .ready none ha3⟩, hKt (hKt (hKb _ _ _ _ hat.1 rfl) hkp) (hKb _ _ _ _ ha3.1 rfl)⟩⟩
      | ret =>
        obtain ⟨k3, hi3⟩ := hp
        obtain ⟨hr, ha3⟩ := fin (some .ret) W3 k3
        exact ⟨_, _, hr, .inr ⟨rfl, .ret, hIx _ _ _ _ hi3 (quiet _ ha3), turn .done (some .ret) ha3⟩⟩
      | exit id =>
        obtain ⟨k3, hi3⟩ := hp
        obtain ⟨hr, ha3⟩ := fin (some (.exit id)) W3 k3
        exact ⟨_, _, hr, .inr ⟨rfl, .exit id, hIx _ _ _ _ hi3 (quiet _ ha3), turn .done (some (.exit id)) ha3⟩⟩
      | goto t =>
        obtain ⟨k3, hi3⟩ := hp
        obtain ⟨hr, ha3⟩ := fin (some (.goto t)) W3 k3
        exact ⟨_, _, hr, .inr ⟨rfl, .goto t, hIx _ _ _ _ hi3 (quiet _ ha3), turn .done (some (.goto t)) ha3⟩⟩
      | panic ch => exact hp.elim
      | outgrown => exact hp.elim
    · rintro e W2 ⟨⟨v, rfl⟩, (⟨xs, hS, hi, ha⟩ | ⟨pre, hSp, c, hi, ha⟩)⟩
      · exact ⟨none, _, run_endLoop (P := P) ha.1 (by simp [r]), hdone _ xs _ (Nat.le_refl _) hS (hI _ _ _ hi (quiet _ ha)) ((World.putObj_heap_other (by show w.heap.size ≠ w.heap.size + 1; omega)).trans ha.2)⟩
      · exact ⟨some c, _, run_endLoop (P := P) ha.1 (by simp [r]), hstop _ c pre _ (Nat.le_refl _) hSp (hIx _ _ _ _ hi (quiet _ ha)) ((World.putObj_heap_other (by show w.heap.size ≠ w.heap.size + 1; omega)).trans ha.2)⟩

end Go.Proofs.Ytjijdkdpmbfdmaa

/-
  The contracts of package frame, third part: All, and the function that it tells. No statement is proved here.
-/
namespace Go.Proofs.Ytjijdkdpmbfdmaa
open Go.RowKit
attribute [local go_sem] Oper.semAt_some

/-- A row that is handed over: where its frame ends, and where its bytes lie. -/
structure Item where
  at_ : Nat
  A : Option Addr
  c : Nat
  row : List UInt8
def Item.enc (x : Item) : Array Value := #[.int .i64 (x.at_ : Int), .slice x.A x.row.length x.c]
def rowsOf (xs : List Item) : List (List UInt8) := xs.map (·.row)
theorem rowsOf_snoc (xs : List Item) (x : Item) : rowsOf (xs ++ [x]) = rowsOf xs ++ [x.row] := by simp [rowsOf]
theorem rowsOf_length (xs : List Item) : (rowsOf xs).length = xs.length := by simp [rowsOf]
/-- A row's bytes lie where it says. -/
def Item.there (x : Item) (W : World) : Prop := W.ownsRow 0 5 1 (.slice x.A x.row.length x.c) x.row.length (x.row.map bv)
/-- What is known of a row that is handed over. -/
structure Handed (b : List UInt8) (pre : List Item) (x : Item) (W : World) : Prop where
  is : ∃ t, Parted b (rowsOf (pre ++ [x])) t
  end_ : x.at_ = (joined (rowsOf (pre ++ [x]))).length
  there : x.there W
/-- All rows have come. -/
def Found (b : List UInt8) (xs : List Item) : Prop := ∃ t, Parted b (rowsOf xs) t ∧ (rd t).2.2 ≠ 0
/-- What one who takes a row leaves as it was: a block, all bytes, and all tables. -/
def Held (Bb : Nat) (W W' : World) : Prop := W.heap.size ≤ W'.heap.size ∧ ∀ k cs t fr, W.heap[k]? = some (.cells cs t fr) → (k = Bb ∨ t = 5 ∨ t = 104) → W'.heap[k]? = some (.cells cs t fr)
theorem Held.trans {Bb : Nat} {A B C : World} (h : Held Bb A B) (k : Held Bb B C) : Held Bb A C := ⟨Nat.le_trans h.1 k.1, fun i cs t fr hi hk => k.2 i cs t fr (h.2 i cs t fr hi hk) hk⟩
theorem Held.putObj {Bb : Nat} (W : World) (l : Nat) (o o' : Obj) (h : W.heap[l]? = some o) (ho : o.isCells = false) : Held Bb W (W.putObj l o') := by
  refine ⟨by simp, fun k cs t fr hk _ => (World.putObj_heap_other (fun e => ?_)).trans hk⟩
  subst e
  rw [hk] at h
  injection h with h
  subst h
  cases ho
theorem Held.of_kept {Bb : Nat} {W W' : World} (h : Kept noBlock W W') : Held Bb W W' := ⟨h.size, fun _ _ _ _ hk _ => h.blk hk (fun h => h)⟩
theorem own_held {Bb : Nat} {W W' : World} {base n : Nat} {v : Value} {xs : List Value} (h : W.ownsRow base 5 1 v n xs) (k : Held Bb W W') : W'.ownsRow base 5 1 v n xs := by
  refine ⟨h.1, ?_⟩
  rcases h.2 with hn | ⟨g, cap, cur, rfl, hb, hgg, rest⟩
  · exact .inl hn
  · exact .inr ⟨g, cap, cur, rfl, hb, k.2 g _ _ _ hgg (.inr (.inl rfl)), rest⟩
theorem own_steady {m : Nat} {W W' : World} {base n : Nat} {e : TypeId} {size : Nat} {v : Value} {xs : List Value} (h : W.ownsRow base e size v n xs) (k : Steady m W W') : W'.ownsRow base e size v n xs := by
  refine ⟨h.1, ?_⟩
  rcases h.2 with hn | ⟨g, cap, cur, rfl, hb, hgg, rest⟩
  · exact .inl hn
  · refine .inr ⟨g, cap, cur, rfl, hb, k.blk hgg (fun h => ?_), rest⟩
    obtain ⟨_, o, ho, hc⟩ := h
    rw [hgg] at ho
    injection ho with ho
    subst ho
    cases hc
theorem blk_steady {m k : Nat} {W W' : World} {cs : Array Value} {t : TypeId} {fr : Nat × Nat} (h : W.heap[k]? = some (.cells cs t fr)) (s : Steady m W W') : W'.heap[k]? = some (.cells cs t fr) := by
  refine s.blk h (fun hh => ?_)
  obtain ⟨_, o, ho, hc⟩ := hh
  rw [h] at ho
  injection ho with ho
  subst ho
  cases hc
theorem Handed.steady {b : List UInt8} {m : Nat} (pre : List Item) (x : Item) (A B : World) (h : Handed b pre x A) (s : Steady m A B) : Handed b pre x B := ⟨h.is, h.end_, own_steady h.there s⟩

theorem Parted.next {b : List UInt8} {rs : List (List UInt8)} {t : List UInt8} (h : Parted b rs t) (ht : (rd t).2.2 = 0) : Parted b (rs ++ [(rd t).1]) (t.drop (rd t).2.1) := by
  obtain ⟨h1, h2, h3⟩ := rd_ok ht
  refine ⟨?_, fun r hr => ?_⟩
  · rw [joined_snoc, List.append_assoc, ← h3]
    exact h.is
  · rcases List.mem_append.1 hr with hr | hr
    · exact h.fit r hr
    · simp at hr
      subst hr
      exact h1
theorem Parted.rest {b : List UInt8} {rs : List (List UInt8)} {t : List UInt8} (h : Parted b rs t) : t = b.drop (joined rs).length := by
  rw [h.is]
  exact (List.drop_left' rfl).symm
theorem Parted.le {b : List UInt8} {rs : List (List UInt8)} {t : List UInt8} (h : Parted b rs t) : (joined rs).length ≤ b.length := by
  have := congrArg List.length h.is
  rw [List.length_append] at this
  omega

set_option maxRecDepth 100000 in
set_option maxHeartbeats 1000000 in
theorem all_any (F : Nat → Prop) (a : Option Addr) (n c : Nat) (l : List UInt8) (w : World) (h : Lies w F a (l.map bv)) (hl : l.length = n) (hn : n ≤ 200000000000000) :
    Calls Try.prog 38 #[.slice a n c] w fun e w' => ∃ B A c', e = .returned (.func (.func 54) #[] #[.pointer (some ⟨B, 0, none⟩)]) ∧ w.heap.size ≤ B ∧ w'.heap[B]? = some (.cells #[.slice A n c'] 28 (0, 0)) ∧
      w'.ownsRow w.heap.size 5 1 (.slice A n c') n (l.map bv) ∧ Kept noBlock w w' := by
  go_enter Try.func38, Try.ntmps38
  go_wp2_with fail
  have hnew := heap_alloc_new w (.cells #[.slice a n c] 28)
  have k0 := Kept.alloc noBlock w (.cells #[.slice a n c] 28)
  refine (bclone_any F a n c l _ (h.keep k0 (fun _ _ h => h)) hl hn).mono ?_
  rintro e w1 ⟨A', c', rfl, o1, k1⟩
  have hb1 := k1.blk hnew (fun h => h)
  have hc1 : w1.cell? ⟨w.heap.size, 0, none⟩ = some (.slice a n c) := cell_of_row _ _ _ _ _ _ hb1
  have hf1 : w1.frozen? ⟨w.heap.size, 0, none⟩ = false := frozen_of_row _ _ _ _ _ hb1
  have R1 := Lib.hid o1; clear o1
  have H1 := Lib.hid hb1; clear hb1 hnew
  go_wp2
  go_ret
  have hb2 := heap_setCell_same w1 w.heap.size 0 _ _ (.slice A' n c') H1.out
  refine ⟨w.heap.size, A', c', rfl, Nat.le_refl _, by simpa using hb2, ?_, (k0.step k1).trans (Kept.setCell (S := fun i => i = w.heap.size) w1 (by rfl) _) (fun i hi h => by omega)⟩
  have hne := own_ne R1.out H1.out (by decide)
  refine own_base (own_keep R1.out (Kept.setCell (S := fun i => i = w.heap.size) w1 (by rfl) _) (fun i hi e => hne (e ▸ hi))) (fun i hi => ?_)
  have := (R1.out.lt i hi).1
  simp at this
  omega

set_option maxRecDepth 100000 in
set_option maxHeartbeats 1000000 in
theorem all1_goes (Bb : Nat) (A : Option Addr) (n c : Nat) (b : List UInt8) (w : World) (hbox : w.heap[Bb]? = some (.cells #[.slice A n c] 28 (0, 0))) (hown : w.ownsRow 0 5 1 (.slice A n c) n (b.map bv)) (hl : b.length = n) (hn : n ≤ 200000000000000) (m : Nat) :
    Goes Fence.wide m Try.prog 54 #[.pointer (some ⟨Bb, 0, none⟩)] Item.enc (Handed b) (Held Bb) (Found b) (fun _ => True) w := by
  intro l J Jx W kW hJ hJx hY h0
  refine callsIn_wide.2 ?_
  show Calls Try.prog 54 #[.func (.yield l) #[] #[], .pointer (some ⟨Bb, 0, none⟩)] W _
  go_enter Try.func54, Try.ntmps54
  go_wp2_with fail
  refine (tof_any 3988292384 W (by decide)).mono ?_
  rintro e w1 ⟨rfl, k1⟩
  go_wp2_with (first | refine wpList_alloc_row rfl 104 rfl (tabk 0 0) Try.zeroTable ?_ | refine wpList_store_new rfl 104 _ _ rfl (tab 3988292384) (tabk 0 0) rfl rfl (tab_fits _) (tab_old _) (tab_one _) ?_)
  have k2 := k1.step (Kept.alloc noBlock w1 (.cells (tab 3988292384) 104))
  have ht : (w1.alloc (.cells (tab 3988292384) 104)).heap[w1.heap.size]? = some (.cells (tab 3988292384) 104 (0, 0)) := heap_alloc_new _ _
  obtain ⟨T, hT⟩ : ∃ T, T = w1.heap.size := ⟨_, rfl⟩
  rw [← hT] at ht ⊢
  generalize (w1.alloc (.cells (tab 3988292384) 104)) = w2 at k2 ht ⊢
  have kW2 := kW.step k2
  have HB := Lib.hid (kW2.blk hbox (fun h => h))
  have HO := Lib.hid (own_keep hown kW2 (fun _ _ h => h))
  have HT := Lib.hid ht
  have h2 := hJ _ _ _ h0 k2
  have HL := Lib.hid hl
  have hnc : n ≤ c := by obtain ⟨_, _, e, hle⟩ := own_form hown; injection e with _ _ e; omega
  clear hbox hown ht hT kW2 k2 k1 h0 kW hl
  have HJ := Lib.hid hJ; clear hJ
  have HJx := Lib.hid hJx; clear hJx
  have HY := Lib.hid hY; clear hY
  go_loopw [4] (fun e wr => ∃ (pre : List Item) (p : Nat), e = .int .i64 (p : Int) ∧ Hid (p = (joined (rowsOf pre)).length) ∧ Hid (Parted b (rowsOf pre) (b.drop p)) ∧ p ≤ n ∧ Hid (J pre wr) ∧ Hid (wr.heap[Bb]? = some (.cells #[.slice A n c] 28 (0, 0))) ∧
      Hid (wr.ownsRow 0 5 1 (.slice A n c) n (b.map bv)) ∧ Hid (wr.heap[T]? = some (.cells (tab 3988292384) 104 (0, 0)))) (fun e _ => n - (intOf e).toNat)
  case atStart => exact ⟨[], 0, rfl, Lib.hid rfl, Lib.hid ⟨rfl, fun r h => by cases h⟩, Nat.zero_le _, Lib.hid h2, HB, HO, HT⟩
  case round =>
    clear HB HO HT h2
    obtain ⟨pre, p, rfl, HP, HQ, hpn, HJ0, HB, HO, HT⟩ := hrel
    have hcb : wr.cell? ⟨Bb, 0, none⟩ = some (.slice A n c) := cell_of_row _ _ _ _ _ _ HB.out
    have hlie := Lies.of_own (F := fun _ => True) HO.out (fun _ _ => trivial)
    have hdr : Lies wr (fun _ => True) (if c = p then A else A.map (·.add p)) ((b.drop p).map bv) := by rw [List.map_drop]; exact hlie.drop p (by rw [List.length_map, HL.out]; exact hnc)
    have hpi : (p : Int) ≤ n := by omega
    obtain ⟨A1, hA1⟩ : ∃ A1, (if c = p then A else Option.map (fun x => x.add p) A) = A1 := ⟨_, rfl⟩
    rw [hA1] at hdr
    clear hlie
    go_wp2_with fail
    refine (first_any T _ A1 (n - p) (c - p) (b.drop p) wr (fun j hj => by rw [cell_of_row _ _ _ _ _ _ HT.out]; exact tab_at _ j hj) hdr (by rw [List.length_drop, HL.out]) (by omega) (by omega)).mono ?_
    rintro e w4 ⟨A4, c4, rfl, o4, k4⟩
    obtain ⟨u, hu⟩ : ∃ u, u = rd (b.drop p) := ⟨_, rfl⟩
    rw [← hu] at o4 ⊢
    have HU := Lib.hid hu; clear hu
    have HJ4 := Lib.hid (HJ.out _ _ _ HJ0.out k4)
    have HB4 := Lib.hid (k4.blk HB.out (fun h => h))
    have HO4 := Lib.hid (own_keep HO.out k4 (fun _ _ h => h))
    have HT4 := Lib.hid (k4.blk HT.out (fun h => h))
    have R4 := Lib.hid (own_base (base' := 0) o4 (fun _ _ => Nat.zero_le _))
    clear o4 HB HO HT HJ0 hcb hdr hA1
    by_cases hz : u.2.2 = 0
    · have hok := hz
      rw [HU.out] at hok
      have hq := HQ.out.next hok
      have hle := rd_ok_le hok
      obtain ⟨r1, r2, r3⟩ := rd_ok hok
      rw [← HU.out] at hq hle r1 r2 r3
      rw [List.drop_drop] at hq
      rw [List.length_drop, HL.out] at hle
      obtain ⟨q, hqe⟩ : ∃ q, q = p + u.2.1 := ⟨_, rfl⟩
      rw [← hqe] at hq
      have hqn : q ≤ n := by omega
      have hpq : p < q := by omega
      have hadd : (p : Int) + ((u.2.1 : Nat) : Int) = (q : Int) := by omega
      have HX : Hid (Handed b pre ⟨q, A4, c4, u.1⟩ w4) := Lib.hid ⟨⟨_, by rw [rowsOf_snoc]; exact hq⟩, by
        rw [rowsOf_snoc, joined_snoc, List.length_append, frm_length, ← HP.out, hqe, r2], R4.out⟩
      have HQ2 := Lib.hid hq
      have HN := Lib.hid hqe
      clear hq r1 r2 r3 hle hqe hok
      rw [hz]
      clear hz
      go_upto_region 5 with (fail)
      refine (wpIn_wide (n := m)).1 ?_
      obtain ⟨fn, tm, asg, bod, hy, hR⟩ := HY.out pre ⟨q, A4, c4, u.1⟩ w4 HJ4.out HX.out
      dsimp only [Item.enc] at hy
      gi_wp2
      refine ⟨fun h => by simp [Fence.wide] at h, ?_⟩
      refine hR.mono ?_
      clear hR hy
      rintro e w5 (⟨rfl, hJ5, k5⟩ | ⟨rfl, hJx5⟩)
      · have HJ5 := Lib.hid hJ5; clear hJ5
        have HB5 := Lib.hid (k5.2 _ _ _ _ HB4.out (.inl rfl))
        have HO5 := Lib.hid (own_held HO4.out k5)
        have HT5 := Lib.hid (k5.2 _ _ _ _ HT4.out (.inr (.inr rfl)))
        gi_wp2
        go_wp2
        go_roundw
        case rel =>
          refine ⟨pre ++ [⟨q, A4, c4, u.1⟩], q, rfl, Lib.hid ?_, Lib.hid ?_, hqn, HJ5, HB5, HO5, HT5⟩
          · exact HX.out.end_
          · rw [rowsOf_snoc]
            exact HQ2.out
        case measure => simp [intOf]; omega
      · have HJ5 := Lib.hid hJx5; clear hJx5
        gi_wp2
        go_wp2
        refine bodyPost_ret (results_none rfl _ _ _) rfl ?_
        exact ⟨⟨_, rfl⟩, .inr ⟨_, trivial, HJ5.out⟩⟩
    · have hz2 : (((u.2.2 : Nat) : Int) == 0) = false := beq_false_of_ne (fun h => hz (by omega))
      have hF : Found b pre := ⟨b.drop p, HQ.out, by rw [← HU.out]; exact hz⟩
      have HF := Lib.hid hF; clear hF hz
      go_wp2
      refine bodyPost_ret (results_none rfl _ _ _) rfl ?_
      exact ⟨⟨_, rfl⟩, .inl ⟨pre, HF.out, HJ4.out⟩⟩

end Go.Proofs.Ytjijdkdpmbfdmaa
