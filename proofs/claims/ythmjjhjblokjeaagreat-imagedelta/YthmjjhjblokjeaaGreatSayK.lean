/-
  Several texts, one behind the other. No statement is proved here.
-/
import Derived.Test.YthmjjhjblokjeaaGreatMem
import Derived.Test.YthmjjhjblokjeaaGreatEntK
import Derived.Deep.DeepCutAuto
import Derived.Deep.RegionHeld3
/-
  A row that grew. No statement is proved here.
-/
namespace Go.Proofs.YthmjjhjblokjeaaGreat
open Go.RowKit

/-- What became of a row that grew: all else is as it was; it lies in its old block, or in a new one. -/
structure Grew (w w' : World) (v v' : Value) : Prop where
  kept : Kept (fun k => v.ownBlock = some k) w w'
  at_ : ∀ k, v'.ownBlock = some k → v.ownBlock = some k ∨ fresh w w' k
theorem Grew.refl (w : World) (v : Value) : Grew w w v v := ⟨Kept.refl _ _, fun _ h => .inl h⟩
theorem Grew.trans {a b c : World} {u v x : Value} (h : Grew a b u v) (k : Grew b c v x) : Grew a c u x := by
  refine ⟨h.kept.trans k.kept (fun i hi hv => ?_), fun i hi => ?_⟩
  · rcases h.at_ i hv with h1 | h1
    · exact h1
    · exact absurd h1.1 (by omega)
  · rcases k.at_ i hi with h1 | h1
    · rcases h.at_ i h1 with h2 | h2
      · exact .inl h2
      · exact .inr ⟨h2.1, Nat.lt_of_lt_of_le h2.2 k.kept.size⟩
    · exact .inr ⟨Nat.le_trans h.kept.size h1.1, h1.2⟩
/-- Behind steps that only made new blocks. -/
theorem Grew.after {a b c : World} {u v : Value} (k : Kept noBlock a b) (h : Grew b c u v) : Grew a c u v :=
  ⟨(k.mono (fun _ _ h => h.elim)).step h.kept, fun i hi => (h.at_ i hi).imp id (fun h1 => ⟨Nat.le_trans k.size h1.1, h1.2⟩)⟩
theorem Grew.then_ {a b c : World} {u v : Value} (h : Grew a b u v) (k : Kept noBlock b c) : Grew a c u v :=
  ⟨h.kept.trans k (fun _ _ h => h.elim), fun i hi => (h.at_ i hi).imp id (fun h1 => ⟨h1.1, Nat.lt_of_lt_of_le h1.2 k.size⟩)⟩
/-- A row that grew out of nothing, or out of one that came since. -/
theorem Grew.new {a b c : World} {u v : Value} (h : Grew b c u v) (k : Kept noBlock a b) (hu : ∀ i, u.ownBlock = some i → a.heap.size ≤ i) : Kept noBlock a c ∧ ∀ i, v.ownBlock = some i → a.heap.size ≤ i := by
  refine ⟨k.trans h.kept (fun i hi h1 => absurd (hu i h1) (by omega)), fun i hi => ?_⟩
  rcases h.at_ i hi with h1 | h1
  · exact hu i h1
  · exact Nat.le_trans k.size h1.1
end Go.Proofs.YthmjjhjblokjeaaGreat

/-
  Commands by numbers, as the statements of layer 6 draw them. No statement is proved here.
-/
namespace Go.Proofs.YthmjjhjblokjeaaGreat
open Go.RowKit

/-- A say. -/
structure SayV where
  op : UInt8
  client : UInt8
  seq : UInt8
  key : UInt8
  value : UInt8
  old : UInt8
def u8v (x : UInt8) : Value := .int .u8 (x.toNat : Int)
def SayV.cells (s : SayV) : List Value := [.int .u8 (s.op.toNat : Int), .int .u8 (s.client.toNat : Int), .int .u8 (s.seq.toNat : Int), .int .u8 (s.key.toNat : Int), .int .u8 (s.value.toNat : Int), .int .u8 (s.old.toNat : Int)]
def SayV.val (s : SayV) : Value := .agg #[.int .u8 (s.op.toNat : Int), .int .u8 (s.client.toNat : Int), .int .u8 (s.seq.toNat : Int), .int .u8 (s.key.toNat : Int), .int .u8 (s.value.toNat : Int), .int .u8 (s.old.toNat : Int)]
/-- The texts of says. -/
def keyText (k : Nat) : ByteArray := (⟨#[107]⟩ : ByteArray) ++ (⟨#[97, 98, 99, 100, 101, 102, 103, 104]⟩ : ByteArray).extract (k % 8) (k % 8 + 1)
def valText (k : Nat) : ByteArray := (⟨#[118]⟩ : ByteArray).extract 0 (k % 2) ++ (⟨#[48, 49, 50, 51, 52, 53, 54, 55, 56, 57]⟩ : ByteArray).extract (k % 10) (k % 10 + 1)
def SayV.cmd (s : SayV) : CmdV :=
  if s.op.toNat % 4 = 0 then noCmd
  else ⟨((s.op.toNat % 4 : Nat) : Int), ((s.client.toNat % 4 : Nat) : Int), ((s.seq.toNat % 40 : Nat) : Int), keyText s.key.toNat, if s.op.toNat % 4 = 2 then ⟨#[]⟩ else valText s.value.toNat, if s.op.toNat % 4 = 3 then valText s.old.toNat else ⟨#[]⟩⟩
theorem keyText_size (k : Nat) : (keyText k).size = 2 := by
  unfold keyText
  rw [ByteArray.size_append, ByteArray.size_extract]
  have : (⟨#[97, 98, 99, 100, 101, 102, 103, 104]⟩ : ByteArray).size = 8 := rfl
  have h1 : (⟨#[107]⟩ : ByteArray).size = 1 := rfl
  omega
theorem valText_size (k : Nat) : (valText k).size ≤ 2 := by
  unfold valText
  rw [ByteArray.size_append, ByteArray.size_extract, ByteArray.size_extract]
  have : (⟨#[118]⟩ : ByteArray).size = 1 := rfl
  have h1 : (⟨#[48, 49, 50, 51, 52, 53, 54, 55, 56, 57]⟩ : ByteArray).size = 10 := rfl
  omega
theorem SayV.may (s : SayV) : s.cmd.May := by
  unfold SayV.cmd
  split
  · exact .inl ⟨rfl, rfl, rfl, rfl, rfl, rfl⟩
  · have hk := keyText_size s.key.toNat
    have hv := valText_size s.value.toNat
    have ho := valText_size s.old.toNat
    have e0 : (⟨#[]⟩ : ByteArray).size = 0 := rfl
    refine .inr ⟨by show (1 : Int) ≤ ((s.op.toNat % 4 : Nat) : Int); omega, by show ((s.op.toNat % 4 : Nat) : Int) ≤ 3; omega, by show (0 : Int) ≤ ((s.client.toNat % 4 : Nat) : Int); omega, by show ((s.client.toNat % 4 : Nat) : Int) ≤ 3; omega,
      by show (0 : Int) ≤ ((s.seq.toNat % 40 : Nat) : Int); omega, by show ((s.seq.toNat % 40 : Nat) : Int) ≤ 1048576; omega, by show 1 ≤ (keyText s.key.toNat).size; omega, by show (keyText s.key.toNat).size ≤ 8; omega, ?_, ?_⟩
    · show (if s.op.toNat % 4 = 2 then (⟨#[]⟩ : ByteArray) else valText s.value.toNat).size ≤ 16
      split <;> omega
    · show (if s.op.toNat % 4 = 3 then valText s.old.toNat else (⟨#[]⟩ : ByteArray)).size ≤ 16
      split <;> omega

theorem tmod_nat (a b : Nat) : ((a : Int)).tmod (b : Int) = ((a % b : Nat) : Int) := rfl
theorem wrap_nat (k : Nat) (h : k < 256) : IntKind.i64.wrap (k : Int) = (k : Int) := IntWalk.i64_in _ (by omega)
theorem slice_text (w : World) (s : ByteArray) (i : Nat) (h2 : i + 1 ≤ s.size) (h3 : i < 255) : (Instr.slice 9 (.string s) (some (.int .u8 (i : Int))) (some (.int .u8 (IntKind.u8.wrap ((i : Int) + 1)))) none).run Tryz.prog w = .ok (.string (s.extract i (i + 1))) w := by
  have e : IntKind.u8.wrap ((i : Int) + 1) = (i : Int) + 1 := by simp [IntKind.wrap, IntKind.signed, IntKind.bits]; omega
  rw [e]
  exact run_slice_string (P := Tryz.prog) w 9 s .u8 .u8 (i : Int) ((i : Int) + 1) Tryz.underlying9 (by omega) (by omega) (by omega)
theorem slice_head (w : World) (s : ByteArray) (j : Nat) (h2 : j ≤ s.size) : (Instr.slice 9 (.string s) none (some (.int .u8 (j : Int))) none).run Tryz.prog w = .ok (.string (s.extract 0 j)) w :=
  run_slice_string_h (P := Tryz.prog) w 9 s Tryz.underlying9 .u8 (j : Int) (by omega) (by omega)

/-- A command that is stored at a block. -/
def setC (w : World) (R : Nat) (e : CmdV) : World := ((((((w.setCell ⟨R, 0, none⟩ (.int .i64 e.op)).setCell ⟨R, 1, none⟩ (.int .i64 e.client)).setCell ⟨R, 2, none⟩ (.int .i64 e.seq)).setCell ⟨R, 3, none⟩ (.string e.key)).setCell ⟨R, 4, none⟩ (.string e.value)).setCell ⟨R, 5, none⟩ (.string e.old))
theorem setC_block {w : World} {R : Nat} {x e : CmdV} {t : TypeId} (h : w.heap[R]? = some (.cells x.cells.toArray t (0, 0))) : (setC w R e).heap[R]? = some (.cells e.cells.toArray t (0, 0)) := by
  unfold setC
  unfold CmdV.cells at h
  have h0 := heap_setCell_same w R 0 _ t (.int .i64 e.op) h
  have h1 := heap_setCell_same _ R 1 _ t (.int .i64 e.client) h0
  have h2 := heap_setCell_same _ R 2 _ t (.int .i64 e.seq) h1
  have h3 := heap_setCell_same _ R 3 _ t (.string e.key) h2
  have h4 := heap_setCell_same _ R 4 _ t (.string e.value) h3
  have h5 := heap_setCell_same _ R 5 _ t (.string e.old) h4
  rw [h5]
  simp [CmdV.cells]
theorem setC_kept (w : World) (R : Nat) (e : CmdV) : Kept (fun k => k = R) w (setC w R e) := by
  unfold setC
  exact (((((Kept.setCell w (by rfl) _).step (Kept.setCell _ (by rfl) _)).step (Kept.setCell _ (by rfl) _)).step (Kept.setCell _ (by rfl) _)).step (Kept.setCell _ (by rfl) _)).step (Kept.setCell _ (by rfl) _)

set_option maxHeartbeats 2000000 in
theorem say_any (s : SayV) (w : World) : Calls Tryz.prog 42 #[s.val] w fun e w' => e = .returned s.cmd.val ∧ Kept noBlock w w' := by
  obtain ⟨cv, hcv⟩ : ∃ cv, cv = s.cmd := ⟨_, rfl⟩
  rw [← hcv]
  unfold SayV.cmd at hcv
  have HC := Lib.hid hcv
  clear hcv
  obtain ⟨op, client, seq, key, value, old⟩ := s
  simp only at HC
  obtain ⟨o4, ho4⟩ : ∃ k, k = op.toNat % 4 := ⟨_, rfl⟩
  obtain ⟨c4, hc4⟩ : ∃ k, k = client.toNat % 4 := ⟨_, rfl⟩
  obtain ⟨s40, hs40⟩ : ∃ k, k = seq.toNat % 40 := ⟨_, rfl⟩
  obtain ⟨k8, hk8⟩ : ∃ k, k = key.toNat % 8 := ⟨_, rfl⟩
  obtain ⟨v2, hv2⟩ : ∃ k, k = value.toNat % 2 := ⟨_, rfl⟩
  obtain ⟨v10, hv10⟩ : ∃ k, k = value.toNat % 10 := ⟨_, rfl⟩
  obtain ⟨x2, hx2⟩ : ∃ k, k = old.toNat % 2 := ⟨_, rfl⟩
  obtain ⟨x10, hx10⟩ : ∃ k, k = old.toNat % 10 := ⟨_, rfl⟩
  have t1 : ((op.toNat : Int)).tmod 4 = (o4 : Int) := by rw [ho4]; exact tmod_nat _ 4
  have t2 : ((client.toNat : Int)).tmod 4 = (c4 : Int) := by rw [hc4]; exact tmod_nat _ 4
  have t3 : ((seq.toNat : Int)).tmod 40 = (s40 : Int) := by rw [hs40]; exact tmod_nat _ 40
  have t4 : ((key.toNat : Int)).tmod 8 = (k8 : Int) := by rw [hk8]; exact tmod_nat _ 8
  have t5 : ((value.toNat : Int)).tmod 2 = (v2 : Int) := by rw [hv2]; exact tmod_nat _ 2
  have t6 : ((value.toNat : Int)).tmod 10 = (v10 : Int) := by rw [hv10]; exact tmod_nat _ 10
  have t7 : ((old.toNat : Int)).tmod 2 = (x2 : Int) := by rw [hx2]; exact tmod_nat _ 2
  have t8 : ((old.toNat : Int)).tmod 10 = (x10 : Int) := by rw [hx10]; exact tmod_nat _ 10
  have z1 := fun w => slice_text w ⟨#[97, 98, 99, 100, 101, 102, 103, 104]⟩ k8 (by show k8 + 1 ≤ 8; omega) (by omega)
  have z2 := fun w => slice_head w ⟨#[118]⟩ v2 (by show v2 ≤ 1; omega)
  have z3 := fun w => slice_text w ⟨#[48, 49, 50, 51, 52, 53, 54, 55, 56, 57]⟩ v10 (by show v10 + 1 ≤ 10; omega) (by omega)
  have z4 := fun w => slice_head w ⟨#[118]⟩ x2 (by show x2 ≤ 1; omega)
  have z5 := fun w => slice_text w ⟨#[48, 49, 50, 51, 52, 53, 54, 55, 56, 57]⟩ x10 (by show x10 + 1 ≤ 10; omega) (by omega)
  obtain ⟨KK, hK⟩ : ∃ KK, KK = (⟨#[97, 98, 99, 100, 101, 102, 103, 104]⟩ : ByteArray).extract k8 (k8 + 1) := ⟨_, rfl⟩
  obtain ⟨V, hV⟩ : ∃ K, K = (⟨#[118]⟩ : ByteArray).extract 0 v2 := ⟨_, rfl⟩
  obtain ⟨V', hV'⟩ : ∃ K, K = (⟨#[48, 49, 50, 51, 52, 53, 54, 55, 56, 57]⟩ : ByteArray).extract v10 (v10 + 1) := ⟨_, rfl⟩
  obtain ⟨X, hX⟩ : ∃ K, K = (⟨#[118]⟩ : ByteArray).extract 0 x2 := ⟨_, rfl⟩
  obtain ⟨X', hX'⟩ : ∃ K, K = (⟨#[48, 49, 50, 51, 52, 53, 54, 55, 56, 57]⟩ : ByteArray).extract x10 (x10 + 1) := ⟨_, rfl⟩
  rw [← hK] at z1
  rw [← hV] at z2
  rw [← hV'] at z3
  rw [← hX] at z4
  rw [← hX'] at z5
  have EK : Hid (keyText key.toNat = (⟨#[107]⟩ : ByteArray) ++ KK) := by unfold Hid keyText; rw [hK, hk8]
  have EV : Hid (valText value.toNat = V ++ V') := by unfold Hid valText; rw [hV, hV', hv10, hv2]
  have EX : Hid (valText old.toNat = X ++ X') := by unfold Hid valText; rw [hX, hX', hx10, hx2]
  rw [EK.out, EV.out, EX.out, ← ho4, ← hc4, ← hs40] at HC
  have b1 : o4 < 4 := by omega
  have b2 : c4 < 4 := by omega
  have b3 : s40 < 40 := by omega
  have b4 : k8 < 8 := by omega
  have b5 : v2 < 2 := by omega
  have b6 : v10 < 10 := by omega
  have b7 : x2 < 2 := by omega
  have b8 : x10 < 10 := by omega
  have W1 := Lib.hid (wrap_nat o4 (by omega))
  have W2 := Lib.hid (wrap_nat c4 (by omega))
  have W3 := Lib.hid (wrap_nat s40 (by omega))
  have sK : KK.size ≤ 8 := by rw [hK, ByteArray.size_extract]; show min (k8 + 1) 8 - k8 ≤ 8; omega
  have sV : V.size ≤ 1 := by rw [hV, ByteArray.size_extract]; show min v2 1 - 0 ≤ 1; omega
  have sV' : V'.size ≤ 10 := by rw [hV', ByteArray.size_extract]; show min (v10 + 1) 10 - v10 ≤ 10; omega
  have sX : X.size ≤ 1 := by rw [hX, ByteArray.size_extract]; show min x2 1 - 0 ≤ 1; omega
  have sX' : X'.size ≤ 10 := by rw [hX', ByteArray.size_extract]; show min (x10 + 1) 10 - x10 ≤ 10; omega
  have nK : (9223372036854775807 < 1 + KK.size) = False := eq_false (by omega)
  have nV : (9223372036854775807 < V.size + V'.size) = False := eq_false (by omega)
  have nX : (9223372036854775807 < X.size + X'.size) = False := eq_false (by omega)
  clear ho4 hc4 hs40 hk8 hv2 hv10 hx2 hx10 hK hV hV' hX hX' EK EV EX
  unfold SayV.val
  simp only
  obtain ⟨w1, hw1⟩ : ∃ w1, w1 = (w.alloc (.cells #[.int .u8 (op.toNat : Int), .int .u8 (client.toNat : Int), .int .u8 (seq.toNat : Int), .int .u8 (key.toNat : Int), .int .u8 (value.toNat : Int), .int .u8 (old.toNat : Int)] 98)).alloc (.cells noCmd.cells.toArray 54) := ⟨_, rfl⟩
  have hs1 : w1.heap.size = w.heap.size + 1 + 1 := by rw [hw1]; simp
  have k1 : Kept noBlock w w1 := by rw [hw1]; exact (Kept.alloc _ _ _).step (Kept.alloc _ _ _)
  have b1 : w1.heap[w.heap.size]? = some (.cells #[.int .u8 (op.toNat : Int), .int .u8 (client.toNat : Int), .int .u8 (seq.toNat : Int), .int .u8 (key.toNat : Int), .int .u8 (value.toNat : Int), .int .u8 (old.toNat : Int)] 98 (0, 0)) := by
    rw [hw1]; exact (Kept.alloc noBlock _ _).blk (heap_alloc_new w _) (fun h => h)
  have b2 : w1.heap[w.heap.size + 1]? = some (.cells noCmd.cells.toArray 54 (0, 0)) := by
    have := heap_alloc_new (w.alloc (.cells #[.int .u8 (op.toNat : Int), .int .u8 (client.toNat : Int), .int .u8 (seq.toNat : Int), .int .u8 (key.toNat : Int), .int .u8 (value.toNat : Int), .int .u8 (old.toNat : Int)] 98)) (.cells noCmd.cells.toArray 54)
    rw [hw1]
    simpa using this
  have c0 : w1.cell? ⟨w.heap.size, 0, none⟩ = some (.int .u8 (op.toNat : Int)) := cell_of_row _ _ _ _ _ _ b1
  have c1 : w1.cell? ⟨w.heap.size, 1, none⟩ = some (.int .u8 (client.toNat : Int)) := cell_of_row _ _ _ _ _ _ b1
  have c2 : w1.cell? ⟨w.heap.size, 2, none⟩ = some (.int .u8 (seq.toNat : Int)) := cell_of_row _ _ _ _ _ _ b1
  have c3 : w1.cell? ⟨w.heap.size, 3, none⟩ = some (.int .u8 (key.toNat : Int)) := cell_of_row _ _ _ _ _ _ b1
  have c4 : w1.cell? ⟨w.heap.size, 4, none⟩ = some (.int .u8 (value.toNat : Int)) := cell_of_row _ _ _ _ _ _ b1
  have HSS : Hid (∀ w', Kept noBlock w1 w' → w'.cell? ⟨w.heap.size, 0, none⟩ = some (.int .u8 (op.toNat : Int)) ∧ w'.cell? ⟨w.heap.size, 1, none⟩ = some (.int .u8 (client.toNat : Int)) ∧ w'.cell? ⟨w.heap.size, 2, none⟩ = some (.int .u8 (seq.toNat : Int)) ∧ w'.cell? ⟨w.heap.size, 3, none⟩ = some (.int .u8 (key.toNat : Int)) ∧ w'.cell? ⟨w.heap.size, 4, none⟩ = some (.int .u8 (value.toNat : Int))) := fun w' k => ⟨k.cell c0 (fun h => h), k.cell c1 (fun h => h), k.cell c2 (fun h => h), k.cell c3 (fun h => h), k.cell c4 (fun h => h)⟩
  unfold CmdV.cells noCmd at hw1
  have HB1 := Lib.hid b1
  have HB2 := Lib.hid b2
  have HS1 := Lib.hid hs1
  clear b1 b2 hs1
  go_enter Tryz.func42, Tryz.ntmps42
  go_upto_region 1 with (fail)
  rw [← hw1]
  clear hw1
  refine wp_region_noPanic ?_
  refine wp_region_held_drew (S := fun w' => w'.cell? ⟨w.heap.size, 0, none⟩ = some (.int .u8 (op.toNat : Int)) ∧ w'.cell? ⟨w.heap.size, 1, none⟩ = some (.int .u8 (client.toNat : Int)) ∧ w'.cell? ⟨w.heap.size, 2, none⟩ = some (.int .u8 (seq.toNat : Int)) ∧ w'.cell? ⟨w.heap.size, 3, none⟩ = some (.int .u8 (key.toNat : Int)) ∧ w'.cell? ⟨w.heap.size, 4, none⟩ = some (.int .u8 (value.toNat : Int))) (by kernel_rfl) ⟨c0, c1, c2, c3, c4⟩ (fun hHeld => ?_)
  refine wpAnyH_take (i := 0) (oi := ⟨some 4, Op.fieldAddr 98 (Operand.tmp 1) 0, 0, _, _, none⟩) (v := ?v0n3k1) rfl (by kernel_rfl) (by kernel_rfl) (by kernel_rfl) (fun _ _ _ h => h) (Or.inl ⟨by rfl, ?y0n3k1⟩) hHeld ?z0n3k1
  case y0n3k1 => intro w hSw; (try dsimp only at hSw); go_simp <;> rfl
  try simp only [Act.put, List.setIfInBounds_toArray, List.set_cons_zero, List.set_cons_succ]
  refine wpAnyH_take (i := 1) (oi := ⟨some 5, Op.load 5 (Operand.tmp 4), 5, _, _, none⟩) (v := ?v1n3k2) rfl (by kernel_rfl) (by kernel_rfl) (by kernel_rfl) (fun _ _ _ h => h) (Or.inl ⟨by rfl, ?y1n3k2⟩) hHeld ?z1n3k2
  case y1n3k2 => intro w hSw; (try dsimp only at hSw); go_simp <;> rfl
  try simp only [Act.put, List.setIfInBounds_toArray, List.set_cons_zero, List.set_cons_succ]
  refine wpAnyH_take (i := 2) (oi := ⟨some 6, Op.binOp BinOp.rem 5 (Operand.tmp 5) (Operand.const (Value.int IntKind.u8 4)) 5, 5, _, _, none⟩) (v := ?v2n3k3) rfl (by kernel_rfl) (by kernel_rfl) (by kernel_rfl) (fun _ _ _ h => h) (Or.inl ⟨by rfl, ?y2n3k3⟩) hHeld ?z2n3k3
  case y2n3k3 => intro w hSw; (try dsimp only at hSw); go_simp <;> rfl
  try simp only [Act.put, List.setIfInBounds_toArray, List.set_cons_zero, List.set_cons_succ]
  refine wpAnyH_take (i := 3) (oi := ⟨some 7, Op.convert 5 52 (Operand.tmp 6), 52, _, _, none⟩) (v := ?v3n3k4) rfl (by kernel_rfl) (by kernel_rfl) (by kernel_rfl) (fun _ _ _ h => h) (Or.inl ⟨by rfl, ?y3n3k4⟩) hHeld ?z3n3k4
  case y3n3k4 => intro w hSw; (try dsimp only at hSw); go_simp <;> rfl
  try simp only [Act.put, List.setIfInBounds_toArray, List.set_cons_zero, List.set_cons_succ]
  refine wpAnyH_take (i := 4) (oi := ⟨some 8, Op.fieldAddr 98 (Operand.tmp 1) 1, 0, _, _, none⟩) (v := ?v4n3k5) rfl (by kernel_rfl) (by kernel_rfl) (by kernel_rfl) (fun _ _ _ h => h) (Or.inl ⟨by rfl, ?y4n3k5⟩) hHeld ?z4n3k5
  case y4n3k5 => intro w hSw; (try dsimp only at hSw); go_simp <;> rfl
  try simp only [Act.put, List.setIfInBounds_toArray, List.set_cons_zero, List.set_cons_succ]
  refine wpAnyH_take (i := 5) (oi := ⟨some 9, Op.load 5 (Operand.tmp 8), 5, _, _, none⟩) (v := ?v5n3k6) rfl (by kernel_rfl) (by kernel_rfl) (by kernel_rfl) (fun _ _ _ h => h) (Or.inl ⟨by rfl, ?y5n3k6⟩) hHeld ?z5n3k6
  case y5n3k6 => intro w hSw; (try dsimp only at hSw); go_simp <;> rfl
  try simp only [Act.put, List.setIfInBounds_toArray, List.set_cons_zero, List.set_cons_succ]
  refine wpAnyH_take (i := 6) (oi := ⟨some 10, Op.binOp BinOp.rem 5 (Operand.tmp 9) (Operand.const (Value.int IntKind.u8 4)) 5, 5, _, _, none⟩) (v := ?v6n3k7) rfl (by kernel_rfl) (by kernel_rfl) (by kernel_rfl) (fun _ _ _ h => h) (Or.inl ⟨by rfl, ?y6n3k7⟩) hHeld ?z6n3k7
  case y6n3k7 => intro w hSw; (try dsimp only at hSw); go_simp <;> rfl
  try simp only [Act.put, List.setIfInBounds_toArray, List.set_cons_zero, List.set_cons_succ]
  refine wpAnyH_take (i := 7) (oi := ⟨some 11, Op.convert 5 3 (Operand.tmp 10), 3, _, _, none⟩) (v := ?v7n3k8) rfl (by kernel_rfl) (by kernel_rfl) (by kernel_rfl) (fun _ _ _ h => h) (Or.inl ⟨by rfl, ?y7n3k8⟩) hHeld ?z7n3k8
  case y7n3k8 => intro w hSw; (try dsimp only at hSw); go_simp <;> rfl
  try simp only [Act.put, List.setIfInBounds_toArray, List.set_cons_zero, List.set_cons_succ]
  refine wpAnyH_take (i := 8) (oi := ⟨some 12, Op.fieldAddr 98 (Operand.tmp 1) 2, 0, _, _, none⟩) (v := ?v8n3k9) rfl (by kernel_rfl) (by kernel_rfl) (by kernel_rfl) (fun _ _ _ h => h) (Or.inl ⟨by rfl, ?y8n3k9⟩) hHeld ?z8n3k9
  case y8n3k9 => intro w hSw; (try dsimp only at hSw); go_simp <;> rfl
  try simp only [Act.put, List.setIfInBounds_toArray, List.set_cons_zero, List.set_cons_succ]
  refine wpAnyH_take (i := 9) (oi := ⟨some 13, Op.load 5 (Operand.tmp 12), 5, _, _, none⟩) (v := ?v9n3k10) rfl (by kernel_rfl) (by kernel_rfl) (by kernel_rfl) (fun _ _ _ h => h) (Or.inl ⟨by rfl, ?y9n3k10⟩) hHeld ?z9n3k10
  case y9n3k10 => intro w hSw; (try dsimp only at hSw); go_simp <;> rfl
  try simp only [Act.put, List.setIfInBounds_toArray, List.set_cons_zero, List.set_cons_succ]
  refine wpAnyH_take (i := 10) (oi := ⟨some 14, Op.binOp BinOp.rem 5 (Operand.tmp 13) (Operand.const (Value.int IntKind.u8 40)) 5, 5, _, _, none⟩) (v := ?v10n3k11) rfl (by kernel_rfl) (by kernel_rfl) (by kernel_rfl) (fun _ _ _ h => h) (Or.inl ⟨by rfl, ?y10n3k11⟩) hHeld ?z10n3k11
  case y10n3k11 => intro w hSw; (try dsimp only at hSw); go_simp <;> rfl
  try simp only [Act.put, List.setIfInBounds_toArray, List.set_cons_zero, List.set_cons_succ]
  refine wpAnyH_take (i := 11) (oi := ⟨some 15, Op.convert 5 3 (Operand.tmp 14), 3, _, _, none⟩) (v := ?v11n3k12) rfl (by kernel_rfl) (by kernel_rfl) (by kernel_rfl) (fun _ _ _ h => h) (Or.inl ⟨by rfl, ?y11n3k12⟩) hHeld ?z11n3k12
  case y11n3k12 => intro w hSw; (try dsimp only at hSw); go_simp <;> rfl
  try simp only [Act.put, List.setIfInBounds_toArray, List.set_cons_zero, List.set_cons_succ]
  refine wpAnyH_take (i := 12) (oi := ⟨some 16, Op.fieldAddr 98 (Operand.tmp 1) 3, 0, _, _, none⟩) (v := ?v12n3k13) rfl (by kernel_rfl) (by kernel_rfl) (by kernel_rfl) (fun _ _ _ h => h) (Or.inl ⟨by rfl, ?y12n3k13⟩) hHeld ?z12n3k13
  case y12n3k13 => intro w hSw; (try dsimp only at hSw); go_simp <;> rfl
  try simp only [Act.put, List.setIfInBounds_toArray, List.set_cons_zero, List.set_cons_succ]
  refine wpAnyH_take (i := 13) (oi := ⟨some 17, Op.load 5 (Operand.tmp 16), 5, _, _, none⟩) (v := ?v13n3k14) rfl (by kernel_rfl) (by kernel_rfl) (by kernel_rfl) (fun _ _ _ h => h) (Or.inl ⟨by rfl, ?y13n3k14⟩) hHeld ?z13n3k14
  case y13n3k14 => intro w hSw; (try dsimp only at hSw); go_simp <;> rfl
  try simp only [Act.put, List.setIfInBounds_toArray, List.set_cons_zero, List.set_cons_succ]
  refine wpAnyH_take (i := 14) (oi := ⟨some 18, Op.binOp BinOp.rem 5 (Operand.tmp 17) (Operand.const (Value.int IntKind.u8 8)) 5, 5, _, _, none⟩) (v := ?v14n3k15) rfl (by kernel_rfl) (by kernel_rfl) (by kernel_rfl) (fun _ _ _ h => h) (Or.inl ⟨by rfl, ?y14n3k15⟩) hHeld ?z14n3k15
  case y14n3k15 => intro w hSw; (try dsimp only at hSw); go_simp <;> rfl
  try simp only [Act.put, List.setIfInBounds_toArray, List.set_cons_zero, List.set_cons_succ]
  refine wpAnyH_take (i := 15) (oi := ⟨some 19, Op.fieldAddr 98 (Operand.tmp 1) 3, 0, _, _, none⟩) (v := ?v15n3k16) rfl (by kernel_rfl) (by kernel_rfl) (by kernel_rfl) (fun _ _ _ h => h) (Or.inl ⟨by rfl, ?y15n3k16⟩) hHeld ?z15n3k16
  case y15n3k16 => intro w hSw; (try dsimp only at hSw); go_simp <;> rfl
  try simp only [Act.put, List.setIfInBounds_toArray, List.set_cons_zero, List.set_cons_succ]
  refine wpAnyH_take (i := 16) (oi := ⟨some 20, Op.load 5 (Operand.tmp 19), 5, _, _, none⟩) (v := ?v16n3k17) rfl (by kernel_rfl) (by kernel_rfl) (by kernel_rfl) (fun _ _ _ h => h) (Or.inl ⟨by rfl, ?y16n3k17⟩) hHeld ?z16n3k17
  case y16n3k17 => intro w hSw; (try dsimp only at hSw); go_simp <;> rfl
  try simp only [Act.put, List.setIfInBounds_toArray, List.set_cons_zero, List.set_cons_succ]
  refine wpAnyH_take (i := 17) (oi := ⟨some 21, Op.binOp BinOp.rem 5 (Operand.tmp 20) (Operand.const (Value.int IntKind.u8 8)) 5, 5, _, _, none⟩) (v := ?v17n3k18) rfl (by kernel_rfl) (by kernel_rfl) (by kernel_rfl) (fun _ _ _ h => h) (Or.inl ⟨by rfl, ?y17n3k18⟩) hHeld ?z17n3k18
  case y17n3k18 => intro w hSw; (try dsimp only at hSw); go_simp <;> rfl
  try simp only [Act.put, List.setIfInBounds_toArray, List.set_cons_zero, List.set_cons_succ]
  refine wpAnyH_take (i := 18) (oi := ⟨some 22, Op.binOp BinOp.add 5 (Operand.tmp 21) (Operand.const (Value.int IntKind.u8 1)) 5, 5, _, _, none⟩) (v := ?v18n3k19) rfl (by kernel_rfl) (by kernel_rfl) (by kernel_rfl) (fun _ _ _ h => h) (Or.inl ⟨by rfl, ?y18n3k19⟩) hHeld ?z18n3k19
  case y18n3k19 => intro w hSw; (try dsimp only at hSw); go_simp <;> rfl
  try simp only [Act.put, List.setIfInBounds_toArray, List.set_cons_zero, List.set_cons_succ]
  refine wpAnyH_take (i := 19) (oi := ⟨some 23, Op.slice 9 (Operand.const (Value.string { data := #[97, 98, 99, 100, 101, 102, 103, 104] })) (some (Operand.tmp 18)) (some (Operand.tmp 22)) none, 9, _, _, none⟩) (v := ?v19n3k20) rfl (by kernel_rfl) (by kernel_rfl) (by kernel_rfl) (fun _ _ _ h => h) (Or.inl ⟨by rfl, ?y19n3k20⟩) hHeld ?z19n3k20
  case y19n3k20 => intro w hSw; (try dsimp only at hSw); go_simp <;> rfl
  try simp only [Act.put, List.setIfInBounds_toArray, List.set_cons_zero, List.set_cons_succ]
  refine wpAnyH_take (i := 20) (oi := ⟨some 24, Op.binOp BinOp.add 9 (Operand.const (Value.string { data := #[107] })) (Operand.tmp 23) 9, 9, _, _, none⟩) (v := ?v20n3k21) rfl (by kernel_rfl) (by kernel_rfl) (by kernel_rfl) (fun _ _ _ h => h) (Or.inl ⟨by rfl, ?y20n3k21⟩) hHeld ?z20n3k21
  case y20n3k21 => intro w hSw; (try dsimp only at hSw); go_simp <;> rfl
  try simp only [Act.put, List.setIfInBounds_toArray, List.set_cons_zero, List.set_cons_succ]
  refine wpAnyH_take (i := 21) (oi := ⟨some 25, Op.fieldAddr 98 (Operand.tmp 1) 4, 0, _, _, none⟩) (v := ?v21n3k22) rfl (by kernel_rfl) (by kernel_rfl) (by kernel_rfl) (fun _ _ _ h => h) (Or.inl ⟨by rfl, ?y21n3k22⟩) hHeld ?z21n3k22
  case y21n3k22 => intro w hSw; (try dsimp only at hSw); go_simp <;> rfl
  try simp only [Act.put, List.setIfInBounds_toArray, List.set_cons_zero, List.set_cons_succ]
  refine wpAnyH_take (i := 22) (oi := ⟨some 26, Op.load 5 (Operand.tmp 25), 5, _, _, none⟩) (v := ?v22n3k23) rfl (by kernel_rfl) (by kernel_rfl) (by kernel_rfl) (fun _ _ _ h => h) (Or.inl ⟨by rfl, ?y22n3k23⟩) hHeld ?z22n3k23
  case y22n3k23 => intro w hSw; (try dsimp only at hSw); go_simp <;> rfl
  try simp only [Act.put, List.setIfInBounds_toArray, List.set_cons_zero, List.set_cons_succ]
  refine wpAnyH_take (i := 23) (oi := ⟨some 27, Op.binOp BinOp.rem 5 (Operand.tmp 26) (Operand.const (Value.int IntKind.u8 2)) 5, 5, _, _, none⟩) (v := ?v23n3k24) rfl (by kernel_rfl) (by kernel_rfl) (by kernel_rfl) (fun _ _ _ h => h) (Or.inl ⟨by rfl, ?y23n3k24⟩) hHeld ?z23n3k24
  case y23n3k24 => intro w hSw; (try dsimp only at hSw); go_simp <;> rfl
  try simp only [Act.put, List.setIfInBounds_toArray, List.set_cons_zero, List.set_cons_succ]
  refine wpAnyH_take (i := 24) (oi := ⟨some 28, Op.slice 9 (Operand.const (Value.string { data := #[118] })) none (some (Operand.tmp 27)) none, 9, _, _, none⟩) (v := ?v24n3k25) rfl (by kernel_rfl) (by kernel_rfl) (by kernel_rfl) (fun _ _ _ h => h) (Or.inl ⟨by rfl, ?y24n3k25⟩) hHeld ?z24n3k25
  case y24n3k25 => intro w hSw; (try dsimp only at hSw); go_simp <;> rfl
  try simp only [Act.put, List.setIfInBounds_toArray, List.set_cons_zero, List.set_cons_succ]
  refine wpAnyH_take (i := 25) (oi := ⟨some 29, Op.fieldAddr 98 (Operand.tmp 1) 4, 0, _, _, none⟩) (v := ?v25n3k26) rfl (by kernel_rfl) (by kernel_rfl) (by kernel_rfl) (fun _ _ _ h => h) (Or.inl ⟨by rfl, ?y25n3k26⟩) hHeld ?z25n3k26
  case y25n3k26 => intro w hSw; (try dsimp only at hSw); go_simp <;> rfl
  try simp only [Act.put, List.setIfInBounds_toArray, List.set_cons_zero, List.set_cons_succ]
  refine wpAnyH_take (i := 26) (oi := ⟨some 30, Op.load 5 (Operand.tmp 29), 5, _, _, none⟩) (v := ?v26n3k27) rfl (by kernel_rfl) (by kernel_rfl) (by kernel_rfl) (fun _ _ _ h => h) (Or.inl ⟨by rfl, ?y26n3k27⟩) hHeld ?z26n3k27
  case y26n3k27 => intro w hSw; (try dsimp only at hSw); go_simp <;> rfl
  try simp only [Act.put, List.setIfInBounds_toArray, List.set_cons_zero, List.set_cons_succ]
  refine wpAnyH_take (i := 27) (oi := ⟨some 31, Op.binOp BinOp.rem 5 (Operand.tmp 30) (Operand.const (Value.int IntKind.u8 10)) 5, 5, _, _, none⟩) (v := ?v27n3k28) rfl (by kernel_rfl) (by kernel_rfl) (by kernel_rfl) (fun _ _ _ h => h) (Or.inl ⟨by rfl, ?y27n3k28⟩) hHeld ?z27n3k28
  case y27n3k28 => intro w hSw; (try dsimp only at hSw); go_simp <;> rfl
  try simp only [Act.put, List.setIfInBounds_toArray, List.set_cons_zero, List.set_cons_succ]
  refine wpAnyH_take (i := 28) (oi := ⟨some 32, Op.fieldAddr 98 (Operand.tmp 1) 4, 0, _, _, none⟩) (v := ?v28n3k29) rfl (by kernel_rfl) (by kernel_rfl) (by kernel_rfl) (fun _ _ _ h => h) (Or.inl ⟨by rfl, ?y28n3k29⟩) hHeld ?z28n3k29
  case y28n3k29 => intro w hSw; (try dsimp only at hSw); go_simp <;> rfl
  try simp only [Act.put, List.setIfInBounds_toArray, List.set_cons_zero, List.set_cons_succ]
  refine wpAnyH_take (i := 29) (oi := ⟨some 33, Op.load 5 (Operand.tmp 32), 5, _, _, none⟩) (v := ?v29n3k30) rfl (by kernel_rfl) (by kernel_rfl) (by kernel_rfl) (fun _ _ _ h => h) (Or.inl ⟨by rfl, ?y29n3k30⟩) hHeld ?z29n3k30
  case y29n3k30 => intro w hSw; (try dsimp only at hSw); go_simp <;> rfl
  try simp only [Act.put, List.setIfInBounds_toArray, List.set_cons_zero, List.set_cons_succ]
  refine wpAnyH_take (i := 30) (oi := ⟨some 34, Op.binOp BinOp.rem 5 (Operand.tmp 33) (Operand.const (Value.int IntKind.u8 10)) 5, 5, _, _, none⟩) (v := ?v30n3k31) rfl (by kernel_rfl) (by kernel_rfl) (by kernel_rfl) (fun _ _ _ h => h) (Or.inl ⟨by rfl, ?y30n3k31⟩) hHeld ?z30n3k31
  case y30n3k31 => intro w hSw; (try dsimp only at hSw); go_simp <;> rfl
  try simp only [Act.put, List.setIfInBounds_toArray, List.set_cons_zero, List.set_cons_succ]
  refine wpAnyH_take (i := 31) (oi := ⟨some 35, Op.binOp BinOp.add 5 (Operand.tmp 34) (Operand.const (Value.int IntKind.u8 1)) 5, 5, _, _, none⟩) (v := ?v31n3k32) rfl (by kernel_rfl) (by kernel_rfl) (by kernel_rfl) (fun _ _ _ h => h) (Or.inl ⟨by rfl, ?y31n3k32⟩) hHeld ?z31n3k32
  case y31n3k32 => intro w hSw; (try dsimp only at hSw); go_simp <;> rfl
  try simp only [Act.put, List.setIfInBounds_toArray, List.set_cons_zero, List.set_cons_succ]
  refine wpAnyH_take (i := 32) (oi := ⟨some 36, Op.slice 9 (Operand.const (Value.string { data := #[48, 49, 50, 51, 52, 53, 54, 55, 56, 57] })) (some (Operand.tmp 31)) (some (Operand.tmp 35)) none, 9, _, _, none⟩) (v := ?v32n3k33) rfl (by kernel_rfl) (by kernel_rfl) (by kernel_rfl) (fun _ _ _ h => h) (Or.inl ⟨by rfl, ?y32n3k33⟩) hHeld ?z32n3k33
  case y32n3k33 => intro w hSw; (try dsimp only at hSw); go_simp <;> rfl
  try simp only [Act.put, List.setIfInBounds_toArray, List.set_cons_zero, List.set_cons_succ]
  refine wpAnyH_take (i := 33) (oi := ⟨some 37, Op.binOp BinOp.add 9 (Operand.tmp 28) (Operand.tmp 36) 9, 9, _, _, none⟩) (v := ?v33n3k34) rfl (by kernel_rfl) (by kernel_rfl) (by kernel_rfl) (fun _ _ _ h => h) (Or.inl ⟨by rfl, ?y33n3k34⟩) hHeld ?z33n3k34
  case y33n3k34 => intro w hSw; (try dsimp only at hSw); go_simp <;> rfl
  try simp only [Act.put, List.setIfInBounds_toArray, List.set_cons_zero, List.set_cons_succ]
  refine wpAnyH_take (i := 34) (oi := ⟨some 38, Op.build 54 #[(0, Operand.tmp 7), (1, Operand.tmp 11), (2, Operand.tmp 15), (3, Operand.tmp 24), (4, Operand.tmp 37)], 54, _, _, none⟩) (v := ?v34n3k35) rfl (by kernel_rfl) (by kernel_rfl) (by kernel_rfl) (fun _ _ _ h => h) (Or.inl ⟨by rfl, ?y34n3k35⟩) hHeld ?z34n3k35
  case y34n3k35 => intro w hSw; (try dsimp only at hSw); go_simp <;> rfl
  try simp only [Act.put, List.setIfInBounds_toArray, List.set_cons_zero, List.set_cons_succ]
  refine wpAnyH_ready (rs := [35]) (by kernel_rfl) (by simp) ?_
  refine AllReadyH.cons (o := ⟨some 3, Op.alloc 54, 0, _, _, none⟩) rfl (fun K hK => ?_) AllReadyH.nil
  go_simp
  refine hK.out _ _ (HSS.out _ ((Kept.drew _ _).step (Kept.alloc _ _ _))) (fun hHeld => ?_)
  clear hK K
  try simp only [Act.put, List.setIfInBounds_toArray, List.set_cons_zero, List.set_cons_succ]
  refine wpAnyH_ready (rs := [36]) (by kernel_rfl) (by simp) ?_
  refine AllReadyH.cons (o := ⟨none, Op.store 54 (Operand.tmp 3) (Operand.tmp 38), 0, _, _, none⟩) rfl (fun K hK => ?_) AllReadyH.nil
  go_simp
  rw [W1.out, W2.out, W3.out]
  refine hK.out _ _ (HSS.out _ ((Kept.alloc _ _ _).step (Kept.drew _ _))) (fun hHeld => ?_)
  clear hK K
  try simp only [Act.put, List.setIfInBounds_toArray, List.set_cons_zero, List.set_cons_succ]
  refine wpAnyH_done (by kernel_rfl) ?_ _
  refine NoPanic.normal ?_
  clear hHeld c0 c1 c2 c3 c4 z1 z2 z3 nK nV t2 t3 t4 t5 t6
  have HB3 := Lib.hid ((Kept.drew noBlock _).blk (heap_alloc_new w1 (.cells #[.int .i64 (o4 : Int), .int .i64 (c4 : Int), .int .i64 (s40 : Int), .string ((⟨#[107]⟩ : ByteArray) ++ KK), .string (V ++ V'), .string ⟨#[]⟩] 54)) (fun h => h))
  have K2 := Lib.hid ((Kept.alloc noBlock w1 (.cells #[.int .i64 (o4 : Int), .int .i64 (c4 : Int), .int .i64 (s40 : Int), .string ((⟨#[107]⟩ : ByteArray) ++ KK), .string (V ++ V'), .string ⟨#[]⟩] 54)).step (Kept.drew noBlock _))
  generalize (w1.alloc (.cells #[.int .i64 (o4 : Int), .int .i64 (c4 : Int), .int .i64 (s40 : Int), .string ((⟨#[107]⟩ : ByteArray) ++ KK), .string (V ++ V'), .string ⟨#[]⟩] 54)).drew = w2 at HB3 K2 ⊢
  have HB2' := Lib.hid (K2.out.blk HB2.out (fun h => h))
  have KZ := Lib.hid (k1.step K2.out)
  have HNE : Hid (w.heap.size + 1 ≠ w1.heap.size) := by unfold Hid; rw [HS1.out]; omega
  have h4 : o4 = 0 ∨ o4 = 1 ∨ o4 = 2 ∨ o4 = 3 := by omega
  clear b1 b2 b3 b4 b5 b6 k1
  rcases h4 with rfl | rfl | rfl | rfl
  · have d0 : w2.cell? ⟨w1.heap.size, 0, none⟩ = some (.int .i64 (0 : Nat)) := cell_of_row _ _ _ _ _ _ HB3.out
    have d1 : w2.cell? ⟨w1.heap.size, 1, none⟩ = some (.int .i64 (c4 : Int)) := cell_of_row _ _ _ _ _ _ HB3.out
    have d2 : w2.cell? ⟨w1.heap.size, 2, none⟩ = some (.int .i64 (s40 : Int)) := cell_of_row _ _ _ _ _ _ HB3.out
    have d3 : w2.cell? ⟨w1.heap.size, 3, none⟩ = some (.string ((⟨#[107]⟩ : ByteArray) ++ KK)) := cell_of_row _ _ _ _ _ _ HB3.out
    have d4 : w2.cell? ⟨w1.heap.size, 4, none⟩ = some (.string (V ++ V')) := cell_of_row _ _ _ _ _ _ HB3.out
    have d5 : w2.cell? ⟨w1.heap.size, 5, none⟩ = some (.string (⟨#[]⟩)) := cell_of_row _ _ _ _ _ _ HB3.out
    have f0 : w2.frozen? ⟨w.heap.size + 1, 0, none⟩ = false := frozen_of_row _ _ _ _ _ HB2'.out
    have f1 : w2.frozen? ⟨w.heap.size + 1, 1, none⟩ = false := frozen_of_row _ _ _ _ _ HB2'.out
    have f2 : w2.frozen? ⟨w.heap.size + 1, 2, none⟩ = false := frozen_of_row _ _ _ _ _ HB2'.out
    have f3 : w2.frozen? ⟨w.heap.size + 1, 3, none⟩ = false := frozen_of_row _ _ _ _ _ HB2'.out
    have f4 : w2.frozen? ⟨w.heap.size + 1, 4, none⟩ = false := frozen_of_row _ _ _ _ _ HB2'.out
    have f5 : w2.frozen? ⟨w.heap.size + 1, 5, none⟩ = false := frozen_of_row _ _ _ _ _ HB2'.out
    have r0 : w2.cell? ⟨w.heap.size + 1, 0, none⟩ = some (.int .i64 0) := cell_of_row _ _ _ _ _ _ HB2'.out
    have r1 : w2.cell? ⟨w.heap.size + 1, 1, none⟩ = some (.int .i64 0) := cell_of_row _ _ _ _ _ _ HB2'.out
    have r2 : w2.cell? ⟨w.heap.size + 1, 2, none⟩ = some (.int .i64 0) := cell_of_row _ _ _ _ _ _ HB2'.out
    have r3 : w2.cell? ⟨w.heap.size + 1, 3, none⟩ = some (.string ⟨#[]⟩) := cell_of_row _ _ _ _ _ _ HB2'.out
    have r4 : w2.cell? ⟨w.heap.size + 1, 4, none⟩ = some (.string ⟨#[]⟩) := cell_of_row _ _ _ _ _ _ HB2'.out
    have r5 : w2.cell? ⟨w.heap.size + 1, 5, none⟩ = some (.string ⟨#[]⟩) := cell_of_row _ _ _ _ _ _ HB2'.out
    go_wp2
    change bodyPost _ _ _ _ _ (setC w2 (w.heap.size + 1) noCmd)
    have hb9 := setC_block (x := noCmd) (e := noCmd) HB2'.out
    have K9 := Lib.hid (KZ.out.trans (setC_kept w2 (w.heap.size + 1) noCmd) (fun i hi h => by omega))
    clear d0 d1 d2 d3 d4 d5 r0 r1 r2 r3 r4 r5 f0 f1 f2 f3 f4 f5
    generalize setC w2 (w.heap.size + 1) noCmd = v9 at hb9 K9 ⊢
    have g0 : v9.cell? ⟨w.heap.size + 1, 0, none⟩ = some (.int .i64 0) := cell_of_row _ _ _ _ _ _ hb9
    have g1 : v9.cell? ⟨w.heap.size + 1, 1, none⟩ = some (.int .i64 0) := cell_of_row _ _ _ _ _ _ hb9
    have g2 : v9.cell? ⟨w.heap.size + 1, 2, none⟩ = some (.int .i64 0) := cell_of_row _ _ _ _ _ _ hb9
    have g3 : v9.cell? ⟨w.heap.size + 1, 3, none⟩ = some (.string ⟨#[]⟩) := cell_of_row _ _ _ _ _ _ hb9
    have g4 : v9.cell? ⟨w.heap.size + 1, 4, none⟩ = some (.string ⟨#[]⟩) := cell_of_row _ _ _ _ _ _ hb9
    have g5 : v9.cell? ⟨w.heap.size + 1, 5, none⟩ = some (.string ⟨#[]⟩) := cell_of_row _ _ _ _ _ _ hb9
    refine bodyPost_ret (v := CmdV.val noCmd) (by simp [results, Tryz.results42, go_sem, CmdV.val, Tryz.isAgg54, Tryz.sizeOf54, g0, g1, g2, g3, g4, g5, noCmd]) rfl ?_
    have hcv := HC.out
    simp at hcv
    rw [hcv]
    exact ⟨rfl, K9.out⟩
  · have d0 : w2.cell? ⟨w1.heap.size, 0, none⟩ = some (.int .i64 (1 : Nat)) := cell_of_row _ _ _ _ _ _ HB3.out
    have d1 : w2.cell? ⟨w1.heap.size, 1, none⟩ = some (.int .i64 (c4 : Int)) := cell_of_row _ _ _ _ _ _ HB3.out
    have d2 : w2.cell? ⟨w1.heap.size, 2, none⟩ = some (.int .i64 (s40 : Int)) := cell_of_row _ _ _ _ _ _ HB3.out
    have d3 : w2.cell? ⟨w1.heap.size, 3, none⟩ = some (.string ((⟨#[107]⟩ : ByteArray) ++ KK)) := cell_of_row _ _ _ _ _ _ HB3.out
    have d4 : w2.cell? ⟨w1.heap.size, 4, none⟩ = some (.string (V ++ V')) := cell_of_row _ _ _ _ _ _ HB3.out
    have d5 : w2.cell? ⟨w1.heap.size, 5, none⟩ = some (.string (⟨#[]⟩)) := cell_of_row _ _ _ _ _ _ HB3.out
    have f0 : w2.frozen? ⟨w.heap.size + 1, 0, none⟩ = false := frozen_of_row _ _ _ _ _ HB2'.out
    have f1 : w2.frozen? ⟨w.heap.size + 1, 1, none⟩ = false := frozen_of_row _ _ _ _ _ HB2'.out
    have f2 : w2.frozen? ⟨w.heap.size + 1, 2, none⟩ = false := frozen_of_row _ _ _ _ _ HB2'.out
    have f3 : w2.frozen? ⟨w.heap.size + 1, 3, none⟩ = false := frozen_of_row _ _ _ _ _ HB2'.out
    have f4 : w2.frozen? ⟨w.heap.size + 1, 4, none⟩ = false := frozen_of_row _ _ _ _ _ HB2'.out
    have f5 : w2.frozen? ⟨w.heap.size + 1, 5, none⟩ = false := frozen_of_row _ _ _ _ _ HB2'.out
    have r0 : w2.cell? ⟨w.heap.size + 1, 0, none⟩ = some (.int .i64 0) := cell_of_row _ _ _ _ _ _ HB2'.out
    have r1 : w2.cell? ⟨w.heap.size + 1, 1, none⟩ = some (.int .i64 0) := cell_of_row _ _ _ _ _ _ HB2'.out
    have r2 : w2.cell? ⟨w.heap.size + 1, 2, none⟩ = some (.int .i64 0) := cell_of_row _ _ _ _ _ _ HB2'.out
    have r3 : w2.cell? ⟨w.heap.size + 1, 3, none⟩ = some (.string ⟨#[]⟩) := cell_of_row _ _ _ _ _ _ HB2'.out
    have r4 : w2.cell? ⟨w.heap.size + 1, 4, none⟩ = some (.string ⟨#[]⟩) := cell_of_row _ _ _ _ _ _ HB2'.out
    have r5 : w2.cell? ⟨w.heap.size + 1, 5, none⟩ = some (.string ⟨#[]⟩) := cell_of_row _ _ _ _ _ _ HB2'.out
    go_wp2
    change bodyPost _ _ _ _ _ (setC w2 (w.heap.size + 1) ⟨1, (c4 : Int), (s40 : Int), (⟨#[107]⟩ : ByteArray) ++ KK, V ++ V', ⟨#[]⟩⟩)
    have hb9 := setC_block (x := noCmd) (e := ⟨1, (c4 : Int), (s40 : Int), (⟨#[107]⟩ : ByteArray) ++ KK, V ++ V', ⟨#[]⟩⟩) HB2'.out
    have K9 := Lib.hid (KZ.out.trans (setC_kept w2 (w.heap.size + 1) ⟨1, (c4 : Int), (s40 : Int), (⟨#[107]⟩ : ByteArray) ++ KK, V ++ V', ⟨#[]⟩⟩) (fun i hi h => by omega))
    clear d0 d1 d2 d3 d4 d5 r0 r1 r2 r3 r4 r5 f0 f1 f2 f3 f4 f5
    generalize setC w2 (w.heap.size + 1) ⟨1, (c4 : Int), (s40 : Int), (⟨#[107]⟩ : ByteArray) ++ KK, V ++ V', ⟨#[]⟩⟩ = v9 at hb9 K9 ⊢
    have g0 : v9.cell? ⟨w.heap.size + 1, 0, none⟩ = some (.int .i64 1) := cell_of_row _ _ _ _ _ _ hb9
    have g1 : v9.cell? ⟨w.heap.size + 1, 1, none⟩ = some (.int .i64 (c4 : Int)) := cell_of_row _ _ _ _ _ _ hb9
    have g2 : v9.cell? ⟨w.heap.size + 1, 2, none⟩ = some (.int .i64 (s40 : Int)) := cell_of_row _ _ _ _ _ _ hb9
    have g3 : v9.cell? ⟨w.heap.size + 1, 3, none⟩ = some (.string ((⟨#[107]⟩ : ByteArray) ++ KK)) := cell_of_row _ _ _ _ _ _ hb9
    have g4 : v9.cell? ⟨w.heap.size + 1, 4, none⟩ = some (.string (V ++ V')) := cell_of_row _ _ _ _ _ _ hb9
    have g5 : v9.cell? ⟨w.heap.size + 1, 5, none⟩ = some (.string (⟨#[]⟩)) := cell_of_row _ _ _ _ _ _ hb9
    refine bodyPost_ret (v := CmdV.val ⟨1, (c4 : Int), (s40 : Int), (⟨#[107]⟩ : ByteArray) ++ KK, V ++ V', ⟨#[]⟩⟩) (by simp [results, Tryz.results42, go_sem, CmdV.val, Tryz.isAgg54, Tryz.sizeOf54, g0, g1, g2, g3, g4, g5]) rfl ?_
    have hcv := HC.out
    simp at hcv
    rw [hcv]
    exact ⟨rfl, K9.out⟩
  · have d0 : w2.cell? ⟨w1.heap.size, 0, none⟩ = some (.int .i64 (2 : Nat)) := cell_of_row _ _ _ _ _ _ HB3.out
    have d1 : w2.cell? ⟨w1.heap.size, 1, none⟩ = some (.int .i64 (c4 : Int)) := cell_of_row _ _ _ _ _ _ HB3.out
    have d2 : w2.cell? ⟨w1.heap.size, 2, none⟩ = some (.int .i64 (s40 : Int)) := cell_of_row _ _ _ _ _ _ HB3.out
    have d3 : w2.cell? ⟨w1.heap.size, 3, none⟩ = some (.string ((⟨#[107]⟩ : ByteArray) ++ KK)) := cell_of_row _ _ _ _ _ _ HB3.out
    have d4 : w2.cell? ⟨w1.heap.size, 4, none⟩ = some (.string (V ++ V')) := cell_of_row _ _ _ _ _ _ HB3.out
    have d5 : w2.cell? ⟨w1.heap.size, 5, none⟩ = some (.string (⟨#[]⟩)) := cell_of_row _ _ _ _ _ _ HB3.out
    have f0 : w2.frozen? ⟨w.heap.size + 1, 0, none⟩ = false := frozen_of_row _ _ _ _ _ HB2'.out
    have f1 : w2.frozen? ⟨w.heap.size + 1, 1, none⟩ = false := frozen_of_row _ _ _ _ _ HB2'.out
    have f2 : w2.frozen? ⟨w.heap.size + 1, 2, none⟩ = false := frozen_of_row _ _ _ _ _ HB2'.out
    have f3 : w2.frozen? ⟨w.heap.size + 1, 3, none⟩ = false := frozen_of_row _ _ _ _ _ HB2'.out
    have f4 : w2.frozen? ⟨w.heap.size + 1, 4, none⟩ = false := frozen_of_row _ _ _ _ _ HB2'.out
    have f5 : w2.frozen? ⟨w.heap.size + 1, 5, none⟩ = false := frozen_of_row _ _ _ _ _ HB2'.out
    have r0 : w2.cell? ⟨w.heap.size + 1, 0, none⟩ = some (.int .i64 0) := cell_of_row _ _ _ _ _ _ HB2'.out
    have r1 : w2.cell? ⟨w.heap.size + 1, 1, none⟩ = some (.int .i64 0) := cell_of_row _ _ _ _ _ _ HB2'.out
    have r2 : w2.cell? ⟨w.heap.size + 1, 2, none⟩ = some (.int .i64 0) := cell_of_row _ _ _ _ _ _ HB2'.out
    have r3 : w2.cell? ⟨w.heap.size + 1, 3, none⟩ = some (.string ⟨#[]⟩) := cell_of_row _ _ _ _ _ _ HB2'.out
    have r4 : w2.cell? ⟨w.heap.size + 1, 4, none⟩ = some (.string ⟨#[]⟩) := cell_of_row _ _ _ _ _ _ HB2'.out
    have r5 : w2.cell? ⟨w.heap.size + 1, 5, none⟩ = some (.string ⟨#[]⟩) := cell_of_row _ _ _ _ _ _ HB2'.out
    have fz : w2.frozen? ⟨w1.heap.size, 4, none⟩ = false := frozen_of_row _ _ _ _ _ HB3.out
    go_upto_region 6 with (fail)
    have hb3 := heap_setCell_same w2 w1.heap.size 4 _ 54 (.string ⟨#[]⟩) HB3.out
    have HB4 := Lib.hid hb3
    have HB5 := Lib.hid ((Kept.setCell (S := fun k => k = w1.heap.size) w2 (p := ⟨w1.heap.size, 4, none⟩) (by rfl) (.string ⟨#[]⟩)).blk HB2'.out HNE.out)
    have K3 := Lib.hid (KZ.out.trans (Kept.setCell (S := fun k => k = w1.heap.size) w2 (p := ⟨w1.heap.size, 4, none⟩) (by rfl) (.string ⟨#[]⟩)) (fun i hi h => by have := HS1.out; omega))
    clear d0 d1 d2 d3 d4 d5 r0 r1 r2 r3 r4 r5 f0 f1 f2 f3 f4 f5 fz hb3
    generalize w2.setCell ⟨w1.heap.size, 4, none⟩ (.string ⟨#[]⟩) = w3 at HB4 HB5 K3 ⊢
    have d0 : w3.cell? ⟨w1.heap.size, 0, none⟩ = some (.int .i64 (2 : Nat)) := cell_of_row _ _ _ _ _ _ HB4.out
    have d1 : w3.cell? ⟨w1.heap.size, 1, none⟩ = some (.int .i64 (c4 : Int)) := cell_of_row _ _ _ _ _ _ HB4.out
    have d2 : w3.cell? ⟨w1.heap.size, 2, none⟩ = some (.int .i64 (s40 : Int)) := cell_of_row _ _ _ _ _ _ HB4.out
    have d3 : w3.cell? ⟨w1.heap.size, 3, none⟩ = some (.string ((⟨#[107]⟩ : ByteArray) ++ KK)) := cell_of_row _ _ _ _ _ _ HB4.out
    have d4 : w3.cell? ⟨w1.heap.size, 4, none⟩ = some (.string (⟨#[]⟩)) := cell_of_row _ _ _ _ _ _ HB4.out
    have d5 : w3.cell? ⟨w1.heap.size, 5, none⟩ = some (.string (⟨#[]⟩)) := cell_of_row _ _ _ _ _ _ HB4.out
    have f0 : w3.frozen? ⟨w.heap.size + 1, 0, none⟩ = false := frozen_of_row _ _ _ _ _ HB5.out
    have f1 : w3.frozen? ⟨w.heap.size + 1, 1, none⟩ = false := frozen_of_row _ _ _ _ _ HB5.out
    have f2 : w3.frozen? ⟨w.heap.size + 1, 2, none⟩ = false := frozen_of_row _ _ _ _ _ HB5.out
    have f3 : w3.frozen? ⟨w.heap.size + 1, 3, none⟩ = false := frozen_of_row _ _ _ _ _ HB5.out
    have f4 : w3.frozen? ⟨w.heap.size + 1, 4, none⟩ = false := frozen_of_row _ _ _ _ _ HB5.out
    have f5 : w3.frozen? ⟨w.heap.size + 1, 5, none⟩ = false := frozen_of_row _ _ _ _ _ HB5.out
    have r0 : w3.cell? ⟨w.heap.size + 1, 0, none⟩ = some (.int .i64 0) := cell_of_row _ _ _ _ _ _ HB5.out
    have r1 : w3.cell? ⟨w.heap.size + 1, 1, none⟩ = some (.int .i64 0) := cell_of_row _ _ _ _ _ _ HB5.out
    have r2 : w3.cell? ⟨w.heap.size + 1, 2, none⟩ = some (.int .i64 0) := cell_of_row _ _ _ _ _ _ HB5.out
    have r3 : w3.cell? ⟨w.heap.size + 1, 3, none⟩ = some (.string ⟨#[]⟩) := cell_of_row _ _ _ _ _ _ HB5.out
    have r4 : w3.cell? ⟨w.heap.size + 1, 4, none⟩ = some (.string ⟨#[]⟩) := cell_of_row _ _ _ _ _ _ HB5.out
    have r5 : w3.cell? ⟨w.heap.size + 1, 5, none⟩ = some (.string ⟨#[]⟩) := cell_of_row _ _ _ _ _ _ HB5.out
    go_wp2
    change bodyPost _ _ _ _ _ (setC w3 (w.heap.size + 1) ⟨2, (c4 : Int), (s40 : Int), (⟨#[107]⟩ : ByteArray) ++ KK, ⟨#[]⟩, ⟨#[]⟩⟩)
    have hb9 := setC_block (x := noCmd) (e := ⟨2, (c4 : Int), (s40 : Int), (⟨#[107]⟩ : ByteArray) ++ KK, ⟨#[]⟩, ⟨#[]⟩⟩) HB5.out
    have K9 := Lib.hid (K3.out.trans (setC_kept w3 (w.heap.size + 1) ⟨2, (c4 : Int), (s40 : Int), (⟨#[107]⟩ : ByteArray) ++ KK, ⟨#[]⟩, ⟨#[]⟩⟩) (fun i hi h => by omega))
    clear d0 d1 d2 d3 d4 d5 r0 r1 r2 r3 r4 r5 f0 f1 f2 f3 f4 f5
    generalize setC w3 (w.heap.size + 1) ⟨2, (c4 : Int), (s40 : Int), (⟨#[107]⟩ : ByteArray) ++ KK, ⟨#[]⟩, ⟨#[]⟩⟩ = v9 at hb9 K9 ⊢
    have g0 : v9.cell? ⟨w.heap.size + 1, 0, none⟩ = some (.int .i64 2) := cell_of_row _ _ _ _ _ _ hb9
    have g1 : v9.cell? ⟨w.heap.size + 1, 1, none⟩ = some (.int .i64 (c4 : Int)) := cell_of_row _ _ _ _ _ _ hb9
    have g2 : v9.cell? ⟨w.heap.size + 1, 2, none⟩ = some (.int .i64 (s40 : Int)) := cell_of_row _ _ _ _ _ _ hb9
    have g3 : v9.cell? ⟨w.heap.size + 1, 3, none⟩ = some (.string ((⟨#[107]⟩ : ByteArray) ++ KK)) := cell_of_row _ _ _ _ _ _ hb9
    have g4 : v9.cell? ⟨w.heap.size + 1, 4, none⟩ = some (.string (⟨#[]⟩)) := cell_of_row _ _ _ _ _ _ hb9
    have g5 : v9.cell? ⟨w.heap.size + 1, 5, none⟩ = some (.string (⟨#[]⟩)) := cell_of_row _ _ _ _ _ _ hb9
    refine bodyPost_ret (v := CmdV.val ⟨2, (c4 : Int), (s40 : Int), (⟨#[107]⟩ : ByteArray) ++ KK, ⟨#[]⟩, ⟨#[]⟩⟩) (by simp [results, Tryz.results42, go_sem, CmdV.val, Tryz.isAgg54, Tryz.sizeOf54, g0, g1, g2, g3, g4, g5]) rfl ?_
    have hcv := HC.out
    simp at hcv
    rw [hcv]
    exact ⟨rfl, K9.out⟩
  · have c5 : w2.cell? ⟨w.heap.size, 5, none⟩ = some (.int .u8 (old.toNat : Int)) := cell_of_row _ _ _ _ _ _ (K2.out.blk HB1.out (fun h => h))
    have fz : w2.frozen? ⟨w1.heap.size, 5, none⟩ = false := frozen_of_row _ _ _ _ _ HB3.out
    have d5 : w2.cell? ⟨w1.heap.size, 5, none⟩ = some (.string ⟨#[]⟩) := cell_of_row _ _ _ _ _ _ HB3.out
    have d0 : w2.cell? ⟨w1.heap.size, 0, none⟩ = some (.int .i64 (3 : Nat)) := cell_of_row _ _ _ _ _ _ HB3.out
    have c5' : (w2.setCell ⟨w1.heap.size, 5, none⟩ (.string (X ++ X'))).cell? ⟨w.heap.size, 5, none⟩ = some (.int .u8 (old.toNat : Int)) := (Kept.setCell (S := fun k => k = w1.heap.size) w2 (p := ⟨w1.heap.size, 5, none⟩) (by rfl) (.string (X ++ X'))).cell c5 (by show ¬ w.heap.size = w1.heap.size; rw [HS1.out]; omega)
    have c5'' := (Kept.drew noBlock _).cell c5' (fun h => h)
    go_upto_region 7 with (fail)
    refine wp_region_noPanic ?_
    refine wp_region_held_drew (S := fun w' => w'.cell? ⟨w.heap.size, 5, none⟩ = some (.int .u8 (old.toNat : Int))) (by kernel_rfl) c5 (fun hHeld => ?_)
    refine wpAnyH_take (i := 0) (oi := ⟨some 50, Op.fieldAddr 98 (Operand.tmp 1) 5, 0, _, _, none⟩) (v := ?v0n4k1) rfl (by kernel_rfl) (by kernel_rfl) (by kernel_rfl) (fun _ _ _ h => h) (Or.inl ⟨by rfl, ?y0n4k1⟩) hHeld ?z0n4k1
    case y0n4k1 => intro w hSw; (try dsimp only at hSw); go_simp <;> rfl
    try simp only [Act.put, List.setIfInBounds_toArray, List.set_cons_zero, List.set_cons_succ]
    refine wpAnyH_take (i := 1) (oi := ⟨some 51, Op.load 5 (Operand.tmp 50), 5, _, _, none⟩) (v := ?v1n4k2) rfl (by kernel_rfl) (by kernel_rfl) (by kernel_rfl) (fun _ _ _ h => h) (Or.inl ⟨by rfl, ?y1n4k2⟩) hHeld ?z1n4k2
    case y1n4k2 => intro w hSw; (try dsimp only at hSw); go_simp <;> rfl
    try simp only [Act.put, List.setIfInBounds_toArray, List.set_cons_zero, List.set_cons_succ]
    refine wpAnyH_take (i := 2) (oi := ⟨some 52, Op.binOp BinOp.rem 5 (Operand.tmp 51) (Operand.const (Value.int IntKind.u8 2)) 5, 5, _, _, none⟩) (v := ?v2n4k3) rfl (by kernel_rfl) (by kernel_rfl) (by kernel_rfl) (fun _ _ _ h => h) (Or.inl ⟨by rfl, ?y2n4k3⟩) hHeld ?z2n4k3
    case y2n4k3 => intro w hSw; (try dsimp only at hSw); go_simp <;> rfl
    try simp only [Act.put, List.setIfInBounds_toArray, List.set_cons_zero, List.set_cons_succ]
    refine wpAnyH_take (i := 3) (oi := ⟨some 53, Op.slice 9 (Operand.const (Value.string { data := #[118] })) none (some (Operand.tmp 52)) none, 9, _, _, none⟩) (v := ?v3n4k4) rfl (by kernel_rfl) (by kernel_rfl) (by kernel_rfl) (fun _ _ _ h => h) (Or.inl ⟨by rfl, ?y3n4k4⟩) hHeld ?z3n4k4
    case y3n4k4 => intro w hSw; (try dsimp only at hSw); go_simp <;> rfl
    try simp only [Act.put, List.setIfInBounds_toArray, List.set_cons_zero, List.set_cons_succ]
    refine wpAnyH_take (i := 4) (oi := ⟨some 54, Op.fieldAddr 98 (Operand.tmp 1) 5, 0, _, _, none⟩) (v := ?v4n4k5) rfl (by kernel_rfl) (by kernel_rfl) (by kernel_rfl) (fun _ _ _ h => h) (Or.inl ⟨by rfl, ?y4n4k5⟩) hHeld ?z4n4k5
    case y4n4k5 => intro w hSw; (try dsimp only at hSw); go_simp <;> rfl
    try simp only [Act.put, List.setIfInBounds_toArray, List.set_cons_zero, List.set_cons_succ]
    refine wpAnyH_take (i := 5) (oi := ⟨some 55, Op.load 5 (Operand.tmp 54), 5, _, _, none⟩) (v := ?v5n4k6) rfl (by kernel_rfl) (by kernel_rfl) (by kernel_rfl) (fun _ _ _ h => h) (Or.inl ⟨by rfl, ?y5n4k6⟩) hHeld ?z5n4k6
    case y5n4k6 => intro w hSw; (try dsimp only at hSw); go_simp <;> rfl
    try simp only [Act.put, List.setIfInBounds_toArray, List.set_cons_zero, List.set_cons_succ]
    refine wpAnyH_take (i := 6) (oi := ⟨some 56, Op.binOp BinOp.rem 5 (Operand.tmp 55) (Operand.const (Value.int IntKind.u8 10)) 5, 5, _, _, none⟩) (v := ?v6n4k7) rfl (by kernel_rfl) (by kernel_rfl) (by kernel_rfl) (fun _ _ _ h => h) (Or.inl ⟨by rfl, ?y6n4k7⟩) hHeld ?z6n4k7
    case y6n4k7 => intro w hSw; (try dsimp only at hSw); go_simp <;> rfl
    try simp only [Act.put, List.setIfInBounds_toArray, List.set_cons_zero, List.set_cons_succ]
    refine wpAnyH_take (i := 7) (oi := ⟨some 57, Op.fieldAddr 98 (Operand.tmp 1) 5, 0, _, _, none⟩) (v := ?v7n4k8) rfl (by kernel_rfl) (by kernel_rfl) (by kernel_rfl) (fun _ _ _ h => h) (Or.inl ⟨by rfl, ?y7n4k8⟩) hHeld ?z7n4k8
    case y7n4k8 => intro w hSw; (try dsimp only at hSw); go_simp <;> rfl
    try simp only [Act.put, List.setIfInBounds_toArray, List.set_cons_zero, List.set_cons_succ]
    refine wpAnyH_take (i := 8) (oi := ⟨some 58, Op.load 5 (Operand.tmp 57), 5, _, _, none⟩) (v := ?v8n4k9) rfl (by kernel_rfl) (by kernel_rfl) (by kernel_rfl) (fun _ _ _ h => h) (Or.inl ⟨by rfl, ?y8n4k9⟩) hHeld ?z8n4k9
    case y8n4k9 => intro w hSw; (try dsimp only at hSw); go_simp <;> rfl
    try simp only [Act.put, List.setIfInBounds_toArray, List.set_cons_zero, List.set_cons_succ]
    refine wpAnyH_take (i := 9) (oi := ⟨some 59, Op.binOp BinOp.rem 5 (Operand.tmp 58) (Operand.const (Value.int IntKind.u8 10)) 5, 5, _, _, none⟩) (v := ?v9n4k10) rfl (by kernel_rfl) (by kernel_rfl) (by kernel_rfl) (fun _ _ _ h => h) (Or.inl ⟨by rfl, ?y9n4k10⟩) hHeld ?z9n4k10
    case y9n4k10 => intro w hSw; (try dsimp only at hSw); go_simp <;> rfl
    try simp only [Act.put, List.setIfInBounds_toArray, List.set_cons_zero, List.set_cons_succ]
    refine wpAnyH_take (i := 10) (oi := ⟨some 60, Op.binOp BinOp.add 5 (Operand.tmp 59) (Operand.const (Value.int IntKind.u8 1)) 5, 5, _, _, none⟩) (v := ?v10n4k11) rfl (by kernel_rfl) (by kernel_rfl) (by kernel_rfl) (fun _ _ _ h => h) (Or.inl ⟨by rfl, ?y10n4k11⟩) hHeld ?z10n4k11
    case y10n4k11 => intro w hSw; (try dsimp only at hSw); go_simp <;> rfl
    try simp only [Act.put, List.setIfInBounds_toArray, List.set_cons_zero, List.set_cons_succ]
    refine wpAnyH_take (i := 11) (oi := ⟨some 61, Op.slice 9 (Operand.const (Value.string { data := #[48, 49, 50, 51, 52, 53, 54, 55, 56, 57] })) (some (Operand.tmp 56)) (some (Operand.tmp 60)) none, 9, _, _, none⟩) (v := ?v11n4k12) rfl (by kernel_rfl) (by kernel_rfl) (by kernel_rfl) (fun _ _ _ h => h) (Or.inl ⟨by rfl, ?y11n4k12⟩) hHeld ?z11n4k12
    case y11n4k12 => intro w hSw; (try dsimp only at hSw); go_simp <;> rfl
    try simp only [Act.put, List.setIfInBounds_toArray, List.set_cons_zero, List.set_cons_succ]
    refine wpAnyH_take (i := 12) (oi := ⟨some 62, Op.binOp BinOp.add 9 (Operand.tmp 53) (Operand.tmp 61) 9, 9, _, _, none⟩) (v := ?v12n4k13) rfl (by kernel_rfl) (by kernel_rfl) (by kernel_rfl) (fun _ _ _ h => h) (Or.inl ⟨by rfl, ?y12n4k13⟩) hHeld ?z12n4k13
    case y12n4k13 => intro w hSw; (try dsimp only at hSw); go_simp <;> rfl
    try simp only [Act.put, List.setIfInBounds_toArray, List.set_cons_zero, List.set_cons_succ]
    refine wpAnyH_take (i := 13) (oi := ⟨some 63, Op.fieldAddr 54 (Operand.tmp 3) 5, 0, _, _, none⟩) (v := ?v13n4k14) rfl (by kernel_rfl) (by kernel_rfl) (by kernel_rfl) (fun _ _ _ h => h) (Or.inl ⟨by rfl, ?y13n4k14⟩) hHeld ?z13n4k14
    case y13n4k14 => intro w hSw; (try dsimp only at hSw); go_simp <;> rfl
    try simp only [Act.put, List.setIfInBounds_toArray, List.set_cons_zero, List.set_cons_succ]
    refine wpAnyH_ready (rs := [14]) (by kernel_rfl) (by simp) ?_
    refine AllReadyH.cons (o := ⟨none, Op.store 9 (Operand.tmp 63) (Operand.tmp 62), 0, _, _, none⟩) rfl (fun K hK => ?_) AllReadyH.nil
    go_simp
    refine hK.out _ _ (by first | exact c5' | exact c5'') (fun hHeld => ?_)
    clear hK K
    try simp only [Act.put, List.setIfInBounds_toArray, List.set_cons_zero, List.set_cons_succ]
    refine wpAnyH_done (by kernel_rfl) ?_ _
    refine NoPanic.normal ?_
    have hb3 := heap_setCell_same w2 w1.heap.size 5 _ 54 (.string (X ++ X')) HB3.out
    have HB4 := Lib.hid ((Kept.drew noBlock _).blk hb3 (fun h => h))
    have HB5 := Lib.hid ((Kept.drew noBlock _).blk ((Kept.setCell (S := fun k => k = w1.heap.size) w2 (p := ⟨w1.heap.size, 5, none⟩) (by rfl) (.string (X ++ X'))).blk HB2'.out HNE.out) (fun h => h))
    have K3 := Lib.hid ((KZ.out.trans (Kept.setCell (S := fun k => k = w1.heap.size) w2 (p := ⟨w1.heap.size, 5, none⟩) (by rfl) (.string (X ++ X'))) (fun i hi h => by have := HS1.out; omega)).step (Kept.drew noBlock _))
    clear d0 d5 fz hb3 c5 c5' c5'' hHeld z4 z5 nX t7 t8
    generalize (w2.setCell ⟨w1.heap.size, 5, none⟩ (.string (X ++ X'))).drew = w3 at HB4 HB5 K3 ⊢
    have d0 : w3.cell? ⟨w1.heap.size, 0, none⟩ = some (.int .i64 (3 : Nat)) := cell_of_row _ _ _ _ _ _ HB4.out
    have d1 : w3.cell? ⟨w1.heap.size, 1, none⟩ = some (.int .i64 (c4 : Int)) := cell_of_row _ _ _ _ _ _ HB4.out
    have d2 : w3.cell? ⟨w1.heap.size, 2, none⟩ = some (.int .i64 (s40 : Int)) := cell_of_row _ _ _ _ _ _ HB4.out
    have d3 : w3.cell? ⟨w1.heap.size, 3, none⟩ = some (.string ((⟨#[107]⟩ : ByteArray) ++ KK)) := cell_of_row _ _ _ _ _ _ HB4.out
    have d4 : w3.cell? ⟨w1.heap.size, 4, none⟩ = some (.string (V ++ V')) := cell_of_row _ _ _ _ _ _ HB4.out
    have d5 : w3.cell? ⟨w1.heap.size, 5, none⟩ = some (.string (X ++ X')) := cell_of_row _ _ _ _ _ _ HB4.out
    have f0 : w3.frozen? ⟨w.heap.size + 1, 0, none⟩ = false := frozen_of_row _ _ _ _ _ HB5.out
    have f1 : w3.frozen? ⟨w.heap.size + 1, 1, none⟩ = false := frozen_of_row _ _ _ _ _ HB5.out
    have f2 : w3.frozen? ⟨w.heap.size + 1, 2, none⟩ = false := frozen_of_row _ _ _ _ _ HB5.out
    have f3 : w3.frozen? ⟨w.heap.size + 1, 3, none⟩ = false := frozen_of_row _ _ _ _ _ HB5.out
    have f4 : w3.frozen? ⟨w.heap.size + 1, 4, none⟩ = false := frozen_of_row _ _ _ _ _ HB5.out
    have f5 : w3.frozen? ⟨w.heap.size + 1, 5, none⟩ = false := frozen_of_row _ _ _ _ _ HB5.out
    have r0 : w3.cell? ⟨w.heap.size + 1, 0, none⟩ = some (.int .i64 0) := cell_of_row _ _ _ _ _ _ HB5.out
    have r1 : w3.cell? ⟨w.heap.size + 1, 1, none⟩ = some (.int .i64 0) := cell_of_row _ _ _ _ _ _ HB5.out
    have r2 : w3.cell? ⟨w.heap.size + 1, 2, none⟩ = some (.int .i64 0) := cell_of_row _ _ _ _ _ _ HB5.out
    have r3 : w3.cell? ⟨w.heap.size + 1, 3, none⟩ = some (.string ⟨#[]⟩) := cell_of_row _ _ _ _ _ _ HB5.out
    have r4 : w3.cell? ⟨w.heap.size + 1, 4, none⟩ = some (.string ⟨#[]⟩) := cell_of_row _ _ _ _ _ _ HB5.out
    have r5 : w3.cell? ⟨w.heap.size + 1, 5, none⟩ = some (.string ⟨#[]⟩) := cell_of_row _ _ _ _ _ _ HB5.out
    go_wp2
    change bodyPost _ _ _ _ _ (setC w3 (w.heap.size + 1) ⟨3, (c4 : Int), (s40 : Int), (⟨#[107]⟩ : ByteArray) ++ KK, V ++ V', X ++ X'⟩)
    have hb9 := setC_block (x := noCmd) (e := ⟨3, (c4 : Int), (s40 : Int), (⟨#[107]⟩ : ByteArray) ++ KK, V ++ V', X ++ X'⟩) HB5.out
    have K9 := Lib.hid (K3.out.trans (setC_kept w3 (w.heap.size + 1) ⟨3, (c4 : Int), (s40 : Int), (⟨#[107]⟩ : ByteArray) ++ KK, V ++ V', X ++ X'⟩) (fun i hi h => by omega))
    clear d0 d1 d2 d3 d4 d5 r0 r1 r2 r3 r4 r5 f0 f1 f2 f3 f4 f5
    generalize setC w3 (w.heap.size + 1) ⟨3, (c4 : Int), (s40 : Int), (⟨#[107]⟩ : ByteArray) ++ KK, V ++ V', X ++ X'⟩ = v9 at hb9 K9 ⊢
    have g0 : v9.cell? ⟨w.heap.size + 1, 0, none⟩ = some (.int .i64 3) := cell_of_row _ _ _ _ _ _ hb9
    have g1 : v9.cell? ⟨w.heap.size + 1, 1, none⟩ = some (.int .i64 (c4 : Int)) := cell_of_row _ _ _ _ _ _ hb9
    have g2 : v9.cell? ⟨w.heap.size + 1, 2, none⟩ = some (.int .i64 (s40 : Int)) := cell_of_row _ _ _ _ _ _ hb9
    have g3 : v9.cell? ⟨w.heap.size + 1, 3, none⟩ = some (.string ((⟨#[107]⟩ : ByteArray) ++ KK)) := cell_of_row _ _ _ _ _ _ hb9
    have g4 : v9.cell? ⟨w.heap.size + 1, 4, none⟩ = some (.string (V ++ V')) := cell_of_row _ _ _ _ _ _ hb9
    have g5 : v9.cell? ⟨w.heap.size + 1, 5, none⟩ = some (.string (X ++ X')) := cell_of_row _ _ _ _ _ _ hb9
    refine bodyPost_ret (v := CmdV.val ⟨3, (c4 : Int), (s40 : Int), (⟨#[107]⟩ : ByteArray) ++ KK, V ++ V', X ++ X'⟩) (by simp [results, Tryz.results42, go_sem, CmdV.val, Tryz.isAgg54, Tryz.sizeOf54, g0, g1, g2, g3, g4, g5]) rfl ?_
    have hcv := HC.out
    simp at hcv
    rw [hcv]
    exact ⟨rfl, K9.out⟩

end Go.Proofs.YthmjjhjblokjeaaGreat

/-
  Rows of entries by numbers, as the statements of layer 6 draw them. No statement is proved here.
-/
namespace Go.Proofs.YthmjjhjblokjeaaGreat
open Go.RowKit

theorem Tryz.infoEntry : (Tryz.prog.info? 56).map (fun i => (i.zero, i.size, i.bytes)) = some (some noEntry.val, 8, 88) := by kernel_rfl

/-- The cells of says. -/
def sayCells (ss : List SayV) : List Value := ss.flatMap SayV.cells
theorem scells_length (s : SayV) : s.cells.length = 6 := rfl
theorem sayCells_cons (s : SayV) (r : List SayV) : sayCells (s :: r) = s.cells ++ sayCells r := by simp [sayCells]
theorem sayCells_at : ∀ (ss : List SayV) (k j : Nat) (s : SayV) (v : Value), ss[k]? = some s → s.cells[j]? = some v → (sayCells ss)[k * 6 + j]? = some v
  | [], k, j, s, v, h, _ => by simp at h
  | q :: r, 0, j, s, v, h, hv => by
    obtain rfl : q = s := by simpa using h
    have hj : j < q.cells.length := (List.getElem?_eq_some_iff.1 hv).1
    rw [sayCells_cons, Nat.zero_mul, Nat.zero_add, List.getElem?_append_left hj]
    exact hv
  | q :: r, k + 1, j, s, v, h, hv => by
    have ih := sayCells_at r k j s v (by simpa using h) hv
    rw [sayCells_cons, List.getElem?_append_right (by rw [scells_length]; omega), scells_length, show (k + 1) * 6 + j - 6 = k * 6 + j by omega]
    exact ih
/-- A say of a row, cell by cell. -/
structure SayAt (w : World) (b o : Nat) (s : SayV) : Prop where
  c0 : w.cell? ⟨b, o, none⟩ = some (.int .u8 (s.op.toNat : Int))
  c1 : w.cell? ⟨b, o + 1, none⟩ = some (.int .u8 (s.client.toNat : Int))
  c2 : w.cell? ⟨b, o + 2, none⟩ = some (.int .u8 (s.seq.toNat : Int))
  c3 : w.cell? ⟨b, o + 3, none⟩ = some (.int .u8 (s.key.toNat : Int))
  c4 : w.cell? ⟨b, o + 4, none⟩ = some (.int .u8 (s.value.toNat : Int))
  c5 : w.cell? ⟨b, o + 5, none⟩ = some (.int .u8 (s.old.toNat : Int))
theorem says_cell {w : World} {F : Nat → Prop} {a : Option Addr} {ss : List SayV} (h : Lies w F a (sayCells ss)) {k : Nat} {s : SayV} (hs : ss[k]? = some s) : ∃ b o, a = some ⟨b, o, none⟩ ∧ F b ∧ SayAt w b (o + k * 6) s := by
  have at_ := fun j v hv => sayCells_at ss k j s v hs hv
  obtain ⟨b, o, rfl, hF, hc⟩ := h.norm (by intro e0; have := at_ 0 _ rfl; rw [e0] at this; simp at this)
  refine ⟨b, o, rfl, hF, ?_, ?_, ?_, ?_, ?_, ?_⟩
  · exact hc _ _ (at_ 0 _ rfl)
  all_goals rw [Nat.add_assoc]
  · exact hc _ _ (at_ 1 _ rfl)
  · exact hc _ _ (at_ 2 _ rfl)
  · exact hc _ _ (at_ 3 _ rfl)
  · exact hc _ _ (at_ 4 _ rfl)
  · exact hc _ _ (at_ 5 _ rfl)

/-- The term behind a say. -/
def bump (s : SayV) (t : Int) : Int := if 230 < s.op.toNat then t + 1 else t
def termOf (ss : List SayV) (t : Int) : Int := ss.foldl (fun t s => bump s t) t
/-- The entries of says. -/
def entsOf : List SayV → Int → Int → List EntryV
  | [], _, _ => []
  | s :: r, i, t => ⟨i, bump s t, s.cmd⟩ :: entsOf r (i + 1) (bump s t)
theorem entsOf_length (ss : List SayV) (i t : Int) : (entsOf ss i t).length = ss.length := by
  induction ss generalizing i t with
  | nil => rfl
  | cons s r ih => simp [entsOf, ih]
theorem entsOf_snoc (ss : List SayV) (s : SayV) (i t : Int) : entsOf (ss ++ [s]) i t = entsOf ss i t ++ [⟨i + ss.length, bump s (termOf ss t), s.cmd⟩] := by
  induction ss generalizing i t with
  | nil => simp [entsOf, termOf]
  | cons q r ih =>
    simp only [List.cons_append, entsOf, ih, termOf, List.foldl_cons, List.length_cons]
    have : i + 1 + (r.length : Int) = i + ((r.length + 1 : Nat) : Int) := by omega
    rw [this]
theorem termOf_snoc (ss : List SayV) (s : SayV) (t : Int) : termOf (ss ++ [s]) t = bump s (termOf ss t) := by simp [termOf]
theorem bump_bounds (s : SayV) (t : Int) : t ≤ bump s t ∧ bump s t ≤ t + 1 := by unfold bump; split <;> omega
theorem termOf_bounds (ss : List SayV) (t : Int) : t ≤ termOf ss t ∧ termOf ss t ≤ t + ss.length := by
  induction ss generalizing t with
  | nil => simp [termOf]
  | cons s r ih =>
    have h1 := ih (bump s t)
    have h2 := bump_bounds s t
    have h3 : termOf (s :: r) t = termOf r (bump s t) := by simp [termOf]
    rw [h3, List.length_cons]
    omega
/-- They stand behind one another. -/
theorem rowB_ents (ss : List SayV) (i t t0 : Int) (h0 : t0 ≤ t) (h1 : 1 ≤ i) (h2 : i + ss.length ≤ 1048577) (h3 : 0 ≤ t) (h4 : t + ss.length ≤ 1048576) : rowB (entsOf ss i t) i t0 = true := by
  induction ss generalizing i t t0 with
  | nil => rfl
  | cons s r ih =>
    have hb := bump_bounds s t
    rw [List.length_cons] at h2 h4
    have hr : EntryV.Right ⟨i, bump s t, s.cmd⟩ := ⟨h1, by show i ≤ 1048576; omega, by show 0 ≤ bump s t; omega, by show bump s t ≤ 1048576; omega, s.may⟩
    show rowB (⟨i, bump s t, s.cmd⟩ :: entsOf r (i + 1) (bump s t)) i t0 = true
    have hd : EntryV.Right ⟨i, bump s t, s.cmd⟩ ∧ (⟨i, bump s t, s.cmd⟩ : EntryV).index = i ∧ t0 ≤ (⟨i, bump s t, s.cmd⟩ : EntryV).term := ⟨hr, rfl, by show t0 ≤ bump s t; omega⟩
    rw [rowB_cons, decide_eq_true hd, ih _ _ _ (by show bump s t ≤ bump s t; omega) (by omega) (by omega) (by omega) (by omega)]
    rfl
theorem one_ents (es : List EntryV) : ∀ u ∈ entCells es, u.oneCell' = true := by
  intro u hu
  obtain ⟨e, _, hm⟩ := List.mem_flatMap.1 hu
  simp only [EntryV.cells, List.mem_cons, List.not_mem_nil, or_false] at hm
  rcases hm with rfl | rfl | rfl | rfl | rfl | rfl | rfl | rfl <;> rfl
/-- One entry in a block of its own, as a source. -/
theorem src_entry {w : World} {B : Nat} {t : TypeId} {fr : Nat × Nat} {c : Nat} (e : EntryV) (hb : w.heap[B]? = some (.cells e.cells.toArray t fr)) : Src Tryz.prog 8 41 (.slice (some ⟨B, 0, none⟩) 1 c) 1 (entCells [e]) w := by
  have he : entCells [e] = e.cells := by simp [entCells]
  refine Src.ofSlice w Tryz.underlying41 _ _ _ _ (by rw [he]; rfl) ?_ (one_ents _)
  rw [he]
  intro j u hu
  have := World.news_of_block hb j u (by simpa using hu)
  exact this

set_option maxHeartbeats 2000000 in
theorem ents_any (F : Nat → Prop) (a : Option Addr) (n c : Nat) (from_ term : Int) (ss : List SayV) (es : List EntryV) (w : World) (h : Lies w F a (sayCells ss)) (hl : ss.length = n) (hnc : n ≤ c) (hes : es = entsOf (ss.take 80) from_ term)
    (hf : 0 ≤ from_) (hf2 : from_ ≤ 1048576) (ht : 0 ≤ term) (ht2 : term ≤ 1048576) :
    Calls Tryz.prog 18 #[.slice a n c, .int .i64 from_, .int .i64 term] w fun e w' => ∃ A cc, e = .returned (.slice A es.length cc) ∧ w'.ownsRow w.heap.size 56 8 (.slice A es.length cc) es.length (entCells es) ∧ Kept noBlock w w' := by
  obtain ⟨M, hme⟩ : ∃ M, M = min n 80 := ⟨_, rfl⟩
  have q1 : (if (80 : Int) < (n : Int) then (80 : Int) else (n : Int)) = (M : Int) := by split <;> omega
  have i1 : (M : Int) ≤ c := by omega
  have hmn : M ≤ n := by omega
  have hm80 : M ≤ 80 := by omega
  have HL := Lib.hid hl
  have H := Lib.hid h; clear h
  have hmlen : (ss.take 80).length = M := by rw [List.length_take, hl, hme]; omega
  have HES : Hid (es = entsOf (ss.take M) from_ term) := by
    unfold Hid
    rw [hes]
    congr 1
    rw [hme]
    rcases Nat.le_total n 80 with hh | hh
    · rw [Nat.min_eq_left hh, List.take_of_length_le (by omega), List.take_of_length_le (by omega)]
    · rw [Nat.min_eq_right hh]
  clear hme hes hl
  go_enter Tryz.func18, Tryz.ntmps18
  go_wp2_with fail
  go_loopw [2, 7, 16] (fun t v i wr => ∃ (k L : Nat) (T : Int) (A : Option Addr) (cc : Nat) (xs : List Value), k ≤ M ∧ Hid (L = k) ∧ L ≤ M ∧ i = .int .i64 (k : Int) ∧ t = .int .i64 T ∧ v = .slice A L cc ∧ Hid (T = termOf (ss.take k) term) ∧ 0 ≤ T ∧ T ≤ 1048656 ∧ Hid (xs = entCells (entsOf (ss.take k) from_ term)) ∧ Hid (wr.ownsRow 0 56 8 (.slice A L cc) L xs) ∧ Hid (Kept noBlock w wr) ∧ Hid (∀ b, (Value.slice A L cc).ownBlock = some b → w.heap.size ≤ b)) (fun _ _ i _ => M - (intOf i).toNat)
  case atStart => exact ⟨0, 0, term, none, 0, [], by omega, rfl, by omega, rfl, rfl, rfl, rfl, ht, by omega, rfl, World.ownsRow_nil _ _ _ _, Kept.refl _ _, fun b hb => by simp [Value.ownBlock] at hb⟩
  case round =>
    obtain ⟨k, L, T, A, cc, xs, hk, HLK, hLM, rfl, rfl, rfl, HT, hT0, hT1, HX, HO, HK, HB⟩ := hrel
    by_cases hlt : k < M
    · obtain ⟨s, hs⟩ : ∃ s, ss[k]? = some s := ⟨_, List.getElem?_eq_getElem (by have := HL.out; omega)⟩
      obtain ⟨b, o, rfl, _, e⟩ := says_cell (H.out.keep HK.out (fun _ _ h => h)) hs
      obtain ⟨c0, c1, c2, c3, c4, c5⟩ := e
      have HS := Lib.hid hs
      clear hs
      have hT2 : T ≤ 1048576 + k := by
        have h1 := (termOf_bounds (ss.take k) term).2
        rw [← HT.out, List.length_take] at h1
        omega
      have hsay := say_any s
      unfold SayV.val CmdV.val at hsay
      by_cases hop : (230 : Int) < (s.op.toNat : Int)
      · go_wp2_with fail
        refine (hsay _).mono ?_
        rintro e w2 ⟨rfl, k2⟩
        have ho2 := own_keep HO.out ((Kept.alloc noBlock wr _).step k2) (fun _ _ h => h)
        have HO2 := Lib.hid ho2
        have K2 := Lib.hid (HK.out.step ((Kept.alloc noBlock wr _).step k2))
        clear ho2 k2
        go_wp2_with (at_builtin; refine wpList_append_src rfl (.tmp 26) (.tmp 34) 41 41 rfl 56 noEntry.val 8 88 Tryz.underlying41 Tryz.infoEntry rfl (.slice A L cc) L xs rfl (HO2.out.alloc _) _ 1 (entCells [⟨from_ + k, T + 1, s.cmd⟩]) rfl (src_entry ⟨from_ + k, T + 1, s.cmd⟩ (heap_alloc_new _ _)) ?c3 ?c4 ?_)
        case c3 => unfold maxLen; omega
        case c4 => omega
        intro A' c' w3 hown3 k3 hat
        have HO3 := Lib.hid hown3
        have K3 := Lib.hid ((K2.out.step (Kept.alloc noBlock w2 _)).trans k3 (fun i hi h => absurd (HB.out i h) (by omega)))
        have HB3 : Hid (∀ b, (Value.slice A' (L + 1) c').ownBlock = some b → w.heap.size ≤ b) := fun b hb => by
          rcases hat b hb with h | h
          · exact HB.out b h
          · exact Nat.le_trans (K2.out.step (Kept.alloc noBlock w2 _)).size h.1
        clear hown3 k3 hat
        go_wp2
        go_roundw
        case rel =>
          refine ⟨k + 1, L + 1, T + 1, A', c', xs ++ entCells [⟨from_ + k, T + 1, s.cmd⟩], by omega, by unfold Hid; rw [HLK.out], by have := HLK.out; omega, by go_num, rfl, rfl, ?_, by omega, by have := hT2; omega, ?_, HO3, K3, HB3⟩
          · unfold Hid
            rw [take_snoc ss k s HS.out, termOf_snoc, ← HT.out]
            unfold bump
            rw [if_pos (by omega)]
          · unfold Hid
            rw [take_snoc ss k s HS.out, entsOf_snoc, entCells_append, HX.out, ← HT.out, List.length_take, Nat.min_eq_left (by have := HL.out; omega)]
            unfold bump
            rw [if_pos (by omega)]
        case measure => simp [intOf]; omega
      · go_wp2_with fail
        refine (hsay _).mono ?_
        rintro e w2 ⟨rfl, k2⟩
        have ho2 := own_keep HO.out ((Kept.alloc noBlock wr _).step k2) (fun _ _ h => h)
        have HO2 := Lib.hid ho2
        have K2 := Lib.hid (HK.out.step ((Kept.alloc noBlock wr _).step k2))
        clear ho2 k2
        go_wp2_with (at_builtin; refine wpList_append_src rfl (.tmp 26) (.tmp 34) 41 41 rfl 56 noEntry.val 8 88 Tryz.underlying41 Tryz.infoEntry rfl (.slice A L cc) L xs rfl (HO2.out.alloc _) _ 1 (entCells [⟨from_ + k, T, s.cmd⟩]) rfl (src_entry ⟨from_ + k, T, s.cmd⟩ (heap_alloc_new _ _)) ?c3 ?c4 ?_)
        case c3 => unfold maxLen; omega
        case c4 => omega
        intro A' c' w3 hown3 k3 hat
        have HO3 := Lib.hid hown3
        have K3 := Lib.hid ((K2.out.step (Kept.alloc noBlock w2 _)).trans k3 (fun i hi h => absurd (HB.out i h) (by omega)))
        have HB3 : Hid (∀ b, (Value.slice A' (L + 1) c').ownBlock = some b → w.heap.size ≤ b) := fun b hb => by
          rcases hat b hb with h | h
          · exact HB.out b h
          · exact Nat.le_trans (K2.out.step (Kept.alloc noBlock w2 _)).size h.1
        clear hown3 k3 hat
        go_wp2
        go_roundw
        case rel =>
          refine ⟨k + 1, L + 1, T, A', c', xs ++ entCells [⟨from_ + k, T, s.cmd⟩], by omega, by unfold Hid; rw [HLK.out], by have := HLK.out; omega, by go_num, rfl, rfl, ?_, by omega, by have := hT2; omega, ?_, HO3, K3, HB3⟩
          · unfold Hid
            rw [take_snoc ss k s HS.out, termOf_snoc, ← HT.out]
            unfold bump
            rw [if_neg (by omega)]
          · unfold Hid
            rw [take_snoc ss k s HS.out, entsOf_snoc, entCells_append, HX.out, ← HT.out, List.length_take, Nat.min_eq_left (by have := HL.out; omega)]
            unfold bump
            rw [if_neg (by omega)]
        case measure => simp [intOf]; omega
    · obtain rfl : k = M := by omega
      have hlen : es.length = L := by rw [HES.out, entsOf_length, List.length_take]; have := HL.out; have := HLK.out; omega
      have HLEN := Lib.hid hlen
      clear hlen
      go_wp2
      go_ret
      rw [HLEN.out]
      refine ⟨A, cc, rfl, ?_, HK.out⟩
      rw [HES.out, ← HX.out]
      exact own_base HO.out HB.out

end Go.Proofs.YthmjjhjblokjeaaGreat
