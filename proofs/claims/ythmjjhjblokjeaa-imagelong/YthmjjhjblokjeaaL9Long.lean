/-
  ImageLong: what it does with whatever number and says. No statement is proved here.
-/
import Derived.Test.YthmjjhjblokjeaaL9Awake
import Derived.Test.YthmjjhjblokjeaaI9ReadD
import Derived.Test.YthmjjhjblokjeaaLawK
import Derived.Test.YthmjjhjblokjeaaStpK
namespace Go.Proofs.Ythmjjhjblokjeaa
open Go.RowKit Tot

theorem lt_str9 (l m : List UInt8) : lt (str l) (str m) = Op.bytesLess l m := by
  show Op.bytesLess (str l).toList (str m).toList = _
  rw [str_toList, str_toList]
theorem byte_lt9 {a b : Nat} (ha : a < b) (hb : b < 256) : decide (UInt8.ofNat a < UInt8.ofNat b) = true := by
  refine decide_eq_true ?_
  rw [UInt8.lt_iff_toNat_lt]
  simp
  omega
def keyL (k : Nat) : ByteArray := str [107, UInt8.ofNat (k / 200), UInt8.ofNat (1 + k % 200), 97, 98, 99, 100, 101]
def valL : ByteArray := str [48, 49, 50, 51, 52, 53, 54, 55, 56, 57, 97, 98, 99, 100, 101, 102]
theorem keyL_lt {i j : Nat} (h : i < j) (hj : j < 600) : lt (keyL i) (keyL j) = true := by
  unfold keyL
  rw [lt_str9]
  simp only [Op.bytesLess, beq_self_eq_true, Bool.true_and, Bool.and_false, Bool.or_false]
  by_cases hq : i / 200 < j / 200
  · rw [byte_lt9 (a := i / 200) (b := j / 200) hq (by omega)]
    simp
  · have hq' : i / 200 = j / 200 := by omega
    rw [hq', byte_lt9 (a := 1 + i % 200) (b := 1 + j % 200) (by omega) (by omega)]
    simp
theorem keyL_size (k : Nat) : (keyL k).size = 8 := by unfold keyL; rw [str_size]; rfl
theorem valL_size : valL.size = 16 := by unfold valL; rw [str_size]; rfl
def pairL (k : Nat) : ByteArray × (ByteArray × Bool) := (keyL k, (valL, false))
def longP (n : Nat) : Prs := (List.range n).map pairL
theorem longP_len (n : Nat) : (longP n).length = n := by simp [longP]
theorem longP_succ (n : Nat) : longP (n + 1) = longP n ++ [pairL n] := by simp [longP, List.range_succ]
theorem longP_ok {n : Nat} (hn : n ≤ 512) : PairsOk (longP n) := by
  refine ⟨?_, fun p hp => ?_⟩
  · unfold Srt.Up longP
    rw [List.pairwise_map]
    refine (List.pairwise_lt_range (n := n)).imp_of_mem fun {a b} ha hb hab => ?_
    exact keyL_lt hab (by have := List.mem_range.1 hb; omega)
  · obtain ⟨k, _, rfl⟩ := List.mem_map.1 hp
    exact ⟨by show 1 ≤ (keyL k).size; rw [keyL_size]; omega, by show (keyL k).size ≤ 8; rw [keyL_size]; omega, by show valL.size ≤ 16; rw [valL_size]; omega, fun h => by cases h⟩
theorem longP_bytes (n : Nat) : ((longP n).flatMap prB).length = 41 * n := by
  induction n with
  | zero => rfl
  | succ n ih =>
    have e : (pairL n).1.size = 8 := keyL_size n
    have e2 : (pairL n).2.1.size = 16 := valL_size
    rw [longP_succ, List.flatMap_append, List.length_append, ih, List.flatMap_cons, List.flatMap_nil, List.append_nil, prB_length, e, e2]
    omega
def longD (n : Nat) : DltV := ⟨0, 1, 0, longP n, []⟩
theorem longD_right {n : Nat} (hn : n ≤ 512) : (longD n).Right :=
  ⟨⟨by show (0 : Int) ≤ 0; omega, by show (0 : Int) ≤ 1; omega, by show (1 : Int) ≤ 1048576; omega⟩, ⟨by show (0 : Int) ≤ 0; omega, by show (0 : Int) ≤ 1048576; omega⟩,
    ⟨by show ((longP n).length : Int) ≤ 512; rw [longP_len]; omega, longP_ok hn, ⟨List.Pairwise.nil, fun _ h => by cases h⟩⟩⟩
theorem longD_bytes (n : Nat) : (longD n).bytes.length = 40 + 41 * n := by
  rw [DltV.bytes_length, rowsB_length]
  show 24 + (16 + ((longP n).flatMap prB).length + 0) = _
  rw [longP_bytes]
  omega
theorem src_pair9 (p : ByteArray × (ByteArray × Bool)) {w : World} {B c : Nat} {t : TypeId} {fr : Nat × Nat} (hb : w.heap[B]? = some (.cells (PR.enc p).toArray t fr)) : Src Try.prog 3 25 (.slice (some ⟨B, 0, none⟩) 1 c) 1 (PR.cells [p]) w := by
  have he : PR.cells [p] = PR.enc p := flat_one p
  refine Src.ofSlice w Try.underlying25 _ _ _ _ (by rw [he]; rfl) ?_ (PR.cells_one _)
  rw [he]
  intro j u hu
  exact World.news_of_block hb j u (by simpa using hu)

set_option maxRecDepth 100000 in
set_option maxHeartbeats 4000000 in
theorem ilong_walk (F : Nat → Prop) (nn : Nat) (a : Option Addr) (n c : Nat) (ss : List SayV) (w : World) (h : Lies w F a (sayCells ss)) (hl : ss.length = n) (hnc : n ≤ c) :
    Calls Try.prog 7 #[.int .u8 (nn : Int), .slice a n c] w fun e w' => e = .returned (.bool true) ∧ Kept noBlock w w' := by
  have hsr := someV_right ss
  have hsf := right_fits hsr
  have AW := Lib.hid (awake9_any w)
  have SO : Hid (∀ u, Kept noBlock w u → Calls Try.prog 9 #[.slice a n c] u fun en w' => ∃ A' c' B' d', en = .returned (stv (someV ss) A' c' B' d') ∧ Sv w' (fun _ => True) (someV ss) A' c' B' d' ∧ Kept noBlock u w') := fun u k => by
    refine (some_any F a n c ss u (h.keep k (fun _ _ h => h)) hl hnc).mono ?_
    rintro en w' ⟨A, c, B, d, rfl, sv, k⟩
    exact ⟨A, c, B, d, rfl, sv.mono (fun _ _ => trivial), k⟩
  obtain ⟨s, hs⟩ : ∃ s, s = someV ss := ⟨_, rfl⟩
  rw [← hs] at hsr hsf SO
  obtain ⟨sm, hsm⟩ : ∃ m, s.bytes.length = m := ⟨_, rfl⟩
  rw [hsm] at hsf
  have FU : Hid (∀ u A c B d, Sv u (fun _ => True) s A c B d → Calls Try.prog 10 #[stv s A c B d] u fun e w' => ∃ P cp, e = .returned (.tuple #[.slice P (sm + 35) cp, .int .i64 0]) ∧ Kept noBlock u w') := fun u A c B d sv => by
    refine (full_any _ s A c B d sm u sv hsm hsf).mono ?_
    rintro e w' ⟨P, cp, rfl, _, k⟩
    exact ⟨P, cp, rfl, k⟩
  clear hs hsr hsm h hl
  obtain ⟨qa, hqa⟩ : ∃ q, q = nn % 120 := ⟨_, rfl⟩
  have t1 : (nn : Int) % 120 = (qa : Int) := by omega
  have t1' : (nn : Int).tmod 120 = (qa : Int) := by rw [hqa]; exact tmod_nat _ 120
  obtain ⟨na, hna⟩ : ∃ n, n = 390 + qa := ⟨_, rfl⟩
  have t3 : 390 + (qa : Int) = (na : Int) := by omega
  have ha5 : na ≤ 509 := by omega
  have hq120 : qa < 120 := by omega
  clear hqa hna
  go_enter Try.func7, Try.ntmps7
  go_wp2_with fail
  refine AW.out.mono ?_
  rintro en w1 ⟨rfl, k1⟩
  have K1 := Lib.hid k1
  clear k1 AW
  have ka := Kept.alloc noBlock w1 (.cells #[.int .i64 0, .int .i64 1, .int .i64 0, .slice none 0 0, .slice none 0 0] 59)
  have ha := heap_alloc_new w1 (.cells #[.int .i64 0, .int .i64 1, .int .i64 0, .slice none 0 0, .slice none 0 0] 59)
  go_upto_region 4 with (fail)
  obtain ⟨PX, hPX⟩ : ∃ P, P = w1.heap.size := ⟨_, rfl⟩
  rw [← hPX] at ha ⊢
  generalize w1.alloc (.cells #[.int .i64 0, .int .i64 1, .int .i64 0, .slice none 0 0, .slice none 0 0] 59) = u1 at ka ha ⊢
  have HPPX := Lib.hid ha
  have KPPX := Lib.hid ka
  have HWPX : Hid (w1.heap.size ≤ PX) := Nat.le_of_eq hPX.symm
  clear ka ha hPX
  go_wp2_with fail
  go_loopw [6] (fun i wr => ∃ (k : Nat) (A : Option Addr) (c : Nat), k ≤ na ∧ i = .int .i64 (k : Int) ∧ Hid (wr.heap[PX]? = some (.cells #[.int .i64 0, .int .i64 1, .int .i64 0, .slice A k c, .slice none 0 0] 59 (0, 0))) ∧ Hid (wr.ownsRow 0 67 3 (.slice A k c) k (PR.cells (longP k))) ∧ Hid (∀ b, (Value.slice A k c).ownBlock = some b → PX < b) ∧ Hid (Kept noBlock w1 wr)) (fun i _ => na - (intOf i).toNat)
  case atStart => exact ⟨0, none, 0, by omega, rfl, HPPX, World.ownsRow_nil _ _ _ _, fun b hb => by simp [Value.ownBlock] at hb, KPPX⟩
  case round =>
    obtain ⟨k, A, c', hk, rfl, HBX, HOW, HOB, HKK⟩ := hrel
    by_cases hlt : k < na
    · have hBX := HBX.out
      have x0 : wr.cell? ⟨PX, 3, none⟩ = some (.slice A k c') := cell_of_row _ _ _ _ _ _ hBX
      obtain ⟨q, hq⟩ : ∃ q, q = k / 200 := ⟨_, rfl⟩
      obtain ⟨r, hr⟩ : ∃ r, r = k % 200 := ⟨_, rfl⟩
      have hq1 : (k : Int) / 200 = (q : Int) := by omega
      have hr1 : (k : Int) % 200 = (r : Int) := by omega
      have hq1' : (k : Int).tdiv 200 = (q : Int) := by rw [hq]; exact (Int.ofNat_tdiv k 200).symm
      have hr1' : (k : Int).tmod 200 = (r : Int) := by rw [hr]; exact tmod_nat k 200
      have hq2 : q < 256 := by omega
      have hr2 : r < 200 := by omega
      obtain ⟨y, hy⟩ : ∃ y, y = UInt8.ofNat q := ⟨_, rfl⟩
      obtain ⟨z, hz⟩ : ∃ z, z = UInt8.ofNat (1 + r) := ⟨_, rfl⟩
      have hyn : (q : Int) = (y.toNat : Int) := by rw [hy]; simp; omega
      have hzn : 1 + (r : Int) = (z.toNat : Int) := by rw [hz]; simp; omega
      have hyb : IntKind.u8.wrap (q : Int) = (y.toNat : Int) := by rw [hyn]; have := y.toNat_lt; simp [IntKind.wrap, IntKind.signed, IntKind.bits]; omega
      have hzb : IntKind.u8.wrap (1 + (r : Int)) = (z.toNat : Int) := by rw [hzn]; have := z.toNat_lt; simp [IntKind.wrap, IntKind.signed, IntKind.bits]; omega
      have hyb' : (q : Int) % 256 = (y.toNat : Int) := by have := y.toNat_lt; omega
      have hzb' : (1 + (r : Int)) % 256 = (z.toNat : Int) := by have := z.toNat_lt; omega
      have hk3 : keyL k = str [107, y, z, 97, 98, 99, 100, 101] := by rw [hy, hz, hq, hr]; rfl
      have hcv : ∀ c, (convert 30 9 (.slice (some ⟨wr.heap.size, 0, none⟩) 8 c)).run Try.prog (wr.alloc (.cells #[.int .u8 107, .int .u8 (y.toNat : Int), .int .u8 (z.toNat : Int), .int .u8 97, .int .u8 98, .int .u8 99, .int .u8 100, .int .u8 101] 5)) = .ok (.string (keyL k)) (wr.alloc (.cells #[.int .u8 107, .int .u8 (y.toNat : Int), .int .u8 (z.toNat : Int), .int .u8 97, .int .u8 98, .int .u8 99, .int .u8 100, .int .u8 101] 5)) := fun c => by
        rw [hk3]
        exact run_str_lies (P := Try.prog) 30 9 5 Try.underlying30 Try.underlying5 Try.underlying9 (Lies.new wr (fun _ => True) ([107, y, z, 97, 98, 99, 100, 101].map bv) 5 (0, 0) trivial) rfl c
      clear hk3 hy hz hyn hzn hq hr
      have ka := (Kept.alloc noBlock wr (.cells #[.int .u8 107, .int .u8 (y.toNat : Int), .int .u8 (z.toNat : Int), .int .u8 97, .int .u8 98, .int .u8 99, .int .u8 100, .int .u8 101] 5)).step (Kept.alloc _ _ (.cells (PR.enc (pairL k)).toArray 67))
      have HOA := Lib.hid (own_keep HOW.out ka (fun _ _ h => h))
      have KA := Lib.hid ka
      have HPW := Lib.hid (show PX < wr.heap.size from lt_of_blk HBX.out)
      clear ka hBX
      go_wp2_with (at_builtin; refine wpList_append_src rfl (.tmp 25) (.tmp 36) 25 25 rfl 67 (.agg #[.string ByteArray.empty, .string ByteArray.empty, .bool false]) 3 40 Try.underlying25 PR.infoPr rfl (.slice A k c') k (PR.cells (longP k)) rfl HOA.out _ 1 (PR.cells [pairL k]) rfl (src_pair9 (pairL k) (heap_alloc_at (n := wr.heap.size + 1) (by simp))) ?c3 ?c4 ?_)
      case c3 => unfold maxLen; omega
      case c4 => omega
      intro A' c2 w4 hown4 k4 hat
      have hnP : ¬ (Value.slice A k c').ownBlock = some PX := fun h => by have := HOB.out PX h; omega
      have hb4 := k4.blk (KA.out.blk HBX.out (fun h => h)) hnP
      have y0 : w4.cell? ⟨PX, 3, none⟩ = some (.slice A k c') := cell_of_row _ _ _ _ _ _ hb4
      have f0 : w4.frozen? ⟨PX, 3, none⟩ = false := frozen_of_row _ _ _ _ _ hb4
      have hz := heap_setCell_same w4 PX 3 _ 59 (.slice A' (k + 1) c2) hb4
      have kz := Kept.setCell (S := fun i => i = PX) w4 (p := ⟨PX, 3, none⟩) (by rfl) (.slice A' (k + 1) c2)
      have hob : ∀ b, (Value.slice A' (k + 1) c2).ownBlock = some b → PX < b := fun b hb => by
        rcases hat b hb with h | h
        · exact HOB.out b h
        · exact Nat.lt_of_lt_of_le HPW.out (Nat.le_trans KA.out.size h.1)
      have HZ : Hid ((w4.setCell ⟨PX, 3, none⟩ (.slice A' (k + 1) c2)).heap[PX]? = some (.cells #[.int .i64 0, .int .i64 1, .int .i64 0, .slice A' (k + 1) c2, .slice none 0 0] 59 (0, 0))) := by unfold Hid; rw [hz]; simp
      have HOZ : Hid ((w4.setCell ⟨PX, 3, none⟩ (.slice A' (k + 1) c2)).ownsRow 0 67 3 (.slice A' (k + 1) c2) (k + 1) (PR.cells (longP (k + 1)))) := by
        have h1 := own_keep hown4 kz (fun b hb (e : b = PX) => by have := hob b hb; omega)
        have h2 : PR.cells (longP (k + 1)) = PR.cells (longP k) ++ PR.cells [pairL k] := by rw [longP_succ]; exact flat_append _ _
        unfold Hid
        rw [h2]
        exact h1
      have HOBZ := Lib.hid hob
      have hkz : Kept (fun i => (Value.slice A k c').ownBlock = some i ∨ i = PX) wr (w4.setCell ⟨PX, 3, none⟩ (.slice A' (k + 1) c2)) := ((KA.out.mono (T := fun i => (Value.slice A k c').ownBlock = some i ∨ i = PX) (fun _ _ h => h.elim)).trans k4 (fun i _ h => .inl h)).trans kz (fun i _ h => .inr h)
      have HKZ : Hid (Kept noBlock w1 (w4.setCell ⟨PX, 3, none⟩ (.slice A' (k + 1) c2))) := ((HKK.out.mono (T := fun i => w1.heap.size ≤ i) (fun _ _ h => h.elim)).trans hkz (fun i _ h => h.elim (fun h => by have := HOB.out i h; have := HWPX.out; omega) (fun h => by have := HWPX.out; omega))).mono (fun i hi h => by omega)
      clear hz kz hob hkz hown4 k4 hat hnP hb4 hcv HOA KA x0
      go_wp2
      go_roundw
      case rel => exact ⟨k + 1, A', c2, by omega, by go_num, HZ, HOZ, HOBZ, HKZ⟩
      case measure => simp [intOf]; omega
    · obtain rfl : na = k := by omega
      rename World => w2
      have hc1 : na ≤ c' := by obtain ⟨_, _, e, hle⟩ := own_form HOW.out; injection e with _ _ e; omega
      have hxl : Lies w2 (fun _ => True) A (PR.cells (longP na)) := Lies.of_rows HOW.out (fun _ _ => trivial)
      obtain ⟨D, hD⟩ : ∃ D, D = longD na := ⟨_, rfl⟩
      have hdv : Dv w2 (fun _ => True) (longD na) A c' none 0 := ⟨hxl, Lies.nil _ _ _, by show (longP na).length ≤ c'; rw [longP_len]; exact hc1, Nat.le_refl _⟩
      have hdr : (longD na).Right := longD_right (by omega)
      have hdb := longD_bytes na
      have hval : ∀ A c B d, dtv (longD na) A c B d = .agg #[.int .i64 0, .int .i64 1, .int .i64 0, .slice A na c, .slice B 0 d] := fun A c B d => by unfold dtv longD; rw [longP_len]; rfl
      obtain ⟨dm, hdm⟩ : ∃ dm, dm = 40 + 41 * na := ⟨_, rfl⟩
      rw [← hdm] at hdb
      have hdm2 : dm ≤ 30000 := by omega
      have DB : Hid (∀ u, Kept noBlock w2 u → Calls Try.prog 26 #[.agg #[.int .i64 0, .int .i64 1, .int .i64 0, .slice A na c', .slice none 0 0]] u fun e w' => ∃ P cp, e = .returned (.slice P dm cp) ∧ Kept noBlock u w') := fun u ku => by
        have h := dbytes_any _ (longD na) A c' none 0 dm u (hdv.kept ku) hdb (by omega)
        rw [hval] at h
        refine h.mono ?_
        rintro e w' ⟨P, cp, rfl, _, k⟩
        exact ⟨P, cp, rfl, k⟩
      obtain ⟨z0, z1, z2, z3, z4⟩ := dl_cells HBX.out
      have KW2 := Lib.hid (K1.out.step HKK.out)
      have HB2 := Lib.hid HBX.out
      by_cases hbig : 16384 < dm
      · have DF : Hid (Calls Try.prog 23 #[.agg #[.int .i64 0, .int .i64 1, .int .i64 0, .slice A na c', .slice none 0 0]] w2 fun e w' => e = .returned (.tuple #[.slice none 0 0, .int .i64 4]) ∧ Kept noBlock w2 w') := by
          have h := dfile_full _ (longD na) A c' none 0 dm w2 hdv hdb hbig (by omega)
          rw [hval] at h
          exact h
        have hbi : (16384 : Int) < (dm : Int) := by omega
        clear hxl hD hdv hdr hdb hval hdm HOW HOB HBX HKK HPPX KPPX HWPX SO FU
        go_wp2_with fail
        refine DF.out.mono ?_
        rintro e w3 ⟨rfl, k3⟩
        have KW3 := Lib.hid (KW2.out.step k3)
        obtain ⟨y0, y1, y2, y3, y4⟩ := dl_cells (k3.blk HB2.out (fun h => h))
        have K3 := Lib.hid k3
        clear k3 DF z0 z1 z2 z3 z4
        go_wp2_with fail
        refine (DB.out w3 K3.out).mono ?_
        rintro e w4 ⟨P4, c4, rfl, k4⟩
        have KW4 := Lib.hid (KW3.out.step k4)
        clear k4 DB
        go_wp2
        go_ret
        exact ⟨rfl, KW4.out⟩
      · have DF : Hid (Calls Try.prog 23 #[.agg #[.int .i64 0, .int .i64 1, .int .i64 0, .slice A na c', .slice none 0 0]] w2 fun e w' => ∃ P cp, e = .returned (.tuple #[.slice P (dm + 35) cp, .int .i64 0]) ∧ w'.ownsRow w2.heap.size 5 1 (.slice P (dm + 35) cp) (dm + 35) ((deltaB (longD na)).map bv) ∧ Kept noBlock w2 w') := by
          have h := dfile_any _ (longD na) A c' none 0 dm w2 hdv hdb (by omega)
          rw [hval] at h
          exact h
        have hdl : (deltaB (longD na)).length = dm + 35 := by rw [deltaB_length, hdb]; omega
        have RD : Hid (∀ u P cp, Lies u (fun _ => True) P ((deltaB (longD na)).map bv) → dm + 35 ≤ cp → Calls Try.prog 22 #[.slice P (dm + 35) cp] u fun e w' => ∃ A c B d, e = .returned (.tuple #[.agg #[.int .i64 0, .int .i64 1, .int .i64 0, .slice A na c, .slice B 0 d], .int .i64 0]) ∧ Dv w' (fun _ => True) (longD na) A c B d ∧ Kept noBlock u w') := fun u P cp h1 h2 => by
          have h := rdelta_any (fun _ => True) P (dm + 35) cp (deltaB (longD na)) u h1 hdl (by omega) h2
          rw [(okD_delta hdr (by omega)).2, errD_delta hdr (by omega)] at h
          refine h.mono ?_
          rintro e w' ⟨A, c, B, d, rfl, dv, k⟩
          rw [hval]
          exact ⟨A, c, B, d, rfl, dv.mono (fun _ _ => trivial), k⟩
        have DS : Hid (∀ u A1 c1 B1 d1, Kept noBlock w2 u → Dv u (fun _ => True) (longD na) A1 c1 B1 d1 → Calls Try.prog 27 #[.agg #[.int .i64 0, .int .i64 1, .int .i64 0, .slice A1 na c1, .slice B1 0 d1], .agg #[.int .i64 0, .int .i64 1, .int .i64 0, .slice A na c', .slice none 0 0]] u (Says u true)) := fun u A1 c1 B1 d1 ku h1 => by
          have h := dsame_any _ _ (longD na) A1 c1 B1 d1 (longD na) A c' none 0 u h1 (hdv.kept ku) (by omega) (by omega)
          rw [hval, hval, decide_eq_true rfl] at h
          exact h
        have hbi : ¬ (16384 : Int) < (dm : Int) := by omega
        clear hxl hD hdv hdr hdb hval hdm HOW HOB HBX HKK HPPX KPPX HWPX hdl hbig
        go_wp2_with fail
        refine DF.out.mono ?_
        rintro e w3 ⟨P3, c3, rfl, o3, k3⟩
        have hc3 : dm + 35 ≤ c3 := by obtain ⟨_, _, e, hle⟩ := own_form o3; injection e with _ _ e; omega
        have L3 := Lib.hid (Lies.of_own (F := fun _ => True) o3 (fun _ _ => trivial))
        have KW3 := Lib.hid (KW2.out.step k3)
        have HB3 := Lib.hid (k3.blk HB2.out (fun h => h))
        have K3 := Lib.hid k3
        clear k3 o3 DF z0 z1 z2 z3 z4
        obtain ⟨y0, y1, y2, y3, y4⟩ := dl_cells HB3.out
        go_wp2_with fail
        refine (DB.out w3 K3.out).mono ?_
        rintro e w4 ⟨P4, c4, rfl, k4⟩
        have K4 := Lib.hid (K3.out.step k4)
        have L4 := Lib.hid (L3.out.keep k4 (fun _ _ h => h))
        have HB4 := Lib.hid (k4.blk HB3.out (fun h => h))
        clear k4 DB y0 y1 y2 y3 y4 L3 HB3
        go_wp2_with fail
        refine (RD.out w4 P3 c3 L4.out hc3).mono ?_
        rintro e w5 ⟨A5, c5, B5, d5, rfl, dv5, k5⟩
        have K5 := Lib.hid (K4.out.step k5)
        have HB5 := Lib.hid (k5.blk HB4.out (fun h => h))
        have DV5 := Lib.hid dv5
        clear k5 dv5 RD HB4 L4
        go_upto_region 12 with (fail)
        have ka := Kept.alloc noBlock w5 (.cells #[.int .i64 0, .int .i64 1, .int .i64 0, .slice A5 na c5, .slice B5 0 d5] 59)
        have ha := heap_alloc_new w5 (.cells #[.int .i64 0, .int .i64 1, .int .i64 0, .slice A5 na c5, .slice B5 0 d5] 59)
        generalize w5.alloc (.cells #[.int .i64 0, .int .i64 1, .int .i64 0, .slice A5 na c5, .slice B5 0 d5] 59) = w6 at ka ha ⊢
        obtain ⟨PY, hPY⟩ : ∃ P, P = w5.heap.size := ⟨_, rfl⟩
        rw [← hPY] at ha ⊢
        have K6 := Lib.hid (K5.out.step ka)
        have HB6 := Lib.hid (ka.blk HB5.out (fun h => h))
        have HY6 := Lib.hid ha
        have DV6 := Lib.hid (DV5.out.kept ka)
        clear ka ha hPY HB5 DV5
        go_wp2_with fail
        refine (SO.out w6 (KW2.out.step K6.out)).mono ?_
        rintro e w7 ⟨A7, c7, B7, d7, rfl, sv7, k7⟩
        have K7 := Lib.hid (K6.out.step k7)
        have HB7 := Lib.hid (k7.blk HB6.out (fun h => h))
        have HY7 := Lib.hid (k7.blk HY6.out (fun h => h))
        have DV7 := Lib.hid (DV6.out.kept k7)
        have SV7 := Lib.hid sv7
        clear k7 sv7 SO HB6 HY6 DV6
        go_wp2_with fail
        refine (FU.out w7 A7 c7 B7 d7 SV7.out).mono ?_
        rintro e w8 ⟨P8, c8, rfl, k8⟩
        have K8 := Lib.hid (K7.out.step k8)
        obtain ⟨x0, x1, x2, x3, x4⟩ := dl_cells (k8.blk HB7.out (fun h => h))
        obtain ⟨y0, y1, y2, y3, y4⟩ := dl_cells (k8.blk HY7.out (fun h => h))
        have DV8 := Lib.hid (DV7.out.kept k8)
        clear k8 FU SV7 HB7 HY7 DV7
        go_wp2_with fail
        refine (DS.out w8 A5 c5 B5 d5 K8.out DV8.out).mono ?_
        rintro e w9 ⟨rfl, k9⟩
        have K9 := Lib.hid (KW2.out.step (K8.out.step k9))
        clear k9 x0 x1 x2 x3 x4 y0 y1 y2 y3 y4
        go_wp2
        go_ret
        exact ⟨rfl, K9.out⟩
end Go.Proofs.Ythmjjhjblokjeaa
