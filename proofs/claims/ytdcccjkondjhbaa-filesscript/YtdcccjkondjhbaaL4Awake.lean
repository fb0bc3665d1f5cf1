/-
  The document's examples of layer 4. No statement is proved here.
-/
import Derived.Test.YtdcccjkondjhbaaFiles8
import Derived.Lib.SlBytesConst
namespace Go.Proofs.Ytdcccjkondjhbaa
open Go.RowKit Go.Maps

theorem run_str {w : World} {F : Nat → Prop} {a : Option Addr} {n : Nat} {l : List UInt8} (h : Lies w F a (l.map bv)) (hl : l.length = n) (c : Nat) : (convert 32 9 (.slice a n c)).run Try.prog w = .ok (.string (str l)) w :=
  run_str_lies 32 9 5 Try.underlying32 Try.underlying5 Try.underlying9 h hl c

/-- A disk that is neither armed nor down. -/
def plain (room : Nat) (cur safe : Dir) (pend : List Chg) (calls : Nat) (fl : Nat → Option Fl) (vol : Nat) : St :=
  { room := room, cur := cur, safe := safe, pend := pend, calls := calls, armed := false, left := 0, down := false, fl := fl, vol := vol }
theorem plain_of (n : Nat) : St.of (n : Int) = plain n [] [] [] 0 (fun _ => none) 0 := by simp [St.of, plain]
def none_ : Nat → Option Fl := fun _ => none
def one (f : Nat) (l : Fl) : Nat → Option Fl := fun g => if g = f then some l else none
theorem one_self (f : Nat) (l : Fl) : one f l f = some l := by simp [one]

section
variable (room calls vol f : Nat) (safe : Dir) (pend : List Chg) (l : Fl) (cur : Dir) (fl : Nat → Option Fl)
theorem plain_count : (plain room cur safe pend calls fl vol).count = (0, plain room cur safe pend (calls + 1) fl vol) := rfl
theorem plain_step (x : Chg) : (plain room cur safe pend calls fl vol).step x = (0, plain room (Dir.step cur x) safe (pend ++ [x]) (calls + 1) fl vol) := rfl
theorem plain_create (s : List UInt8) (h1 : Dir.look cur s = none) (h2 : cur.length < 64) :
    (plain room cur safe pend calls fl vol).create s f = (0, plain room (Dir.step cur ⟨s, s, some f⟩) safe (pend ++ [⟨s, s, some f⟩]) (calls + 1) (fun g => if g = f then some ⟨[], 0⟩ else fl g) vol) := by
  unfold St.create
  rw [if_neg (by simp [plain]), if_neg (by show ¬ (Dir.look cur s).isSome = true; rw [h1]; simp), if_neg (by show ¬ 64 ≤ cur.length; omega)]
  rfl
theorem plain_append (s b : List UInt8) (h1 : Dir.look cur s = some f) (h2 : fl f = some l) (h3 : b.length + (plain room cur safe pend calls fl vol).used ≤ room) :
    (plain room cur safe pend calls fl vol).append s b = (0, plain room cur safe pend (calls + 1) (fun g => if g = f then some ⟨l.data ++ b, l.safe⟩ else fl g) (vol + b.length)) := by
  unfold St.append St.on
  rw [if_neg (by simp [plain])]
  show (match Dir.look cur s with | none => _ | some f => _) = _
  rw [h1]
  simp only
  unfold St.appendAt
  rw [if_neg (by show ¬ room < _; omega)]
  unfold St.app
  have e : (plain room cur safe pend calls fl vol).file f = l := file_eq h2
  rw [e]
  rfl
theorem plain_sync (s : List UInt8) (h1 : Dir.look cur s = some f) (h2 : fl f = some l) :
    (plain room cur safe pend calls fl vol).sync s = (0, plain room cur safe pend (calls + 1) (fun g => if g = f then some ⟨l.data, l.data.length⟩ else fl g) vol) := by
  unfold St.sync St.on
  rw [if_neg (by simp [plain])]
  show (match Dir.look cur s with | none => _ | some f => _) = _
  rw [h1]
  simp only
  unfold St.syncAt
  have e : (plain room cur safe pend calls fl vol).file f = l := file_eq h2
  rw [e]
  rfl
theorem plain_syncDir : (plain room cur safe pend calls fl vol).syncDir = (0, plain room cur cur [] (calls + 1) fl vol) := rfl
theorem plain_cut (s : List UInt8) (n : Nat) (h1 : Dir.look cur s = some f) (h2 : fl f = some l) (h3 : n ≤ l.data.length) :
    (plain room cur safe pend calls fl vol).cut s (n : Int) = (0, plain room cur safe pend (calls + 1) (fun g => if g = f then some (l.keep n) else fl g) vol) := by
  unfold St.cut St.on
  rw [if_neg (by simp [plain])]
  show (match Dir.look cur s with | none => _ | some f => _) = _
  rw [h1]
  simp only
  unfold St.cutAt
  have e : (plain room cur safe pend calls fl vol).file f = l := file_eq h2
  rw [e, if_neg (by omega)]
  rfl
end
theorem put_set {f : Nat} {l l' : Fl} {g : Nat → Option Fl} : (fun x => if x = f then some l' else (fun x => if x = f then some l else g x) x) = fun x => if x = f then some l' else g x := by
  funext x
  by_cases h : x = f <;> simp [h]

theorem find_of {S : St} {s : List UInt8} {f : Nat} (h0 : S.down = false) (h1 : Dir.look S.cur s = some f) : S.find s = (some f, 0) := by
  unfold St.find
  rw [if_neg (by rw [h0]; simp), h1]
theorem find_of_none {S : St} {s : List UInt8} (h0 : S.down = false) (h1 : Dir.look S.cur s = none) : S.find s = (none, 6) := by
  unfold St.find
  rw [if_neg (by rw [h0]; simp), h1]
theorem read_of {S : St} {s : List UInt8} {f : Nat} {l : Fl} (h0 : S.down = false) (h1 : Dir.look S.cur s = some f) (h2 : S.fl f = some l) : S.read s = l.data := by
  unfold St.read
  rw [find_of h0 h1]
  simp only
  unfold St.bytes
  rw [h2]
theorem one_set (f : Nat) (l l' : Fl) : (fun g => if g = f then some l' else one f l g) = one f l' := by
  funext g
  unfold one
  by_cases h : g = f <;> simp [h]

/-- A disk with one file, called x. -/
def solo (room f : Nat) (safe : Dir) (pend : List Chg) (calls : Nat) (l : Fl) (vol : Nat) : St := plain room [([120], f)] safe pend calls (one f l) vol
section
variable (room calls vol f : Nat) (safe : Dir) (pend : List Chg) (l : Fl)
theorem solo_look : Dir.look [([120], f)] [120] = some f := rfl
theorem solo_used : (solo room f safe pend calls l vol).used = l.data.length := by
  unfold St.used St.len solo plain
  simp [one_self]
theorem solo_create : (plain room [] [] [] 0 (fun _ => none) 0).create [120] f = (0, solo room f [] [⟨[120], [120], some f⟩] 1 ⟨[], 0⟩ 0) := by
  rw [plain_create room 0 0 f [] [] [] (fun _ => none) [120] rfl (by simp)]
  rfl
theorem solo_append (b : List UInt8) (h : b.length + l.data.length ≤ room) : (solo room f safe pend calls l vol).append [120] b = (0, solo room f safe pend (calls + 1) ⟨l.data ++ b, l.safe⟩ (vol + b.length)) := by
  have hu := solo_used room calls vol f safe pend l
  unfold solo at *
  rw [plain_append room calls vol f safe pend l [([120], f)] (one f l) [120] b rfl (one_self f l) (by rw [hu]; exact h), one_set]
theorem solo_full (b : List UInt8) (h : room < b.length + l.data.length) : (solo room f safe pend calls l vol).append [120] b = (4, solo room f safe pend calls l vol) := by
  have hu := solo_used room calls vol f safe pend l
  unfold St.append St.on
  rw [if_neg (by simp [solo, plain])]
  rw [show (solo room f safe pend calls l vol).cur = [([120], f)] from rfl, solo_look]
  simp only
  unfold St.appendAt
  rw [hu, if_pos (by exact h)]
theorem solo_sync : (solo room f safe pend calls l vol).sync [120] = (0, solo room f safe pend (calls + 1) ⟨l.data, l.data.length⟩ vol) := by
  unfold solo
  rw [plain_sync room calls vol f safe pend l [([120], f)] (one f l) [120] rfl (one_self f l), one_set]
theorem solo_syncDir : (solo room f safe pend calls l vol).syncDir = (0, solo room f [([120], f)] [] (calls + 1) l vol) := rfl
theorem solo_cut (n : Nat) (h : n ≤ l.data.length) : (solo room f safe pend calls l vol).cut [120] (n : Int) = (0, solo room f safe pend (calls + 1) (l.keep n) vol) := by
  unfold solo
  rw [plain_cut room calls vol f safe pend l [([120], f)] (one f l) [120] n rfl (one_self f l) h, one_set]
theorem solo_read : (solo room f safe pend calls l vol).read [120] = l.data := read_of rfl rfl (one_self f l)
theorem solo_find : (solo room f safe pend calls l vol).find [120] = (some f, 0) := find_of rfl rfl
/-- Behind a restart, where the name was safe. -/
theorem solo_back_read (n b : Int) : ((solo room f [([120], f)] [] calls l vol).restart n b).read [120] = (l.back b.toNat).data ∧ ((solo room f [([120], f)] [] calls l vol).restart n b).find [120] = (some f, 0) := by
  have hN : (solo room f [([120], f)] [] calls l vol).names n.toNat = [([120], f)] := by unfold St.names solo plain; simp [Dir.after]
  have h1 : Dir.look ((solo room f [([120], f)] [] calls l vol).restart n b).cur [120] = some f := by
    unfold St.restart
    simp only
    rw [hN]
    rfl
  refine ⟨read_of rfl h1 ?_, find_of rfl h1⟩
  unfold St.restart
  simp only
  rw [hN, if_pos (by simp [Dir.holds])]
  show (one f l f).map _ = _
  rw [one_self]
  rfl
end

/-- Since w0 a disk came, at block d: as S says; what there was at w0 is as it was. -/
def Has (w0 w : World) (d : Nat) (S : St) : Prop := ∃ F, Dk w F d S ∧ (∀ i, F i → w0.heap.size ≤ i) ∧ Kept noBlock w0 w
section
variable {w0 w w' : World} {d : Nat} {S S' : St} {F : Nat → Prop}
theorem Has.kept (h : Has w0 w d S) : Kept noBlock w0 w := let ⟨_, _, _, k⟩ := h; k
theorem Has.ok (h : Has w0 w d S) : Ok S := let ⟨_, k, _, _⟩ := h; k.ok
theorem Has.next (hF : ∀ i, F i → w0.heap.size ≤ i) (k : Kept noBlock w0 w) (D : Did F w w' d S') : Has w0 w' d S' :=
  ⟨_, D.dk, fun i hi => hi.elim (hF i) (fun h => Nat.le_trans k.size h.1), k.trans D.kept (fun i hi h => absurd (hF i h) (by omega))⟩
theorem Has.then_ (h : Has w0 w d S) (k : Kept noBlock w w') : Has w0 w' d S := by
  obtain ⟨F, hd, hF, k0⟩ := h
  exact ⟨F, hd.keep k (fun _ _ h => h), hF, k0.step k⟩
theorem has_of (n : Nat) (w : World) (hn : n ≤ 4611686018427387904) :
    Calls Try.prog 5 #[.int .i64 (n : Int)] w fun e w' => ∃ d, e = .returned (.pointer (some ⟨d, 0, none⟩)) ∧ Has w w' d (plain n [] [] [] 0 (fun _ => none) 0) :=
  (of_any (n : Int) w (by omega)).mono fun e w' ⟨d, he, hd, k⟩ => ⟨d, he, by rw [← plain_of]; exact ⟨_, hd, fun i hi => hi.1, k⟩⟩
theorem Has.create (h : Has w0 w d S) (s : List UInt8) (hs : s.length ≤ maxLen) (hc : S.calls < 1000000) :
    Calls Try.prog 17 #[.pointer (some ⟨d, 0, none⟩), .string (str s)] w fun e w' => ∃ f, e = .returned (.int .i64 ((S.create s f).1 : Int)) ∧ Has w0 w' d (S.create s f).2 ∧ S.fl f = none := by
  obtain ⟨F, hd, hF, k⟩ := h
  exact (create_any F d S s w hd hs hc).mono fun e w' ⟨f, he, D, hf⟩ => ⟨f, he, Has.next hF k D, hf⟩
theorem Has.append (h : Has w0 w d S) (s : List UInt8) (hs : s.length ≤ maxLen) (hc : S.calls < 1000000) {G : Nat → Prop} {a : Option Addr} {n cp : Nat} {b : List UInt8} (hb : Lies w G a (b.map bv)) (hbn : b.length = n) (hvol : S.vol + n ≤ 1000000000) :
    Calls Try.prog 18 #[.pointer (some ⟨d, 0, none⟩), .string (str s), .slice a n cp] w fun e w' => e = .returned (.int .i64 ((S.append s b).1 : Int)) ∧ Has w0 w' d (S.append s b).2 := by
  obtain ⟨F, hd, hF, k⟩ := h
  exact (append_any F G d S s a n cp b w hd hs hc hb hbn hvol).mono fun e w' ⟨he, D⟩ => ⟨he, Has.next hF k D⟩
theorem Has.cut (h : Has w0 w d S) (s : List UInt8) (n : Int) (hs : s.length ≤ maxLen) (hc : S.calls < 1000000) :
    Calls Try.prog 25 #[.pointer (some ⟨d, 0, none⟩), .string (str s), .int .i64 n] w fun e w' => e = .returned (.int .i64 ((S.cut s n).1 : Int)) ∧ Has w0 w' d (S.cut s n).2 := by
  obtain ⟨F, hd, hF, k⟩ := h
  exact (cut_any F d S s n w hd hs hc).mono fun e w' ⟨he, D⟩ => ⟨he, Has.next hF k D⟩
theorem Has.sync (h : Has w0 w d S) (s : List UInt8) (hs : s.length ≤ maxLen) (hc : S.calls < 1000000) :
    Calls Try.prog 26 #[.pointer (some ⟨d, 0, none⟩), .string (str s)] w fun e w' => e = .returned (.int .i64 ((S.sync s).1 : Int)) ∧ Has w0 w' d (S.sync s).2 := by
  obtain ⟨F, hd, hF, k⟩ := h
  exact (sync_any F d S s w hd hs hc).mono fun e w' ⟨he, D⟩ => ⟨he, Has.next hF k D⟩
theorem Has.syncDir (h : Has w0 w d S) (hc : S.calls < 1000000) :
    Calls Try.prog 19 #[.pointer (some ⟨d, 0, none⟩)] w fun e w' => e = .returned (.int .i64 (S.syncDir.1 : Int)) ∧ Has w0 w' d S.syncDir.2 := by
  obtain ⟨F, hd, hF, k⟩ := h
  exact (syncdir_any F d S w hd hc).mono fun e w' ⟨he, D⟩ => ⟨he, Has.next hF k D⟩
theorem Has.rename (h : Has w0 w d S) (s t : List UInt8) (hs : s.length ≤ maxLen) (ht : t.length ≤ maxLen) (hc : S.calls < 1000000) :
    Calls Try.prog 27 #[.pointer (some ⟨d, 0, none⟩), .string (str s), .string (str t)] w fun e w' => e = .returned (.int .i64 ((S.rename s t).1 : Int)) ∧ Has w0 w' d (S.rename s t).2 := by
  obtain ⟨F, hd, hF, k⟩ := h
  exact (rename_any F d S s t w hd hs ht hc).mono fun e w' ⟨he, D⟩ => ⟨he, Has.next hF k D⟩
theorem Has.remove (h : Has w0 w d S) (s : List UInt8) (hs : s.length ≤ maxLen) (hc : S.calls < 1000000) :
    Calls Try.prog 28 #[.pointer (some ⟨d, 0, none⟩), .string (str s)] w fun e w' => e = .returned (.int .i64 ((S.remove s).1 : Int)) ∧ Has w0 w' d (S.remove s).2 := by
  obtain ⟨F, hd, hF, k⟩ := h
  exact (remove_any F d S s w hd hs hc).mono fun e w' ⟨he, D⟩ => ⟨he, Has.next hF k D⟩
theorem Has.restart (h : Has w0 w d S) (n b : Int) :
    Calls Try.prog 7 #[.pointer (some ⟨d, 0, none⟩), .int .i64 n, .int .i64 b] w fun e w' => e = .returned (.tuple #[]) ∧ Has w0 w' d (S.restart n b) := by
  obtain ⟨F, hd, hF, k⟩ := h
  exact (restart_any F d S n b w hd).mono fun e w' ⟨he, D⟩ => ⟨he, Has.next hF k D⟩
theorem Has.arm (h : Has w0 w d S) (n : Int) (h1 : -9223372036854775808 ≤ n) (h2 : n ≤ 9223372036854775807) :
    Calls Try.prog 6 #[.pointer (some ⟨d, 0, none⟩), .int .i64 n] w fun e w' => e = .returned (.tuple #[]) ∧ Has w0 w' d (S.arm n) := by
  obtain ⟨F, ⟨mc, ms, A, c, R, hd⟩, hF, k⟩ := h
  exact (arm_any F d S n mc ms A c R w hd h1 h2).mono fun e w' ⟨he, D, k'⟩ => ⟨he, Has.next hF k (D.did k' (fun i e => e ▸ hd.fd))⟩
theorem Has.read (h : Has w0 w d S) (s : List UInt8) (hs : s.length ≤ maxLen) :
    Calls Try.prog 16 #[.pointer (some ⟨d, 0, none⟩), .string (str s)] w fun e w' => ∃ A' c', e = .returned (.tuple #[.slice A' (S.read s).length c', .int .i64 ((S.find s).2 : Int)]) ∧
      Lies w' (fun i => w.heap.size ≤ i) A' ((S.read s).map bv) ∧ Kept noBlock w w' := by
  obtain ⟨F, hd, hF, k⟩ := h
  exact (read_any F d S s w hd hs).mono fun e w' ⟨A', c', he, ho, k'⟩ => ⟨A', c', he, Lies.of_own ho (fun k hk => (ho.lt k hk).1), k'⟩
theorem Has.calls (h : Has w0 w d S) : Calls Try.prog 12 #[.pointer (some ⟨d, 0, none⟩)] w fun e w' => e = .returned (.int .i64 (S.calls : Int)) ∧ w = w' := by
  obtain ⟨F, hd, hF, k⟩ := h
  exact calls_any F d S w hd
theorem Has.down (h : Has w0 w d S) : Calls Try.prog 11 #[.pointer (some ⟨d, 0, none⟩)] w fun e w' => e = .returned (.bool S.down) ∧ w = w' := by
  obtain ⟨F, hd, hF, k⟩ := h
  exact down_any F d S w hd
theorem Has.used (h : Has w0 w d S) : Calls Try.prog 13 #[.pointer (some ⟨d, 0, none⟩)] w fun e w' => e = .returned (.int .i64 (S.used : Int)) ∧ Kept noBlock w w' := by
  obtain ⟨F, ⟨mc, ms, A, c, R, hd⟩, hF, k⟩ := h
  exact used_any F d S mc ms A c R w hd
end

set_option maxRecDepth 100000 in
set_option maxHeartbeats 1000000 in
theorem awake_any (w : World) : Calls Try.prog 4 #[] w fun e w' => e = .returned (.bool true) ∧ Kept noBlock w w' := by
  have kc : ∀ (w : World) (C : Array Value) (n c : Nat), (convert 32 32 (.slice (some ⟨w.heap.size, 0, none⟩) n c)).run Try.prog (w.alloc (.cells C 5)) =
      .ok (.slice (some ⟨w.heap.size, 0, none⟩) n c) (w.alloc (.cells C 5 (C.size, C.size + 1))) := fun w C n c => by
    have := Lib.run_convert_bytes_const (P := Try.prog) w 32 5 C n c Try.underlying32 Try.underlying5
    simpa using this
  have ml : ∀ n : Nat, n ≤ 1000 → n ≤ maxLen := fun n h => by unfold maxLen; omega
  have ML := Lib.hid ml; clear ml
  go_enter Try.func4, Try.ntmps4
  go_wp2_with fail
  refine (has_of 100 w (by omega)).mono ?_
  rintro e w1 ⟨d, rfl, h1⟩
  have H1 := Lib.hid h1; clear h1
  go_wp2_with fail
  refine (H1.out.create [120] (ML.out _ (by simp)) (by simp [plain])).mono ?_
  rintro e w2 ⟨f, rfl, h2, hf⟩
  rw [solo_create] at h2 ⊢
  have H2 := Lib.hid h2; clear h2 hf
  go_wp2_with fail
  have k3 := Kept.alloc noBlock w2 (.cells #[.int .u8 97, .int .u8 98, .int .u8 99] 5 (3, 4))
  have hL := Lies.new w2 (fun _ => True) ([97, 98, 99].map bv) 5 (3, 4) trivial
  have h3 := (show Has w w2 d _ from H2.out).then_ k3
  have hL' : Lies (w2.alloc (.cells #[.int .u8 97, .int .u8 98, .int .u8 99] 5 (3, 4))) (fun _ => True) (some ⟨w2.heap.size, 0, none⟩) ([97, 98, 99].map bv) := hL
  clear hL kc
  generalize w2.alloc (.cells #[.int .u8 97, .int .u8 98, .int .u8 99] 5 (3, 4)) = w3 at h3 hL' k3 ⊢
  refine (h3.append [120] (ML.out _ (by simp)) (by simp [solo, plain]) hL' rfl (by simp [solo, plain])).mono ?_
  rintro e w4 ⟨rfl, h4⟩
  rw [solo_append 100 1 0 f [] _ ⟨[], 0⟩ [97, 98, 99] (by simp)] at h4 ⊢
  have H4 := Lib.hid h4; clear h4 h3 hL' k3
  go_wp2_with fail
  refine ((show Has w w4 d _ from H4.out).syncDir (by simp [solo, plain])).mono ?_
  rintro e w5 ⟨rfl, h5⟩
  rw [solo_syncDir] at h5 ⊢
  obtain ⟨S5, hS5⟩ : ∃ S5, S5 = solo 100 f [([120], f)] [] 3 ⟨[97, 98, 99], 0⟩ 3 := ⟨_, rfl⟩
  have hb : (S5.restart 0 2).read [120] = [97, 98] ∧ (S5.restart 0 2).find [120] = (some f, 0) := by
    rw [hS5]
    exact solo_back_read 100 3 3 f ⟨[97, 98, 99], 0⟩ 0 2
  have H5 : Hid (Has w w5 d S5) := by rw [hS5]; exact Lib.hid h5
  have hc5 : (S5.restart 0 2).calls = 3 := by rw [hS5]; rfl
  have HB := Lib.hid hb
  have HC5 := Lib.hid hc5
  clear h5 hS5 hb hc5
  go_wp2_with fail
  refine (H5.out.restart 0 2).mono ?_
  rintro e w6 ⟨rfl, h6⟩
  have H6 := Lib.hid h6; clear h6
  go_wp2_with fail
  refine (H6.out.read [120] (ML.out _ (by simp))).mono ?_
  rintro e w7 ⟨A', c', rfl, hL7, k7⟩
  rw [HB.out.1] at hL7 ⊢
  rw [HB.out.2]
  have hcv := fun c => run_str (n := 2) hL7 rfl c
  have H7 := Lib.hid (H6.out.then_ k7)
  clear hL7 k7
  have hsl : str [97, 98] = ⟨#[97, 98]⟩ := rfl
  rw [hsl] at hcv
  go_wp2_with fail
  refine (H7.out.calls).mono ?_
  rw [HC5.out]
  rintro e w8 ⟨rfl, rfl⟩
  go_wp2
  go_ret
  exact ⟨rfl, H7.out.kept⟩
theorem small_name (s : List UInt8) (h : s.length ≤ 1000) : s.length ≤ maxLen := by unfold maxLen; omega
end Go.Proofs.Ytdcccjkondjhbaa
