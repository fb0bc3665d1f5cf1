/-
  FilesRename: what it does with whatever bytes. No statement is proved here.
-/
import Derived.Test.YtaelkmcohdfboaaL4Cut
namespace Go.Proofs.Ytaelkmcohdfboaa
open Go.RowKit Go.Maps

/-- Whatever is kept of the names: x is there, and what is safe of it is a, or b. -/
def Inv (a b : List UInt8) (S : St) : Prop := ∀ k, ∃ h l, Dir.look (S.names k) [120] = some h ∧ S.fl h = some l ∧ (l.data.take l.safe = a ∨ l.data.take l.safe = b)
theorem Inv.of {a b : List UInt8} {S S' : St} (h : Inv a b S) (h1 : S'.safe = S.safe) (h2 : S'.pend = S.pend) (h3 : S'.fl = S.fl) : Inv a b S' := fun k => by
  obtain ⟨x, l, e1, e2, e3⟩ := h k
  refine ⟨x, l, ?_, by rw [h3]; exact e2, e3⟩
  unfold St.names at *
  rw [h1, h2]
  exact e1
theorem Inv.count {a b : List UInt8} {S : St} (h : Inv a b S) : Inv a b S.count.2 := h.of S.count_safe S.count_pend S.count_fl
theorem Inv.back {a b : List UInt8} {S : St} (h : Inv a b S) (n : Int) : ∃ f, ((S.restart n 0).read [120] = a ∨ (S.restart n 0).read [120] = b) ∧ (S.restart n 0).find [120] = (some f, 0) := by
  obtain ⟨f, l, e1, e2, e3⟩ := h n.toNat
  have h1 : Dir.look (S.restart n 0).cur [120] = some f := e1
  have hm := Dir.mem_of_look e1
  have h2 : (S.restart n 0).fl f = some (l.back 0) := by
    unfold St.restart
    simp only
    rw [if_pos (by unfold Dir.holds; rw [List.any_eq_true]; exact ⟨_, hm, by simp⟩), e2]
    rfl
  refine ⟨f, ?_, find_of rfl h1⟩
  rw [read_of rfl h1 h2]
  unfold Fl.back
  simpa using e3
structure Stage (f g : Nat) (a : List UInt8) (n v : Nat) (S : St) (cur safe : Dir) (pend : List Chg) (l : Option Fl) : Prop where
  down : S.down = false
  room : S.room = 200
  cur : S.cur = cur
  safe : S.safe = safe
  pend : S.pend = pend
  flf : S.fl f = some ⟨a, a.length⟩
  flg : S.fl g = l
  ne : g ≠ f
  calls : S.calls ≤ n
  vol : S.vol ≤ v
def c1 (g : Nat) : Chg := ⟨[116], [116], some g⟩
def c2 (g : Nat) : Chg := ⟨[116], [120], some g⟩
theorem count_zero {S : St} (h : S.count.1 = 0) : S.count.2.down = S.down ∧ S.count.2.room = S.room := by
  unfold St.count at *
  split
  · exact ⟨rfl, rfl⟩
  · rename_i h1
    rw [if_neg h1] at h
    split
    · exact ⟨rfl, rfl⟩
    · rename_i h2
      rw [if_neg h2] at h
      cases h

section
variable {f g n v : Nat} {a b : List UInt8} {S : St}
theorem inv_a {cur : Dir} {pend : List Chg} {l : Option Fl} (h : Stage f g a n v S cur [([120], f)] pend l) (hp : pend = [] ∨ pend = [c1 g]) : Inv a b S := fun k => by
  refine ⟨f, ⟨a, a.length⟩, ?_, h.flf, .inl (by simp)⟩
  unfold St.names
  rw [h.safe, h.pend]
  rcases hp with rfl | rfl
  · simp only [List.take_nil]
    rfl
  · cases k with
    | zero => rfl
    | succ k => rw [List.take_of_length_le (by simp)]; rfl
theorem ren_create (h : Stage f g a n v S [([120], f)] [([120], f)] [] none) :
    ((S.create [116] g).1 = 0 ∧ Stage f g a (n + 1) v (S.create [116] g).2 [([116], g), ([120], f)] [([120], f)] [c1 g] (some ⟨[], 0⟩)) ∨ ((S.create [116] g).1 = 7 ∧ Inv a b (S.create [116] g).2) := by
  have e0 : S.create [116] g = (S.setFl g ⟨[], 0⟩).step (c1 g) := by
    unfold St.create
    rw [if_neg (by rw [h.down]; simp), if_neg (by rw [h.cur, show Dir.look [([120], f)] [116] = none from rfl]; simp), if_neg (by rw [h.cur]; simp)]
    rfl
  have hfg : ¬ f = g := fun e => h.ne e.symm
  have h1 : Stage f g a n v (S.setFl g ⟨[], 0⟩) [([120], f)] [([120], f)] [] (some ⟨[], 0⟩) :=
    ⟨h.down, h.room, h.cur, h.safe, h.pend, by show (if f = g then _ else S.fl f) = _; rw [if_neg hfg]; exact h.flf, by show (if g = g then _ else S.fl g) = _; rw [if_pos rfl], h.ne, h.calls, h.vol⟩
  rw [e0]
  generalize S.setFl g ⟨[], 0⟩ = T at h1
  clear e0 h
  unfold St.step
  rcases T.count_err with he | he
  · left
    rw [if_pos he]
    have hz := count_zero he
    refine ⟨rfl, ⟨hz.1.trans h1.down, hz.2.trans h1.room, ?_, T.count_safe.trans h1.safe, ?_, by show T.count.2.fl f = _; rw [T.count_fl]; exact h1.flf, by show T.count.2.fl g = _; rw [T.count_fl]; exact h1.flg, h1.ne, ?_, by show T.count.2.vol ≤ _; rw [T.count_vol]; exact h1.vol⟩⟩
    · show Dir.step T.cur (c1 g) = _
      rw [h1.cur]
      rfl
    · show T.pend ++ [c1 g] = _
      rw [h1.pend]
      rfl
    · show T.count.2.calls ≤ _
      rw [T.count_calls]
      have := h1.calls
      omega
  · right
    rw [if_neg (by rw [he]; simp)]
    exact ⟨he, (inv_a h1 (.inl rfl)).count⟩
/-- A stage behind a count that told no error. -/
theorem Stage.count {cur safe : Dir} {pend : List Chg} {l : Option Fl} (h : Stage f g a n v S cur safe pend l) (he : S.count.1 = 0) : Stage f g a (n + 1) v S.count.2 cur safe pend l :=
  ⟨(count_zero he).1.trans h.down, (count_zero he).2.trans h.room, S.count_cur.trans h.cur, S.count_safe.trans h.safe, S.count_pend.trans h.pend, by rw [S.count_fl]; exact h.flf, by rw [S.count_fl]; exact h.flg, h.ne,
    by rw [S.count_calls]; have := h.calls; omega, by rw [S.count_vol]; exact h.vol⟩
theorem Stage.setG {cur safe : Dir} {pend : List Chg} {l : Option Fl} {m : Fl} {u : Nat} (h : Stage f g a n v S cur safe pend l) {x : Nat} (hx : x ≤ u) : Stage f g a n u { S.setFl g m with vol := x } cur safe pend (some m) :=
  ⟨h.down, h.room, h.cur, h.safe, h.pend, by show (if f = g then _ else S.fl f) = _; rw [if_neg (fun e => h.ne e.symm)]; exact h.flf, by show (if g = g then _ else S.fl g) = _; rw [if_pos rfl], h.ne, h.calls, hx⟩
theorem stage_used {safe : Dir} {pend : List Chg} {m : Fl} (h : Stage f g a n v S [([116], g), ([120], f)] safe pend (some m)) : S.used = m.data.length + a.length := by
  unfold St.used St.len
  rw [h.cur]
  simp [h.flf, h.flg]
theorem ren_append (h : Stage f g a n v S [([116], g), ([120], f)] [([120], f)] [c1 g] (some ⟨[], 0⟩)) (hab : b.length + a.length ≤ 200) :
    ((S.append [116] b).1 = 0 ∧ Stage f g a (n + 1) (v + b.length) (S.append [116] b).2 [([116], g), ([120], f)] [([120], f)] [c1 g] (some ⟨b, 0⟩)) ∨ ((S.append [116] b).1 = 7 ∧ Inv a b (S.append [116] b).2) := by
  have e0 : S.append [116] b = (S.app g b).count := by
    unfold St.append St.on
    rw [if_neg (by rw [h.down]; simp), h.cur, show Dir.look [([116], g), ([120], f)] [116] = some g from rfl]
    simp only
    unfold St.appendAt
    rw [if_neg (by rw [stage_used h, h.room]; simp only [List.length_nil]; omega)]
  have h1 : Stage f g a n (v + b.length) (S.app g b) [([116], g), ([120], f)] [([120], f)] [c1 g] (some ⟨b, 0⟩) := by
    unfold St.app
    rw [file_eq h.flg]
    simp only [List.nil_append]
    exact h.setG (by have := h.vol; omega)
  rw [e0]
  rcases (S.app g b).count_err with he | he
  · exact .inl ⟨he, h1.count he⟩
  · exact .inr ⟨he, (inv_a h1 (.inr rfl)).count⟩
theorem ren_sync (h : Stage f g a n v S [([116], g), ([120], f)] [([120], f)] [c1 g] (some ⟨b, 0⟩)) :
    ((S.sync [116]).1 = 0 ∧ Stage f g a (n + 1) v (S.sync [116]).2 [([116], g), ([120], f)] [([120], f)] [c1 g] (some ⟨b, b.length⟩)) ∨ ((S.sync [116]).1 = 7 ∧ Inv a b (S.sync [116]).2) := by
  have e0 : S.sync [116] = S.syncAt g := by
    unfold St.sync St.on
    rw [if_neg (by rw [h.down]; simp), h.cur, show Dir.look [([116], g), ([120], f)] [116] = some g from rfl]
  rw [e0]
  unfold St.syncAt
  rw [file_eq h.flg]
  rcases S.count_err with he | he
  · rw [if_pos he]
    exact .inl ⟨rfl, (h.count he).setG (h.count he).vol⟩
  · rw [if_neg (by rw [he]; simp)]
    exact .inr ⟨he, (inv_a h (.inr rfl)).count⟩
theorem inv_b {cur : Dir} (h : Stage f g a n v S cur [([120], f)] [c1 g, c2 g] (some ⟨b, b.length⟩)) : Inv a b S := fun k => by
  unfold St.names
  rw [h.safe, h.pend]
  match k with
  | 0 => exact ⟨f, _, rfl, h.flf, .inl (by simp)⟩
  | 1 => exact ⟨f, _, rfl, h.flf, .inl (by simp)⟩
  | k + 2 => exact ⟨g, _, by rw [List.take_of_length_le (by simp)]; rfl, h.flg, .inr (by simp)⟩
theorem inv_c {cur : Dir} (h : Stage f g a n v S cur [([120], g)] [] (some ⟨b, b.length⟩)) : Inv a b S := fun k => by
  unfold St.names
  rw [h.safe, h.pend]
  exact ⟨g, _, by simp only [List.take_nil]; rfl, h.flg, .inr (by simp)⟩
theorem ren_rename (h : Stage f g a n v S [([116], g), ([120], f)] [([120], f)] [c1 g] (some ⟨b, b.length⟩)) :
    ((S.rename [116] [120]).1 = 0 ∧ Stage f g a (n + 1) v (S.rename [116] [120]).2 [([120], g)] [([120], f)] [c1 g, c2 g] (some ⟨b, b.length⟩)) ∨ ((S.rename [116] [120]).1 = 7 ∧ Inv a b (S.rename [116] [120]).2) := by
  have e0 : S.rename [116] [120] = S.step (c2 g) := by
    unfold St.rename St.on
    rw [if_neg (by rw [h.down]; simp), h.cur, show Dir.look [([116], g), ([120], f)] [116] = some g from rfl]
    simp only
    rw [if_neg (by decide)]
    rfl
  rw [e0]
  unfold St.step
  rcases S.count_err with he | he
  · rw [if_pos he]
    have h1 := h.count he
    refine .inl ⟨rfl, ⟨h1.down, h1.room, ?_, h1.safe, ?_, h1.flf, h1.flg, h1.ne, h1.calls, h1.vol⟩⟩
    · show Dir.step S.cur (c2 g) = _
      rw [h.cur]
      rfl
    · show S.pend ++ [c2 g] = _
      rw [h.pend]
      rfl
  · rw [if_neg (by rw [he]; simp)]
    exact .inr ⟨he, (inv_a h (.inr rfl)).count⟩
theorem ren_syncDir (h : Stage f g a n v S [([120], g)] [([120], f)] [c1 g, c2 g] (some ⟨b, b.length⟩)) :
    (S.syncDir.1 = 0 ∨ S.syncDir.1 = 7) ∧ Inv a b S.syncDir.2 := by
  unfold St.syncDir
  rw [if_neg (by rw [h.down]; simp)]
  rcases S.count_err with he | he
  · rw [if_pos he]
    have h1 := h.count he
    exact ⟨.inl rfl, inv_c (f := f) (n := n + 1) (v := v) (cur := [([120], g)]) ⟨h1.down, h1.room, h1.cur, h.cur, rfl, h1.flf, h1.flg, h1.ne, h1.calls, h1.vol⟩⟩
  · rw [if_neg (by rw [he]; simp)]
    exact ⟨.inr he, (inv_b h).count⟩
end

/-- A disk, and blocks beside it that hold what P says. -/
def HasC (w0 w : World) (d : Nat) (S : St) (P : List (Nat × Obj)) : Prop := ∃ F, Dk w F d S ∧ (∀ i, F i → w0.heap.size ≤ i) ∧ (∀ p ∈ P, ¬ F p.1 ∧ w.heap[p.1]? = some p.2) ∧ Kept noBlock w0 w
section
variable {w0 w w' : World} {d : Nat} {S S' : St} {P : List (Nat × Obj)}
theorem hasC_did {F : Nat → Prop} (hF : ∀ i, F i → w0.heap.size ≤ i) (hP : ∀ p ∈ P, ¬ F p.1 ∧ w.heap[p.1]? = some p.2) (k : Kept noBlock w0 w) (D : Did F w w' d S') : HasC w0 w' d S' P :=
  ⟨_, D.dk, fun i hi => hi.elim (hF i) (fun h => Nat.le_trans k.size h.1), fun p hp => ⟨fun h => h.elim (hP p hp).1 (fun h9 => by have := lt_of_blk (hP p hp).2; have := h9.1; omega), D.kept.blk (hP p hp).2 (hP p hp).1⟩, k.trans D.kept (fun i hi h => absurd (hF i h) (by omega))⟩
theorem HasC.next (h : HasC w0 w d S P) {f : FuncId} {args : Array Value} {e0 : Nat} (c : ∀ F, Dk w F d S → Calls Try.prog f args w fun e w' => e = .returned (.int .i64 (e0 : Int)) ∧ Did F w w' d S') :
    Calls Try.prog f args w fun e w' => e = .returned (.int .i64 (e0 : Int)) ∧ HasC w0 w' d S' P := by
  obtain ⟨F, hd, hF, hP, k⟩ := h
  refine (c F hd).mono ?_
  rintro e w' ⟨rfl, D⟩
  exact ⟨rfl, hasC_did hF hP k D⟩
theorem HasC.create (h : HasC w0 w d S P) (s : List UInt8) (hs : s.length ≤ maxLen) (hc : S.calls < 1000000) :
    Calls Try.prog 24 #[.pointer (some ⟨d, 0, none⟩), .string (str s)] w fun e w' => ∃ f, e = .returned (.int .i64 ((S.create s f).1 : Int)) ∧ HasC w0 w' d (S.create s f).2 P ∧ S.fl f = none := by
  obtain ⟨F, hd, hF, hP, k⟩ := h
  refine (create_any F d S s w hd hs hc).mono ?_
  rintro e w' ⟨f, rfl, D, hf⟩
  exact ⟨f, rfl, hasC_did hF hP k D, hf⟩
theorem HasC.arm (h : HasC w0 w d S P) (n : Int) (h1 : -9223372036854775808 ≤ n) (h2 : n ≤ 9223372036854775807) :
    Calls Try.prog 13 #[.pointer (some ⟨d, 0, none⟩), .int .i64 n] w fun e w' => e = .returned (.tuple #[]) ∧ HasC w0 w' d (S.arm n) P := by
  obtain ⟨F, ⟨mc, ms, A, c, R, hd⟩, hF, hP, k⟩ := h
  refine (arm_any F d S n mc ms A c R w hd h1 h2).mono ?_
  rintro e w' ⟨rfl, D, k'⟩
  exact ⟨rfl, hasC_did hF hP k (D.did k' (fun i e => e ▸ hd.fd))⟩
theorem HasC.restart (h : HasC w0 w d S P) (n b : Int) :
    Calls Try.prog 14 #[.pointer (some ⟨d, 0, none⟩), .int .i64 n, .int .i64 b] w fun e w' => e = .returned (.tuple #[]) ∧ HasC w0 w' d (S.restart n b) P := by
  obtain ⟨F, hd, hF, hP, k⟩ := h
  refine (restart_any F d S n b w hd).mono ?_
  rintro e w' ⟨rfl, D⟩
  exact ⟨rfl, hasC_did hF hP k D⟩
theorem HasC.has (h : HasC w0 w d S P) : Has w0 w d S := let ⟨F, hd, hF, _, k⟩ := h; ⟨F, hd, hF, k⟩
theorem HasC.kept (h : HasC w0 w d S P) : Kept noBlock w0 w := h.has.kept
theorem HasC.blk (h : HasC w0 w d S P) {B : Nat} {o : Obj} (hp : (B, o) ∈ P) : w.heap[B]? = some o := let ⟨_, _, _, hP, _⟩ := h; (hP _ hp).2
theorem HasC.box (h : HasC w0 w d S P) {B : Nat} {v : Value} {t : TypeId} (hp : (B, .cells #[v] t) ∈ P) : w.cell? ⟨B, 0, none⟩ = some v := cell_of_row _ _ _ _ _ _ (h.blk hp)
theorem HasC.add (h : HasC w0 w d S P) (o : Obj) : HasC w0 (w.alloc o) d S ((w.heap.size, o) :: P) := by
  obtain ⟨F, hd, hF, hP, k⟩ := h
  have k1 := Kept.alloc noBlock w o
  refine ⟨F, hd.keep k1 (fun _ _ h => h), hF, fun p hp => ?_, k.step k1⟩
  rcases List.mem_cons.1 hp with rfl | hp
  · exact ⟨fun h9 => by have := hd.lt _ h9; simp at this, heap_alloc_new w o⟩
  · exact ⟨(hP p hp).1, k1.blk (hP p hp).2 (fun h => h)⟩
end

section
variable {w0 w : World} {d : Nat} {S : St} {P : List (Nat × Obj)} {B : Nat}
set_option maxHeartbeats 1000000 in
theorem k0_any (h : HasC w0 w d S P) (hp : (B, .cells #[.pointer (some ⟨d, 0, none⟩)] 24) ∈ P) (hc : S.calls < 1000000) :
    Calls Try.prog 28 #[.pointer (some ⟨B, 0, none⟩)] w fun e w' => ∃ g, e = .returned (.int .i64 ((S.create [116] g).1 : Int)) ∧ HasC w0 w' d (S.create [116] g).2 P ∧ S.fl g = none := by
  have x := h.box hp
  go_enter Try.func28, Try.ntmps28
  go_wp2_with fail
  refine (h.create [116] (small_name _ (by simp)) hc).mono ?_
  rintro e w1 ⟨g, rfl, h1⟩
  have H1 := Lib.hid h1; clear h1 h
  go_wp2
  go_ret
  exact ⟨g, rfl, H1.out⟩
set_option maxHeartbeats 1000000 in
theorem k1_any (F : Nat → Prop) (h : HasC w0 w d S P) (hp : (B, .cells #[.pointer (some ⟨d, 0, none⟩)] 24) ∈ P) (hc : S.calls < 1000000) {b : Option Addr} {m c B0 : Nat} {u : List UInt8} (hL : Lies w F b (u.map bv)) (hu : u.length = m) (hv : S.vol + m ≤ 1000000000) (hb : w.cell? ⟨B0, 0, none⟩ = some (.slice b m c)) :
    Calls Try.prog 29 #[.pointer (some ⟨B, 0, none⟩), .pointer (some ⟨B0, 0, none⟩)] w fun e w' => e = .returned (.int .i64 ((S.append [116] u).1 : Int)) ∧ HasC w0 w' d (S.append [116] u).2 P := by
  have x := h.box hp
  have HN := Lib.hid (h.next (fun F9 hd9 => append_any F9 F d S [116] b m c u w hd9 (small_name _ (by simp)) hc hL hu hv))
  clear h hL
  go_enter Try.func29, Try.ntmps29
  go_wp2_with fail
  refine HN.out.mono ?_
  rintro e w1 ⟨rfl, h1⟩
  have H1 := Lib.hid h1; clear h1
  go_wp2
  go_ret
  exact ⟨rfl, H1.out⟩
set_option maxHeartbeats 1000000 in
theorem k2_any (h : HasC w0 w d S P) (hp : (B, .cells #[.pointer (some ⟨d, 0, none⟩)] 24) ∈ P) (hc : S.calls < 1000000) :
    Calls Try.prog 30 #[.pointer (some ⟨B, 0, none⟩)] w fun e w' => e = .returned (.int .i64 ((S.sync [116]).1 : Int)) ∧ HasC w0 w' d (S.sync [116]).2 P := by
  have x := h.box hp
  have HN := Lib.hid (h.next (fun F9 hd9 => sync_any F9 d S [116] w hd9 (small_name _ (by simp)) hc))
  clear h
  go_enter Try.func30, Try.ntmps30
  go_wp2_with fail
  refine HN.out.mono ?_
  rintro e w1 ⟨rfl, h1⟩
  have H1 := Lib.hid h1; clear h1
  go_wp2
  go_ret
  exact ⟨rfl, H1.out⟩
set_option maxHeartbeats 1000000 in
theorem k3_any (h : HasC w0 w d S P) (hp : (B, .cells #[.pointer (some ⟨d, 0, none⟩)] 24) ∈ P) (hc : S.calls < 1000000) :
    Calls Try.prog 31 #[.pointer (some ⟨B, 0, none⟩)] w fun e w' => e = .returned (.int .i64 ((S.rename [116] [120]).1 : Int)) ∧ HasC w0 w' d (S.rename [116] [120]).2 P := by
  have x := h.box hp
  have HN := Lib.hid (h.next (fun F9 hd9 => rename_any F9 d S [116] [120] w hd9 (small_name _ (by simp)) (small_name _ (by simp)) hc))
  clear h
  go_enter Try.func31, Try.ntmps31
  go_wp2_with fail
  refine HN.out.mono ?_
  rintro e w1 ⟨rfl, h1⟩
  have H1 := Lib.hid h1; clear h1
  go_wp2
  go_ret
  exact ⟨rfl, H1.out⟩
end
end Go.Proofs.Ytaelkmcohdfboaa
