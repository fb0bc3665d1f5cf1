/-
  The model's methods, first part: set, copied, used, call. No statement is proved here.
-/
import Derived.Test.YtdcccjkondjhbaaMdl
namespace Go.Proofs.Ytdcccjkondjhbaa
open Go.RowKit Go.Maps

theorem zeroMfile (w : World) : (zeroValue 44).run Try.prog w = .ok (.pointer none) w := by kernel_rfl

set_option maxRecDepth 100000 in
set_option maxHeartbeats 1000000 in
theorem set_any (b : Nat) (N : Dir) (s : List UInt8) (o : Option Nat) (w : World) (h : Nm w (some b) N) (hs : s.length ≤ maxLen) (hn : N.length < maxLen) :
    Calls Try.prog 22 #[.map (some b), .string (str s), ptrOf o] w fun e w' => e = .returned (.tuple #[]) ∧ Nm w' (some b) (N.set s o) ∧ Kept (fun k => k = b) w w' := by
  have H := Lib.hid h; clear h
  cases o with
  | none =>
    show Calls Try.prog 22 #[.map (some b), .string (str s), .pointer none] w _
    go_enter Try.func22, Try.ntmps22
    go_wp2_with (at_delete; refine wpList_mdel rfl _ _ 27 44 rfl Try.underlying27 b N rfl H.out s rfl hs ?_)
    intro w1 hN1 k1
    have H1 := Lib.hid hN1; clear hN1
    go_wp2
    go_end0
    exact ⟨rfl, H1.out, k1⟩
  | some f =>
    have hlt : Hid ((N.del s).length < maxLen) := Lib.hid (Nat.lt_of_le_of_lt (Dir.del_len N s) hn)
    show Calls Try.prog 22 #[.map (some b), .string (str s), .pointer (some ⟨f, 0, none⟩)] w _
    go_enter Try.func22, Try.ntmps22
    go_wp2_with (at_delete; refine wpList_mdel rfl _ _ 27 44 rfl Try.underlying27 b N rfl H.out s rfl hs ?_)
    intro w1 hN1 k1
    have H1 := Lib.hid hN1; clear hN1
    go_wp2_with (at_mapUpdate; refine wpList_mput rfl _ _ _ 27 44 rfl Try.underlying27 b (N.del s) rfl H1.out s rfl hs hlt.out f rfl ?_)
    intro w2 hN2 k2
    have H2 := Lib.hid hN2; clear hN2
    go_wp2
    go_end0
    exact ⟨rfl, H2.out, k1.step k2⟩

set_option maxRecDepth 100000 in
set_option maxHeartbeats 2000000 in
theorem copied_any (b : Nat) (N : Dir) (w : World) (h : Nm w (some b) N) (hn : N.length < 1000000000) :
    Calls Try.prog 23 #[.map (some b)] w fun e w' => ∃ b', e = .returned (.map (some b')) ∧ Nm w' (some b') N ∧ Kept noBlock w w' ∧ w.heap.size ≤ b' := by
  have hmm := @run_makeMap Try.prog
  have hM := Nm.made w
  have k0 := Kept.alloc noBlock w (.map #[] 0)
  have hN0 := h.keep k0 (fun _ _ h => h)
  have hsort := Lib.hid h.sorted
  have hbl := h.lt
  obtain ⟨o, ho⟩ : ∃ o, o = w.heap.size := ⟨_, rfl⟩
  rw [← ho] at hM
  have hsz : (w.alloc (.map #[] 0)).heap.size = o + 1 := by rw [ho]; simp
  go_enter Try.func23, Try.ntmps23
  have HM := Lib.hid hM; clear hM
  have HN := Lib.hid hN0; clear hN0 h
  go_wp2_with (at_range; refine wpList_mrange rfl _ 27 44 rfl Try.underlying27 b N rfl HN.out ?_)
  rw [← ho]
  generalize w.alloc (.map #[] 0) = w0 at HM k0 HN hsz ⊢
  intro w1 left0 hrg0 hst0 k1 hs1
  clear hmm
  have hso : w.heap.size ≤ o := by omega
  have hbo : b < o := by omega
  clear ho hbl hsz
  have HR0 := Lib.hid hrg0
  have HS0 := Lib.hid hst0
  have hM1 := HM.out.keep k1 (fun _ _ h => h)
  have HM1 := Lib.hid hM1
  have kw1 : Kept noBlock w w1 := k0.step k1
  clear hrg0 hst0 hM1 k1 k0 hs1
  go_wp2
  go_loopw [9] (fun _ wr => ∃ (left : Lit → Bool) (cnt : Nat) (M : Dir), Hid (Rng wr b (o + 1) N left cnt) ∧ Hid (Nm wr (some o) M) ∧ Hid (∀ p, p ∈ M ↔ p ∈ N ∧ left (.string p.1) = false) ∧ Hid (M.length + cnt ≤ N.length) ∧ Kept noBlock w wr) (fun _ wr => wr.rangeLeft b (o + 1))
  case atStart =>
    refine ⟨left0, N.length, [], HR0, HM1, Lib.hid fun p => ⟨fun hp => (by cases hp), fun hp => ?_⟩, Lib.hid (by simp), kw1⟩
    have := HS0.out
    unfold Dir.still at this
    rw [List.filter_eq_self] at this
    rw [this p hp.1] at hp
    cases hp.2
  case round =>
    obtain ⟨left, cnt, M, HR, HMr, HP, HL, kk⟩ := hrel
    go_wp2_with (at_next; refine wpList_mnext rfl _ rfl b (o + 1) N left cnt rfl HR.out ?_ ?_)
    · intro hdone
      have hMN : M = N := by
        refine dir_ext HMr.out.sorted hsort.out fun p => ?_
        rw [HP.out p]
        unfold Dir.still at hdone
        rw [List.filter_eq_nil_iff] at hdone
        exact ⟨fun h => h.1, fun h => ⟨h, by have := hdone p h; simpa using this⟩⟩
      subst hMN
      go_wp2
      go_ret
      exact ⟨o, rfl, HMr.out, kk, by omega⟩
    · intro s f w2 cnt2 hmem hl hsl hrg2 hlt k2 hsz2 hen
      have hMn := HMr.out.keep k2 (fun x hx e => by injection hx with hx; omega)
      have hlen := HL.out
      have HML := Lib.hid (show M.length < maxLen by unfold maxLen; omega)
      have HMn := Lib.hid hMn
      have HRn := Lib.hid hrg2
      have hkr : Kept noBlock w w2 := kk.trans k2 (fun i hi e => by omega)
      have hm3 := Lib.hid (show wr.rangeLeft b (o + 1) = cnt from World.ranges.left_eq HR.out)
      have HMEM := Lib.hid hmem
      have HLS := Lib.hid hl
      clear hMn hrg2 hlen hmem hl k2
      go_wp2_with (at_mapUpdate; refine wpList_mput rfl _ _ _ 27 44 rfl Try.underlying27 o M rfl HMn.out s rfl hsl HML.out f rfl ?_)
      intro w3 hM3 k3
      have HM3 := Lib.hid hM3
      have hR3 := HRn.out.keep k3 (fun e => by omega) (fun e => by omega)
      have HR3 := Lib.hid hR3
      have hm2 := Lib.hid (show w3.rangeLeft b (o + 1) = cnt2 from World.ranges.left_eq hR3)
      have kk3 : Kept noBlock w w3 := hkr.trans k3 (fun i hi e => by omega)
      have hpl := Dir.put_len M s f
      have hlen3 : Hid ((M.put s f).length + cnt2 ≤ N.length) := by have := HL.out; show _ ≤ _; omega
      have hP3 : Hid (∀ p, p ∈ M.put s f ↔ p ∈ N ∧ (fun z => left z && !z.sameKey (.string s)) (.string p.1) = false) := Lib.hid fun p => by
        have key : (Lit.string p.1).sameKey (.string s) = (p.1 == s) := rfl
        rw [Dir.mem_put, HP.out p]
        simp only [key]
        by_cases e : p.1 = s
        · constructor
          · rintro (rfl | h9)
            · exact ⟨HMEM.out, by simp⟩
            · exact absurd e h9.2
          · rintro ⟨h9, _⟩
            left
            have hnd := hsort.out
            by_cases hpe : p = (s, f)
            · exact hpe
            · exfalso
              have := nodup_sorted hnd h9 HMEM.out e
              exact hpe this
        · have hne : p ≠ (s, f) := fun h9 => e (by rw [h9])
          have : (p.1 == s) = false := by simpa using e
          rw [this]
          constructor
          · rintro (h9 | h9)
            · exact absurd h9 hne
            · exact ⟨h9.1.1, by simp [h9.1.2]⟩
          · rintro ⟨h9, h8⟩
            exact .inr ⟨⟨h9, by simpa using h8⟩, e⟩
      clear hM3 hR3 k3 hkr hpl
      go_wp2
      go_roundw
      case rel => exact ⟨_, cnt2, M.put s f, HR3, HM3, hP3, hlen3, kk3⟩
      case measure => rw [hm2.out, hm3.out]; exact hlt

/-- How long the text at a block is. -/
def mlen (w : World) (b : Nat) : Nat := match w.heap[b]? with | some (.cells cs _ _) => (match cs[0]? with | some (Value.string s) => s.size | _ => 0) | _ => 0
theorem MdR.used {w : World} {G K : Nat → Prop} {m : Nat} {S : St} {g : Nat → Nat} {stop : Int} {mn mk : Nat} {A A' : Option Addr} {c c' : Nat} {xs ys : List Value} (h : MdR w G m S g K stop mn mk A c A' c' xs ys) :
    ((S.cur.re g).map fun p => mlen w p.2).sum = S.used := by
  unfold St.used Dir.re
  rw [List.map_map]
  congr 1
  refine List.map_congr_left fun p hp => ?_
  obtain ⟨l, hfl⟩ := Option.isSome_iff_exists.1 (h.ok.cur_fl p hp)
  have hb := h.fil p.2 l (h.kcur p hp) hfl
  simp only [Function.comp, mlen, St.len, hfl, hb]
  simp [str_size]

set_option maxRecDepth 100000 in
set_option maxHeartbeats 2000000 in
theorem mused_any (G K : Nat → Prop) (m : Nat) (S : St) (g : Nat → Nat) (w : World) (h : Md w G m S g K) :
    Calls Try.prog 14 #[.pointer (some ⟨m, 0, none⟩)] w fun e w' => e = .returned (.int .i64 (S.used : Int)) ∧ Kept noBlock w w' := by
  obtain ⟨stop, mn, mk, A, c, A', c', xs, ys, h⟩ := h
  have hb := h.blk
  unfold mcells at hb
  have c1 : w.cell? ⟨m, 0, none⟩ = some (.map (some mn)) := cell_of_row _ _ _ _ _ _ hb
  have H := Lib.hid h
  have hnd := Lib.hid h.now.nodup
  have hN := Lib.hid h.now
  have hbF := h.now.lt
  have hus := Lib.hid h.used
  obtain ⟨N, hNe⟩ : ∃ N, N = S.cur.re g := ⟨_, rfl⟩
  rw [← hNe] at hnd hN hus
  have HNE := Lib.hid hNe
  clear hb h hNe
  go_enter Try.func14, Try.ntmps14
  go_wp2_with (at_range; refine wpList_mrange rfl _ 27 44 rfl Try.underlying27 mn N rfl hN.out ?_)
  intro w0 left0 hrg0 hst0 k0 hs0
  have HR0 := Lib.hid hrg0
  have HS0 := Lib.hid hst0
  clear hrg0 hst0
  go_wp2
  go_loopw [3] (fun x wr => ∃ (left : Lit → Bool) (cnt k : Nat), x = .int .i64 (k : Int) ∧ k ≤ 1000000000000000 ∧ Hid (Rng wr mn w.heap.size N left cnt) ∧ Hid (k + ((Dir.still N left).map fun p => mlen w p.2).sum = S.used) ∧ Kept noBlock w wr) (fun _ wr => wr.rangeLeft mn w.heap.size)
  case atStart => exact ⟨left0, N.length, 0, rfl, by omega, HR0, by rw [HS0.out, Nat.zero_add]; exact hus, k0⟩
  case round =>
    obtain ⟨left, cnt, k, rfl, hk, HR, HU, kk⟩ := hrel
    go_wp2_with (at_next; refine wpList_mnext rfl _ rfl mn w.heap.size N left cnt rfl HR.out ?_ ?_)
    · intro hdone
      have hmu : k = S.used := by have := HU.out; rw [hdone] at this; simpa using this
      go_wp2
      go_ret
      exact ⟨by rw [hmu]; rfl, kk⟩
    · intro s f w1 cnt1 hmem hl hsl hrg1 hlt k1 hsz hen
      have hmem' := hmem
      rw [HNE.out, Dir.mem_re] at hmem'
      obtain ⟨q, hq, hqe⟩ := hmem'
      obtain ⟨l, hfl⟩ := Option.isSome_iff_exists.1 (H.out.ok.cur_fl _ hq)
      have hgf : g q.2 = f := by injection hqe
      have hfil := H.out.fil q.2 l (H.out.kcur q hq) hfl
      rw [hgf] at hfil
      have kw1 : Kept noBlock w w1 := kk.trans k1 (fun i hi e => by omega)
      have hfil1 := kw1.blk hfil (fun h => h)
      have q0 : w1.cell? ⟨f, 0, none⟩ = some (.string (str l.data)) := cell_of_row _ _ _ _ _ _ hfil1
      have hstep := still_step hnd.out hmem hl (fun p => mlen w p.2)
      have hlf : mlen w f = (str l.data).size := by simp [mlen, hfil]
      obtain ⟨n, hn⟩ : ∃ n, n = (str l.data).size := ⟨_, rfl⟩
      simp only at hstep
      rw [hlf, ← hn] at hstep
      have hU := HU.out
      have hU2 : (k + n) + ((Dir.still N fun z => left z && !z.sameKey (.string s)).map fun p => mlen w p.2).sum = S.used := by omega
      have hle : k + n ≤ 1000000000000000 := by have := H.out.ok.used_le; omega
      have HU2 := Lib.hid hU2
      have HR1 := Lib.hid hrg1
      have hm2 := (show w1.rangeLeft mn w.heap.size = cnt1 from World.ranges.left_eq hrg1)
      have hm3 := (show wr.rangeLeft mn w.heap.size = cnt from World.ranges.left_eq HR.out)
      have HM := Lib.hid (And.intro hm2 hm3)
      have hszn : (str l.data).size = n := hn.symm
      clear hU hU2 hstep hlf hfil hfil1 hfl hmem hl hrg1 hm2 hm3 hn k1 kk hqe hq hgf
      go_wp2
      go_roundw
      case rel => exact ⟨_, cnt1, k + n, by go_num, hle, HR1, HU2, kw1⟩
      case measure => rw [HM.out.1, HM.out.2]; exact hlt

/-- The model's own cells turned, but for its names and rows. -/
theorem MdR.turn {w w' : World} {G K : Nat → Prop} {m : Nat} {S S' : St} {g : Nat → Nat} {stop stop' : Int} {mn mk : Nat} {A A' : Option Addr} {c c' : Nat} {xs ys : List Value} (h : MdR w G m S g K stop mn mk A c A' c' xs ys)
    (k : Kept (fun i => i = m) w w') (hb : w'.heap[m]? = some (.cells (mcells S' stop' mn mk A c A' c') 31 (0, 0))) (hfl : S'.fl = S.fl) (hcur : S'.cur = S.cur) (hsafe : S'.safe = S.safe) (hpend : S'.pend = S.pend)
    (hst : S'.down = false → stop' = if S'.armed = true then S'.left else -1) (hlo : -1 ≤ stop') (hhi : stop' ≤ 1000) (harm : S'.armed = true → 0 ≤ S'.left) (ok : Ok S') : MdR w' G m S' g K stop' mn mk A c A' c' xs ys where
  blk := hb
  now := by rw [hcur]; exact h.now.keep k fun b hb => by injection hb with hb; subst hb; exact h.now.ne h.blk
  kept := by rw [hsafe]; exact h.kept.keep k fun b hb => by injection hb with hb; subst hb; exact h.kept.ne h.blk
  ne := h.ne
  wait := by rw [hpend]; exact own_keep h.wait k fun i hi e => by subst e; exact own_ne h.wait h.blk (by decide) hi
  files := by rw [hpend]; exact own_keep h.files k fun i hi e => by subst e; exact own_ne h.files h.blk (by decide) hi
  rows := fun i x hx => by
    rw [hpend] at hx
    obtain ⟨v, u, h1, h2, h3⟩ := h.rows i x hx
    exact ⟨v, u, h1, h2, h3.keepN k (fun i hi => by subst hi; exact not_cells h.blk (by decide) (by decide))⟩
  fil := fun f l hK hf => by rw [hfl] at hf; exact k.blk (h.fil f l hK hf) (blk_ne (h.fil f l hK hf) h.blk (by decide))
  inj := h.inj
  kfl := by rw [hfl]; exact h.kfl
  kcur := by rw [hcur]; exact h.kcur
  ksafe := by rw [hsafe]; exact h.ksafe
  kpend := by rw [hpend]; exact h.kpend
  gm := h.gm
  gn := h.gn
  gk := h.gk
  gA := h.gA
  gA' := h.gA'
  gfil := h.gfil
  lt := fun i hi => Nat.lt_of_lt_of_le (h.lt i hi) k.size
  stp := hst
  lo := hlo
  hi := hhi
  arm := harm
  ok := ok
end Go.Proofs.Ytdcccjkondjhbaa
