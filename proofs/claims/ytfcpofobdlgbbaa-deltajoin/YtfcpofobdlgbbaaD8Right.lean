/-
  The contract of delta.Right. No statement is proved here.
-/
import Derived.Test.YtfcpofobdlgbbaaStgK
import Derived.Test.YtfcpofobdlgbbaaL8Con
namespace Go.Proofs.Ytfcpofobdlgbbaa
open Go.RowKit Tot

theorem dwithin_yes (n a b : Int) (w : World) (h1 : a ≤ n) (h2 : n ≤ b) : Calls Try.prog 27 #[.int .i64 n, .int .i64 a, .int .i64 b] w fun e w' => e = .returned (.bool true) ∧ w = w' := by
  go_enter Try.func27, Try.ntmps27
  go_wp2
  go_ret
  exact ⟨rfl, rfl⟩
theorem dwithin_no (n a b : Int) (w : World) (h : ¬ (a ≤ n ∧ n ≤ b)) : Calls Try.prog 27 #[.int .i64 n, .int .i64 a, .int .i64 b] w fun e w' => e = .returned (.bool false) ∧ w = w' := by
  by_cases h1 : a ≤ n
  · have h2 : ¬ n ≤ b := fun h2 => h ⟨h1, h2⟩
    clear h
    go_enter Try.func27, Try.ntmps27
    go_wp2
    go_ret
    exact ⟨rfl, rfl⟩
  · clear h
    go_enter Try.func27, Try.ntmps27
    go_wp2
    go_ret
    exact ⟨rfl, rfl⟩

set_option maxRecDepth 100000 in
set_option maxHeartbeats 1000000 in
theorem dright_any : DRightC := by
  intro F t A c B d w h hlp hls
  have RW := Lib.hid (fun u (k : Kept noBlock w u) => rows_any F A t.pairs.length c B t.sess.length d t.pairs t.sess 512 u (h.kept k).lp rfl h.cp hlp (h.kept k).ls rfl h.cs hls)
  have HA := Lib.hid (heap_alloc_new w (.cells #[.int .i64 t.from_, .int .i64 t.to_, .int .i64 t.term, .slice A t.pairs.length c, .slice B t.sess.length d] 31))
  have KA := Lib.hid (Kept.alloc noBlock w (.cells #[.int .i64 t.from_, .int .i64 t.to_, .int .i64 t.term, .slice A t.pairs.length c, .slice B t.sess.length d] 31))
  have NO : Hid (∀ u, Kept noBlock w u → ¬ t.Right → Says w (decide t.Right) (.returned (.bool false)) u) := fun u k hn => by
    rw [decide_eq_false hn]
    exact ⟨rfl, k⟩
  clear h hlp hls
  unfold dtv
  go_enter Try.func13, Try.ntmps13
  go_upto_region 1 with (fail)
  generalize w.alloc (.cells #[.int .i64 t.from_, .int .i64 t.to_, .int .i64 t.term, .slice A t.pairs.length c, .slice B t.sess.length d] 31) = w1 at HA KA ⊢
  obtain ⟨c0, c1, c2, c3, c4⟩ := dl_cells HA.out
  by_cases h1 : 0 ≤ t.from_ ∧ t.from_ ≤ t.to_
  · have H1 := Lib.hid h1
    clear h1
    go_wp2_with fail
    refine (dwithin_yes _ _ _ _ H1.out.1 H1.out.2).mono ?_
    rintro e w2 ⟨rfl, rfl⟩
    by_cases h3 : t.to_ ≤ 1048576
    · by_cases h4 : 0 ≤ t.term ∧ t.term ≤ 1048576
      · have H4 := Lib.hid h4
        clear h4
        go_wp2_with fail
        refine (dwithin_yes _ _ _ _ H4.out.1 H4.out.2).mono ?_
        rintro e w2 ⟨rfl, rfl⟩
        go_wp2_with fail
        refine (RW.out _ KA.out).mono ?_
        rintro e w2 ⟨rfl, k2⟩
        have FIN : Hid (Says w (decide t.Right) (.returned (.bool (decide (RowsOk t.pairs t.sess 512)))) w2) := by
          refine ⟨?_, KA.out.step k2⟩
          congr 2
          exact decide_eq_decide.2 ⟨fun h => ⟨⟨H1.out.1, H1.out.2, h3⟩, H4.out, h⟩, fun h => h.2.2⟩
        generalize decide (RowsOk t.pairs t.sess 512) = gb at FIN ⊢
        clear k2 NO RW
        go_wp2
        go_ret
        exact FIN.out
      · have N := Lib.hid (show ¬ t.Right from fun h => h4 h.2.1)
        go_wp2_with fail
        refine (dwithin_no _ _ _ _ h4).mono ?_
        rintro e w2 ⟨rfl, rfl⟩
        go_wp2
        go_ret
        exact NO.out _ KA.out N.out
    · have N := Lib.hid (show ¬ t.Right from fun h => h3 h.1.2.2)
      go_wp2
      go_ret
      exact NO.out _ KA.out N.out
  · have N := Lib.hid (show ¬ t.Right from fun h => h1 ⟨h.1.1, h.1.2.1⟩)
    go_wp2_with fail
    refine (dwithin_no _ _ _ _ h1).mono ?_
    rintro e w2 ⟨rfl, rfl⟩
    go_wp2
    go_ret
    exact NO.out _ KA.out N.out
end Go.Proofs.Ytfcpofobdlgbbaa
