/-
  The law FixedOrders answers true: its walk. Conditions: the types' own ranges.
-/
import Derived.Test.YtjnohdkpkbiclaaLaws
import Derived.Test.YtjnohdkpkbiclaaTimes
import Derived.Test.YtjnohdkpkbiclaaCmp
import Derived.Test.YtjnohdkpkbiclaaInt
namespace Go.Proofs.Ytjnohdkpkbiclaa
open Go.RowKit

theorem times_is (w : World) (a b : Int) (a0 : -9223372036854775808 ≤ a) (a1 : a ≤ 9223372036854775807) (b0 : -9223372036854775808 ≤ b) (b1 : b ≤ 9223372036854775807) {p : Int} (hp : Hid (p = a * b)) :
    Calls Try.prog 26 #[.int .i64 a, .int .i64 b] w fun e w' => ∃ h l, e = .returned (.agg #[.int .i64 h, .int .u64 l]) ∧ Hid (WOk h l ∧ Hid (p = wv h l)) ∧ Below w.heap.size w w' := by
  refine (times_any w a b a0 a1 b0 b1).mono ?_
  rintro e w' ⟨h, l, he, hs, hb⟩
  exact ⟨h, l, he, ⟨hs.out.1, hp.out.trans hs.out.2.symm⟩, hb⟩
theorem num_zero (w : World) : NumIs w (.agg #[.bool false, .slice none 0 0]) 0 := ⟨none, 0, 0, rfl, by rw [show (0 : Int).natAbs = 0 from rfl, digs_zero]; exact Digs.nil w⟩

set_option maxRecDepth 100000 in
set_option maxHeartbeats 4000000 in
theorem orders_walk (w : World) (a b xh xl yh yl n er : Int) (a0 : -9223372036854775808 ≤ a) (a1 : a ≤ 9223372036854775807) (b0 : -9223372036854775808 ≤ b) (b1 : b ≤ 9223372036854775807) (kx : WOk xh xl) (ky : WOk yh yl)
    (hint : ∀ W, Calls Try.prog 23 #[.agg #[.int .i64 xh, .int .u64 xl]] W fun e w' => e = .returned (.tuple #[.int .i64 n, .int .i64 er]) ∧ Below W.heap.size W w')
    (hnar : ∀ W v, NumIs W v (wv xh xl) → Calls Try.prog 15 #[.int .i64 n, .int .i64 er, v] W fun e w' => e = .returned (.bool true) ∧ Below W.heap.size W w') :
    Calls Try.prog 5 #[.int .i64 a, .int .i64 b, .agg #[.int .i64 xh, .int .u64 xl], .agg #[.int .i64 yh, .int .u64 yl]] w fun e w' => e = .returned (.bool true) ∧ Below w.heap.size w w' := by
  obtain ⟨x, hx⟩ : ∃ z, z = wv xh xl := ⟨_, rfl⟩
  obtain ⟨y, hy⟩ : ∃ z, z = wv yh yl := ⟨_, rfl⟩
  obtain ⟨p, hp⟩ : ∃ z, z = a * b := ⟨_, rfl⟩
  obtain ⟨r, hr⟩ : ∃ z, z = cmpI x y := ⟨_, rfl⟩
  obtain ⟨s, hs⟩ : ∃ z, z = cmpI x 0 := ⟨_, rfl⟩
  obtain ⟨oh, hoh⟩ : ∃ z, a / 9223372036854775808 = z := ⟨_, rfl⟩
  obtain ⟨ol, hol⟩ : ∃ z, a % 18446744073709551616 = z := ⟨_, rfl⟩
  have hok := of_ok a0 a1
  rw [hoh, hol] at hok
  have O : Hid (a / 9223372036854775808 = oh ∧ a % 18446744073709551616 = ol ∧ WOk oh ol ∧ Hid (a = wv oh ol)) := ⟨hoh, hol, hok.1, hok.2.symm⟩
  have RA := Lib.hid (And.intro a0 a1)
  have RB := Lib.hid (And.intro b0 b1)
  have KX := Lib.hid kx
  have KY := Lib.hid ky
  have HX := Lib.hid hx
  have HY := Lib.hid hy
  have HP := Lib.hid hp
  have HR := Lib.hid hr
  have HG := Lib.hid hs
  have HR0 : Hid (r = cmpI (wv xh xl) (wv yh yl)) := by show _ = _; rw [hr, hx, hy]
  have HG0 : Hid (s = cmpI (wv xh xl) 0) := by show _ = _; rw [hs, hx]
  have CA : Hid (0 = cmpI a a) := by show _ = _; unfold cmpI; simp
  have CP : Hid (0 = cmpI p p) := by show _ = _; unfold cmpI; simp
  have FA : Hid (Few a) := (bd_of (z := a) ⟨by omega, by omega⟩).few
  have FB : Hid (Few b) := (bd_of (z := b) ⟨by omega, by omega⟩).few
  rw [← hx] at hnar
  have NAR := Lib.hid hnar
  have INT := Lib.hid hint
  clear hnar hint hx hy hp hr hs hok hoh hol a0 a1 b0 b1 kx ky
  go_enter Try.func5, Try.ntmps5
  go_upto_region 1 with fail
  obtain ⟨W0, hW0⟩ : ∃ W0, W0 = (w.alloc (.cells #[.int .i64 xh, .int .u64 xl] 38)).alloc (.cells #[.int .i64 yh, .int .u64 yl] 38) := ⟨_, rfl⟩
  rw [← hW0]
  have j := two_new w (.cells #[.int .i64 xh, .int .u64 xl] 38) (.cells #[.int .i64 yh, .int .u64 yl] 38)
  rw [← hW0] at j
  clear hW0
  obtain ⟨x0, x1, _, _⟩ := blk2 j.1
  obtain ⟨y0, y1, _, _⟩ := blk2 j.2.1
  have S0 : W0.cell? ⟨w.heap.size, 0, none⟩ = some (.int .i64 xh) ∧ W0.cell? ⟨w.heap.size, 1, none⟩ = some (.int .u64 xl) ∧ W0.cell? ⟨w.heap.size + 1, 0, none⟩ = some (.int .i64 yh) ∧ W0.cell? ⟨w.heap.size + 1, 1, none⟩ = some (.int .u64 yl) ∧ W0.cell? ⟨w.heap.size + 1, 1, none⟩ = some (.int .u64 yl) ∧ W0.cell? ⟨w.heap.size + 1, 1, none⟩ = some (.int .u64 yl) := ⟨x0, x1, y0, y1, y1, y1⟩
  have HB := Lib.hid j.2.2
  clear j
  go_upto_region 2 with (go_at_call 23; (with_reducible refine (INT.out W0).mono ?_); rintro e w1 ⟨rfl, hb⟩; have S1' := cell6 hb S0; have HB1' := Lib.hid (HB.out.trans (hb.mono HB.out.size)); clear hb)
  have S1 : w1.drew.cell? ⟨w.heap.size, 0, none⟩ = some (.int .i64 xh) ∧ w1.drew.cell? ⟨w.heap.size, 1, none⟩ = some (.int .u64 xl) ∧ w1.drew.cell? ⟨w.heap.size + 1, 0, none⟩ = some (.int .i64 yh) ∧ w1.drew.cell? ⟨w.heap.size + 1, 1, none⟩ = some (.int .u64 yl) ∧ w1.drew.cell? ⟨w.heap.size + 1, 1, none⟩ = some (.int .u64 yl) ∧ w1.drew.cell? ⟨w.heap.size + 1, 1, none⟩ = some (.int .u64 yl) := S1'
  have HB1 : Hid (Below w.heap.size w w1.drew) := HB1'.out.drew
  clear S0 S1' HB HB1' x0 x1 y0 y1 INT
  go_region_held3 (fun w' => w'.cell? ⟨w.heap.size, 0, none⟩ = some (.int .i64 xh) ∧ w'.cell? ⟨w.heap.size, 1, none⟩ = some (.int .u64 xl) ∧ w'.cell? ⟨w.heap.size + 1, 0, none⟩ = some (.int .i64 yh) ∧ w'.cell? ⟨w.heap.size + 1, 1, none⟩ = some (.int .u64 yl) ∧ w'.cell? ⟨w.heap.size + 1, 1, none⟩ = some (.int .u64 yl) ∧ w'.cell? ⟨w.heap.size + 1, 1, none⟩ = some (.int .u64 yl)) (first | assumption)
    (first
      | (go_at_call 14; (with_reducible refine (known_any w1.drew).mono ?_); rintro e w101 ⟨rfl, hb⟩; have S101 := cell6 hb S1; have HB101 := Lib.hid (HB1.out.trans (hb.mono HB1.out.size)); clear hb; (try clear S1 HB1))
      | (go_at_call 25; (with_reducible refine (of_any w101 a oh ol RA.out.1 RA.out.2 O.out.1 O.out.2.1).mono ?_); rintro e w102 ⟨rfl, hb⟩; have S102 := cell6 hb S101; have HB102 := Lib.hid (HB101.out.trans (hb.mono HB101.out.size)); clear hb; (try clear S101 HB101))
      | (go_at_call 21; (with_reducible refine (num_is w102 oh ol O.out.2.2.1 O.out.2.2.2).mono ?_); rintro e w103 ⟨u, rfl, ⟨A103, n103, c103, rfl, hd⟩, hb⟩; have S103 := cell6 hb S102; have P_103 : Hid (NumIs w103 (.agg #[.bool (decide (a < 0)), .slice A103 n103 c103]) a) := (⟨A103, n103, c103, rfl, hd⟩ : NumIs w103 (.agg #[.bool (decide (a < 0)), .slice A103 n103 c103]) a); have HB103 := Lib.hid (HB102.out.trans (hb.mono HB102.out.size)); clear hb hd; (try clear S102 HB102))
      | (go_at_call 8; (with_reducible refine (narrow_any w103 a RA.out.1 RA.out.2).mono ?_); rintro e w104 ⟨u, rfl, ⟨A104, n104, c104, rfl, hd⟩, hb⟩; have S104 := cell6 hb S103; have P_104 := Lib.hid (NumIs.below P_103.out hb (Nat.le_refl _)); have Q_104 : Hid (NumIs w104 (.agg #[.bool (decide (a < 0)), .slice A104 n104 c104]) a) := (⟨A104, n104, c104, rfl, hd⟩ : NumIs w104 (.agg #[.bool (decide (a < 0)), .slice A104 n104 c104]) a); have HB104 := Lib.hid (HB103.out.trans (hb.mono HB103.out.size)); clear hb hd; (try clear S103 HB103 P_103))
      | (go_at_call 24; (with_reducible refine (compare_is w104 _ _ a a CA P_104.out Q_104.out).mono ?_); rintro e w105 ⟨rfl, hb⟩; have S105 := cell6 hb S104; have HB105 := Lib.hid (HB104.out.trans (hb.mono HB104.out.size)); clear hb; (try clear S104 HB104 P_104 Q_104))
      | (go_at_call 26; (with_reducible refine (times_is w105 a b RA.out.1 RA.out.2 RB.out.1 RB.out.2 HP).mono ?_); rintro e w106 ⟨Th, Tl, rfl, T, hb⟩; have S106 := cell6 hb S105; have HB106 := Lib.hid (HB105.out.trans (hb.mono HB105.out.size)); clear hb; (try clear S105 HB105))
      | (go_at_call 21; (with_reducible refine (num_is w106 Th Tl T.out.1 T.out.2).mono ?_); rintro e w107 ⟨u, rfl, ⟨A107, n107, c107, rfl, hd⟩, hb⟩; have S107 := cell6 hb S106; have P_107 : Hid (NumIs w107 (.agg #[.bool (decide (p < 0)), .slice A107 n107 c107]) p) := (⟨A107, n107, c107, rfl, hd⟩ : NumIs w107 (.agg #[.bool (decide (p < 0)), .slice A107 n107 c107]) p); have HB107 := Lib.hid (HB106.out.trans (hb.mono HB106.out.size)); clear hb hd; (try clear S106 HB106))
      | (go_at_call 8; (with_reducible refine (narrow_any w107 a RA.out.1 RA.out.2).mono ?_); rintro e w108 ⟨u, rfl, ⟨A108, n108, c108, rfl, hd⟩, hb⟩; have S108 := cell6 hb S107; have P_108 := Lib.hid (NumIs.below P_107.out hb (Nat.le_refl _)); have Q_108 : Hid (NumIs w108 (.agg #[.bool (decide (a < 0)), .slice A108 n108 c108]) a) := (⟨A108, n108, c108, rfl, hd⟩ : NumIs w108 (.agg #[.bool (decide (a < 0)), .slice A108 n108 c108]) a); have HB108 := Lib.hid (HB107.out.trans (hb.mono HB107.out.size)); clear hb hd; (try clear S107 HB107 P_107))
      | (go_at_call 8; (with_reducible refine (narrow_any w108 b RB.out.1 RB.out.2).mono ?_); rintro e w109 ⟨u, rfl, ⟨A109, n109, c109, rfl, hd⟩, hb⟩; have S109 := cell6 hb S108; have P_109 := Lib.hid (NumIs.below P_108.out hb (Nat.le_refl _)); have Q_109 := Lib.hid (NumIs.below Q_108.out hb (Nat.le_refl _)); have V_109 : Hid (NumIs w109 (.agg #[.bool (decide (b < 0)), .slice A109 n109 c109]) b) := (⟨A109, n109, c109, rfl, hd⟩ : NumIs w109 (.agg #[.bool (decide (b < 0)), .slice A109 n109 c109]) b); have HB109 := Lib.hid (HB108.out.trans (hb.mono HB108.out.size)); clear hb hd; (try clear S108 HB108 P_108 Q_108))
      | (go_at_call 17; (with_reducible refine (mul_is w109 _ _ a b HP Q_109.out V_109.out FA.out FB.out).mono ?_); rintro e w110 ⟨u, rfl, ⟨A110, n110, c110, rfl, hd⟩, hb⟩; have S110 := cell6 hb S109; have P_110 := Lib.hid (NumIs.below P_109.out hb (Nat.le_refl _)); have U_110 : Hid (NumIs w110 (.agg #[.bool (decide (p < 0)), .slice A110 n110 c110]) p) := (⟨A110, n110, c110, rfl, hd⟩ : NumIs w110 (.agg #[.bool (decide (p < 0)), .slice A110 n110 c110]) p); have HB110 := Lib.hid (HB109.out.trans (hb.mono HB109.out.size)); clear hb hd; (try clear S109 HB109 Q_109 V_109 P_109))
      | (go_at_call 24; (with_reducible refine (compare_is w110 _ _ p p CP P_110.out U_110.out).mono ?_); rintro e w111 ⟨rfl, hb⟩; have S111 := cell6 hb S110; have HB111 := Lib.hid (HB110.out.trans (hb.mono HB110.out.size)); clear hb; (try clear S110 HB110 P_110 U_110))
      | (go_at_call 27; (with_reducible refine (wcompare_any w111 xh xl yh yl KX.out KY.out HR0).mono ?_); rintro e w112 ⟨rfl, hb⟩; have S112 := cell6 hb S111; have HB112 := Lib.hid (HB111.out.trans (hb.mono HB111.out.size)); clear hb; (try clear S111 HB111))
      | (go_at_call 21; (with_reducible refine (num_is w112 xh xl KX.out HX).mono ?_); rintro e w113 ⟨u, rfl, ⟨A113, n113, c113, rfl, hd⟩, hb⟩; have S113 := cell6 hb S112; have P_113 : Hid (NumIs w113 (.agg #[.bool (decide (x < 0)), .slice A113 n113 c113]) x) := (⟨A113, n113, c113, rfl, hd⟩ : NumIs w113 (.agg #[.bool (decide (x < 0)), .slice A113 n113 c113]) x); have HB113 := Lib.hid (HB112.out.trans (hb.mono HB112.out.size)); clear hb hd; (try clear S112 HB112))
      | (go_at_call 21; (with_reducible refine (num_is w113 yh yl KY.out HY).mono ?_); rintro e w114 ⟨u, rfl, ⟨A114, n114, c114, rfl, hd⟩, hb⟩; have S114 := cell6 hb S113; have P_114 := Lib.hid (NumIs.below P_113.out hb (Nat.le_refl _)); have Q_114 : Hid (NumIs w114 (.agg #[.bool (decide (y < 0)), .slice A114 n114 c114]) y) := (⟨A114, n114, c114, rfl, hd⟩ : NumIs w114 (.agg #[.bool (decide (y < 0)), .slice A114 n114 c114]) y); have HB114 := Lib.hid (HB113.out.trans (hb.mono HB113.out.size)); clear hb hd; (try clear S113 HB113 P_113))
      | (go_at_call 24; (with_reducible refine (compare_is w114 _ _ x y HR P_114.out Q_114.out).mono ?_); rintro e w115 ⟨rfl, hb⟩; have S115 := cell6 hb S114; have HB115 := Lib.hid (HB114.out.trans (hb.mono HB114.out.size)); clear hb; (try clear S114 HB114 P_114 Q_114))
      | (go_at_call 28; (with_reducible refine (sign_any w115 xh xl KX.out HG0).mono ?_); rintro e w116 ⟨rfl, hb⟩; have S116 := cell6 hb S115; have HB116 := Lib.hid (HB115.out.trans (hb.mono HB115.out.size)); clear hb; (try clear S115 HB115))
      | (go_at_call 21; (with_reducible refine (num_is w116 xh xl KX.out HX).mono ?_); rintro e w117 ⟨u, rfl, ⟨A117, n117, c117, rfl, hd⟩, hb⟩; have S117 := cell6 hb S116; have P_117 : Hid (NumIs w117 (.agg #[.bool (decide (x < 0)), .slice A117 n117 c117]) x) := (⟨A117, n117, c117, rfl, hd⟩ : NumIs w117 (.agg #[.bool (decide (x < 0)), .slice A117 n117 c117]) x); have HB117 := Lib.hid (HB116.out.trans (hb.mono HB116.out.size)); clear hb hd; (try clear S116 HB116))
      | (go_at_call 24; (with_reducible refine (compare_is w117 _ _ x 0 HG P_117.out (num_zero w117)).mono ?_); rintro e w118 ⟨rfl, hb⟩; have S118 := cell6 hb S117; have HB118 := Lib.hid (HB117.out.trans (hb.mono HB117.out.size)); clear hb; (try clear S117 HB117 P_117))
      | (go_at_call 21; (with_reducible refine (num_is w118 xh xl KX.out HX).mono ?_); rintro e w119 ⟨u, rfl, ⟨A119, n119, c119, rfl, hd⟩, hb⟩; have S119 := cell6 hb S118; have P_119 : Hid (NumIs w119 (.agg #[.bool (decide (x < 0)), .slice A119 n119 c119]) x) := (⟨A119, n119, c119, rfl, hd⟩ : NumIs w119 (.agg #[.bool (decide (x < 0)), .slice A119 n119 c119]) x); have HB119 := Lib.hid (HB118.out.trans (hb.mono HB118.out.size)); clear hb hd; (try clear S118 HB118))
      | (go_at_call 15; (with_reducible refine (NAR.out w119 _ P_119.out).mono ?_); rintro e w120 ⟨rfl, hb⟩; have S120 := cell6 hb S119; have HB120 := Lib.hid (HB119.out.trans (hb.mono HB119.out.size)); clear hb; (try clear S119 HB119 P_119)))
  go_wp2
  go_ret
  exact ⟨rfl, HB120.out⟩

theorem law_orders (w : World) (a b xh xl yh yl : Int) (a0 : -9223372036854775808 ≤ a) (a1 : a ≤ 9223372036854775807) (b0 : -9223372036854775808 ≤ b) (b1 : b ≤ 9223372036854775807) (kx : WOk xh xl) (ky : WOk yh yl) :
    Calls Try.prog 5 #[.int .i64 a, .int .i64 b, .agg #[.int .i64 xh, .int .u64 xl], .agg #[.int .i64 yh, .int .u64 yl]] w fun e w' => e = .returned (.bool true) ∧ Below w.heap.size w w' := by
  by_cases h : In64 (wv xh xl)
  · exact orders_walk w a b xh xl yh yl (wv xh xl) 0 a0 a1 b0 b1 kx ky (fun W => int_yes W xh xl kx h.1 (Int.le_of_lt_add_one h.2)) (fun W v hv => narrow_fits W v _ hv h)
  · exact orders_walk w a b xh xl yh yl 0 4 a0 a1 b0 b1 kx ky (fun W => int_no W xh xl kx (fun k => h ⟨k.1, Int.lt_add_one_of_le k.2⟩)) (fun W v hv => narrow_over W v _ hv h)
end Go.Proofs.Ytjnohdkpkbiclaa
