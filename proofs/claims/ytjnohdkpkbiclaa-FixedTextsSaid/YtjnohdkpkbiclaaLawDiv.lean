/-
  The law FixedDivides answers true: its walk. Conditions: the types' own ranges.
-/
import Derived.Test.YtjnohdkpkbiclaaRnd
import Derived.Test.YtjnohdkpkbiclaaFloor
namespace Go.Proofs.Ytjnohdkpkbiclaa
open Go.RowKit

set_option maxRecDepth 100000 in
set_option maxHeartbeats 2000000 in
theorem law_bad (w : World) (a b d how : Int) (hb : d = 0 ∨ how < 0 ∨ 3 < how) :
    Calls Try.prog 6 #[.agg #[.int .i64 a, .int .u64 b], .int .i64 d, .int .i64 how] w fun e w' => e = .returned (.bool true) ∧ Below w.heap.size w w' := by
  have hdv := fun W => divide_bad W a b d how hb
  have e1 := Lib.hid (show (w.alloc (.cells #[.int .i64 a, .int .u64 b] 38)).heap.size = w.heap.size + 1 by simp)
  rcases (by omega : d = 0 ∨ (d ≠ 0 ∧ how < 0) ∨ (d ≠ 0 ∧ ¬ how < 0 ∧ 3 < how)) with rfl | ⟨hd, hh⟩ | ⟨hd, hh, hg⟩
  all_goals
    have HDV := Lib.hid hdv
    clear hdv hb
    go_enter Try.func6, Try.ntmps6
    go_wp2_with fail
    refine (HDV.out _).mono ?_
    rintro e w1 ⟨rfl, b1⟩
    have hb1 : Below w.heap.size w w1 := ((Below.refl _ _).alloc (Nat.le_refl _) _).trans (b1.mono (by rw [e1.out]; omega))
    have HB1 := Lib.hid hb1
    clear b1 hb1
    go_wp2_with fail
    obtain ⟨W2, hW2⟩ : ∃ W2, W2 = w1.alloc (.cells #[.int .i64 0, .int .u64 0] 38) := ⟨_, rfl⟩
    rw [← hW2]
    have kq := block_new w1 (.cells #[.int .i64 0, .int .u64 0] 38)
    rw [← hW2] at kq
    have hb2 : Below w.heap.size w W2 := by rw [hW2]; exact HB1.out.alloc HB1.out.size _
    clear hW2
    refine (known_any W2).mono ?_
    rintro e w3 ⟨rfl, b3⟩
    obtain ⟨x0, x1, _, _⟩ := blk2 (block_kept kq b3)
    have HB3 := Lib.hid (hb2.trans (b3.mono hb2.size))
    clear kq b3 hb2
    go_wp2
    go_ret
    exact ⟨rfl, HB3.out⟩

theorem num_is (w : World) (h l : Int) (k : WOk h l) {z : Int} (hz : Hid (z = wv h l)) :
    Calls Try.prog 21 #[.agg #[.int .i64 h, .int .u64 l]] w fun e w' => ∃ u, e = .returned u ∧ NumIs w' u z ∧ Below w.heap.size w w' := by
  rw [hz.out]
  exact num_any w h l k
theorem wv_bd {h l : Int} (k : WOk h l) : -170141183460469231731687303715884105728 ≤ wv h l ∧ wv h l < 170141183460469231731687303715884105728 := by
  unfold WOk at k; unfold wv; omega
theorem bd_of {z : Int} (h : -170141183460469231731687303715884105729 ≤ z ∧ z < 170141183460469231731687303715884105728) : Bd z := by
  unfold Bd; rw [show bp 9 = 22300745198530623141535718272648361505980416 by decide]; omega

set_option maxRecDepth 100000 in
set_option maxHeartbeats 2000000 in
theorem law_good (w : World) (a b d how : Int) (k : WOk a b) (hd : d ≠ 0) (d0 : -9223372036854775808 ≤ d) (d1 : d ≤ 9223372036854775807) (h0 : ¬ how < 0) (h3 : ¬ 3 < how) :
    Calls Try.prog 6 #[.agg #[.int .i64 a, .int .u64 b], .int .i64 d, .int .i64 how] w fun e w' => e = .returned (.bool true) ∧ Below w.heap.size w w' := by
  have hd2 : (d == 0) = false := by simp; exact hd
  have hdv := fun W => divide_good W a b d how k hd d0 d1 (by omega) (by omega)
  have HDV := Lib.hid hdv
  have K := Lib.hid k
  have e1 := Lib.hid (show (w.alloc (.cells #[.int .i64 a, .int .u64 b] 38)).heap.size = w.heap.size + 1 by simp)
  have D0 := Lib.hid d0
  have D1 := Lib.hid d1
  clear hdv k d0 d1
  go_enter Try.func6, Try.ntmps6
  go_wp2_with fail
  refine (HDV.out _).mono ?_
  rintro e w1 ⟨h, l, er, rfl, hs, b1⟩
  have hb1 : Below w.heap.size w w1 := ((Below.refl _ _).alloc (Nat.le_refl _) _).trans (b1.mono (by rw [e1.out]; omega))
  have ka := block_kept (block_new w (.cells #[.int .i64 a, .int .u64 b] 38)) b1
  have HB1 := Lib.hid hb1
  clear b1 hb1 HDV e1
  rcases divspec_over (wv a b) d how h l er hd (wv_bd K.out) hs.out with rfl | ⟨rfl, rfl, rfl, hv, rfl⟩
  · obtain ⟨ko, hr⟩ := divspec_rounds (wv a b) d how h l hd (by omega) (by omega) hs.out
    have KO := Lib.hid ko
    have HR := Lib.hid hr
    clear hs ko hr
    go_upto_region 6 with fail
    obtain ⟨W2, hW2⟩ : ∃ W2, W2 = w1.alloc (.cells #[.int .i64 h, .int .u64 l] 38) := ⟨_, rfl⟩
    rw [← hW2]
    have kq := block_new w1 (.cells #[.int .i64 h, .int .u64 l] 38)
    have ka2 := block_old ka (.cells #[.int .i64 h, .int .u64 l] 38)
    rw [← hW2] at kq ka2
    have hb2 : Below w.heap.size w W2 := by rw [hW2]; exact HB1.out.alloc HB1.out.size _
    have HB2 : Hid (Below w.heap.size w W2.drew) := hb2.drew
    obtain ⟨x0, x1, _, _⟩ := blk2 ka2
    obtain ⟨x2, x3, _, _⟩ := blk2 kq
    have S2 : W2.drew.cell? ⟨w.heap.size, 0, none⟩ = some (.int .i64 a) ∧ W2.drew.cell? ⟨w.heap.size, 1, none⟩ = some (.int .u64 b) ∧ W2.drew.cell? ⟨w1.heap.size, 0, none⟩ = some (.int .i64 h) ∧ W2.drew.cell? ⟨w1.heap.size, 1, none⟩ = some (.int .u64 l) ∧ W2.drew.cell? ⟨w1.heap.size, 1, none⟩ = some (.int .u64 l) ∧ W2.drew.cell? ⟨w1.heap.size, 1, none⟩ = some (.int .u64 l) := ⟨x0, x1, x2, x3, x3, x3⟩
    clear hW2 kq ka2 ka hb2 x0 x1 x2 x3 HB1
    obtain ⟨x, hx⟩ : ∃ z, z = wv a b := ⟨_, rfl⟩
    obtain ⟨q, hq⟩ : ∃ z, z = wv h l := ⟨_, rfl⟩
    have bx : Hid (Bd x) := by show Bd _; rw [hx]; exact bd_of ⟨by have := wv_bd K.out; omega, (wv_bd K.out).2⟩
    have bq : Hid (Bd q) := by show Bd _; rw [hq]; exact bd_of ⟨by have := wv_bd KO.out; omega, (wv_bd KO.out).2⟩
    have bq1 : Hid (Bd (q + -1)) := by show Bd _; rw [hq]; exact bd_of ⟨by have := wv_bd KO.out; omega, by have := wv_bd KO.out; omega⟩
    have bd : Hid (Bd d) := bd_of ⟨by have := D0.out; omega, by have := D1.out; omega⟩
    rw [← hx, ← hq] at HR
    have HX := Lib.hid hx
    have HQ := Lib.hid hq
    clear hx hq
    go_region_held3 (fun w' => w'.cell? ⟨w.heap.size, 0, none⟩ = some (.int .i64 a) ∧ w'.cell? ⟨w.heap.size, 1, none⟩ = some (.int .u64 b) ∧ w'.cell? ⟨w1.heap.size, 0, none⟩ = some (.int .i64 h) ∧ w'.cell? ⟨w1.heap.size, 1, none⟩ = some (.int .u64 l) ∧ w'.cell? ⟨w1.heap.size, 1, none⟩ = some (.int .u64 l) ∧ w'.cell? ⟨w1.heap.size, 1, none⟩ = some (.int .u64 l)) (first | assumption)
      (first
        | (go_at_call 14; (with_reducible refine (known_any W2.drew).mono ?_); rintro e w3 ⟨rfl, hb⟩; have S3 := cell6 hb S2; have HB3 := Lib.hid (HB2.out.trans (hb.mono HB2.out.size)); clear hb)
        | (go_at_call 21; (with_reducible refine (num_is w3 a b K.out HX).mono ?_); rintro e w4 ⟨u, rfl, ⟨A4, n4, c4, rfl, hd4⟩, hb⟩; have S4 := cell6 hb S3; have M4 : Hid (NumIs w4 (.agg #[.bool (decide (x < 0)), .slice A4 n4 c4]) x) := (⟨A4, n4, c4, rfl, hd4⟩ : NumIs w4 (.agg #[.bool (decide (x < 0)), .slice A4 n4 c4]) x); have HB4 := Lib.hid (HB3.out.trans (hb.mono HB3.out.size)); clear hb hd4)
        | (go_at_call 8; (with_reducible refine (narrow_any w4 d D0.out D1.out).mono ?_); rintro e w5 ⟨u, rfl, ⟨A5, n5, c5, rfl, hd5⟩, hb⟩; have S5 := cell6 hb S4; have M45 := Lib.hid (M4.out.below hb (Nat.le_refl _)); have M5 : Hid (NumIs w5 (.agg #[.bool (decide (d < 0)), .slice A5 n5 c5]) d) := (⟨A5, n5, c5, rfl, hd5⟩ : NumIs w5 (.agg #[.bool (decide (d < 0)), .slice A5 n5 c5]) d); have HB5 := Lib.hid (HB4.out.trans (hb.mono HB4.out.size)); clear hb hd5)
        | (go_at_call 21; (with_reducible refine (num_is w5 h l KO.out HQ).mono ?_); rintro e w6 ⟨u, rfl, ⟨A6, n6, c6, rfl, hd6⟩, hb⟩; have S6 := cell6 hb S5; have M46 := Lib.hid (M45.out.below hb (Nat.le_refl _)); have M56 := Lib.hid (M5.out.below hb (Nat.le_refl _)); have M6 : Hid (NumIs w6 (.agg #[.bool (decide (q < 0)), .slice A6 n6 c6]) q) := (⟨A6, n6, c6, rfl, hd6⟩ : NumIs w6 (.agg #[.bool (decide (q < 0)), .slice A6 n6 c6]) q); have HB6 := Lib.hid (HB5.out.trans (hb.mono HB5.out.size)); clear hb hd6)
        | (go_at_call 30; (with_reducible refine (rounded_any w6 _ _ _ x d q how M46.out M56.out M6.out bx.out bd.out bq.out bq1.out HR.out).mono ?_); rintro e w7 ⟨rfl, hb⟩; have S7 := cell6 hb S6; have HB7 := Lib.hid (HB6.out.trans (hb.mono HB6.out.size)); clear hb))
    go_wp2
    go_ret
    exact ⟨rfl, HB7.out⟩
  · obtain ⟨rfl, rfl⟩ := wv_inj K.out (h' := -9223372036854775808) (l' := 0) (by unfold WOk; omega) (hv.trans (by decide))
    clear hs hv
    go_wp2_with fail
    obtain ⟨W2, hW2⟩ : ∃ W2, W2 = w1.alloc (.cells #[.int .i64 0, .int .u64 0] 38) := ⟨_, rfl⟩
    rw [← hW2]
    have kq := block_new w1 (.cells #[.int .i64 0, .int .u64 0] 38)
    have ka2 := block_old ka (.cells #[.int .i64 0, .int .u64 0] 38)
    rw [← hW2] at kq ka2
    have hb2 : Below w.heap.size w W2 := by rw [hW2]; exact HB1.out.alloc HB1.out.size _
    clear hW2
    refine (known_any W2).mono ?_
    rintro e w3 ⟨rfl, b3⟩
    obtain ⟨x0, x1, _, _⟩ := blk2 (block_kept kq b3)
    obtain ⟨x2, x3, _, _⟩ := blk2 (block_kept ka2 b3)
    have HB3 := Lib.hid (hb2.trans (b3.mono hb2.size))
    clear kq b3 hb2 ka2 ka
    go_wp2
    go_ret
    exact ⟨rfl, HB3.out⟩

theorem law_divides (w : World) (a b d how : Int) (k : WOk a b) (d0 : -9223372036854775808 ≤ d) (d1 : d ≤ 9223372036854775807) :
    Calls Try.prog 6 #[.agg #[.int .i64 a, .int .u64 b], .int .i64 d, .int .i64 how] w fun e w' => e = .returned (.bool true) ∧ Below w.heap.size w w' := by
  by_cases h : d = 0 ∨ how < 0 ∨ 3 < how
  · exact law_bad w a b d how h
  · exact law_good w a b d how k (by omega) d0 d1 (by omega) (by omega)
end Go.Proofs.Ytjnohdkpkbiclaa
