/-
  The contract of the reference's Rounded, on the ways on which it holds: upward. Conditions: the numbers have at most nine digits; the divisor is not nought.
-/
import Derived.Test.YtjnohdkpkbiclaaFloor2
namespace Go.Proofs.Ytjnohdkpkbiclaa
open Go.RowKit
theorem one_few : Few (-1) := few_of_lt (k := 1) (by decide) (by decide)

set_option maxRecDepth 100000 in
set_option maxHeartbeats 2000000 in
theorem rounded_ceil1 (w : World) (u v t : Value) (x y q how : Int) (hu : NumIs w u x) (hv : NumIs w v y) (ht : NumIs w t q) (bx : Bd x) (by_ : Bd y) (bq : Bd q) (hne : ¬ q * y = x) (h1 : (q + -1) * (y.natAbs : Int) ≤ if y < 0 then -x else x) (h2 : (if y < 0 then -x else x) < (q + -1) * (y.natAbs : Int) + y.natAbs) (bq1 : Bd (q + -1)) (hh : how = 1) :
    Calls Try.prog 30 #[u, v, t, .int .i64 how] w fun e w' => e = .returned (.bool true) ∧ Below w.heap.size w w' := by
  subst hh
  obtain ⟨q1, hq1⟩ : ∃ z, z = q + -1 := ⟨_, rfl⟩
  rw [← hq1] at h1 h2 bq1
  have HQ1 := Lib.hid hq1
  have hbq1 : Hid (Bd q1) := bq1
  clear hq1 bq1
  have H1 := Lib.hid h1
  have H2 := Lib.hid h2
  clear h1 h2
  have HU := Lib.hid hu
  have HV := Lib.hid hv
  have HT := Lib.hid ht
  obtain ⟨A1, n1, c1, rfl, hd1⟩ := hu
  obtain ⟨A2, n2, c2, rfl, hd2⟩ := hv
  obtain ⟨A3, n3, c3, rfl, hd3⟩ := ht
  clear hd1 hd2 hd3
  have hbx : Hid (Bd x) := bx
  have hby : Hid (Bd y) := by_
  have hbq : Hid (Bd q) := bq
  clear bx by_ bq
  obtain ⟨pr, hpr⟩ : ∃ z, z = q * y := ⟨_, rfl⟩
  have HPR := Lib.hid hpr
  have hfp : Hid (Few pr) := by show Few _; rw [hpr]; exact Bd.mul_few hbq.out hby.out
  obtain ⟨cm, hcm⟩ : ∃ c, c = cmpI pr x := ⟨_, rfl⟩
  have HCM := Lib.hid hcm
  have hc0 : ¬ cm = 0 := by rw [hcm, hpr]; unfold cmpI; split <;> (try split) <;> omega
  have hc1 : (cm == 0) = false := by simpa using hc0
  have hc2 : decide (cm = 0) = false := by simpa using hc0
  clear hcm
  clear hne
  clear hpr
  obtain ⟨g1, hg1⟩ : ∃ b, b = decide (x < 0) := ⟨_, rfl⟩
  obtain ⟨g2, hg2⟩ : ∃ b, b = decide (y < 0) := ⟨_, rfl⟩
  obtain ⟨g3, hg3⟩ : ∃ b, b = decide (q < 0) := ⟨_, rfl⟩
  rw [← hg1] at HU
  rw [← hg2] at HV
  rw [← hg3] at HT
  rw [← hg1, ← hg2, ← hg3]
  clear hg1 hg2 hg3
  go_enter Try.func30, Try.ntmps30
  go_upto_region 1 with fail
  obtain ⟨W0, hW0⟩ : ∃ W0, W0 = ((w.alloc (.cells #[.bool g1, .slice A1 n1 c1] 25)).alloc (.cells #[.bool g2, .slice A2 n2 c2] 25)).alloc (.cells #[.bool g3, .slice A3 n3 c3] 25) := ⟨_, rfl⟩
  rw [← hW0]
  have j0 : Hid (W0.heap[w.heap.size]? = some (.cells #[.bool g1, .slice A1 n1 c1] 25 (0, 0)) ∧ W0.heap[w.heap.size + 1]? = some (.cells #[.bool g2, .slice A2 n2 c2] 25 (0, 0)) ∧
      W0.heap[w.heap.size + 1 + 1]? = some (.cells #[.bool g3, .slice A3 n3 c3] 25 (0, 0)) ∧ Below w.heap.size w W0) := by
    rw [hW0]
    exact (three_nums w _ _ _).2
  clear hW0
  have hk := IntKept.of_below j0.out.2.2.2 (Nat.le_refl _)
  have M1 : Hid (NumIs W0.drew (.agg #[.bool g1, .slice A1 n1 c1]) x) := HU.out.keep hk
  have M2 : Hid (NumIs W0.drew (.agg #[.bool g2, .slice A2 n2 c2]) y) := HV.out.keep hk
  have M3 : Hid (NumIs W0.drew (.agg #[.bool g3, .slice A3 n3 c3]) q) := HT.out.keep hk
  have HB0 : Hid (Below w.heap.size w W0.drew) := j0.out.2.2.2.drew
  clear hk HU HV HT
  have f1 := blk2 j0.out.1
  have f2 := blk2 j0.out.2.1
  have f3 := blk2 j0.out.2.2.1
  have S5 : W0.drew.cell? ⟨w.heap.size, 0, none⟩ = some (.bool g1) ∧ W0.drew.cell? ⟨w.heap.size, 1, none⟩ = some (.slice A1 n1 c1) ∧ W0.drew.cell? ⟨w.heap.size + 1, 0, none⟩ = some (.bool g2) ∧ W0.drew.cell? ⟨w.heap.size + 1, 1, none⟩ = some (.slice A2 n2 c2) ∧ W0.drew.cell? ⟨w.heap.size + 1 + 1, 0, none⟩ = some (.bool g3) ∧ W0.drew.cell? ⟨w.heap.size + 1 + 1, 1, none⟩ = some (.slice A3 n3 c3) := ⟨f1.1, f1.2.1, f2.1, f2.2.1, f3.1, f3.2.1⟩
  clear f1 f2 f3 j0
  go_region_held3 (fun w' => w'.cell? ⟨w.heap.size, 0, none⟩ = some (.bool g1) ∧ w'.cell? ⟨w.heap.size, 1, none⟩ = some (.slice A1 n1 c1) ∧ w'.cell? ⟨w.heap.size + 1, 0, none⟩ = some (.bool g2) ∧ w'.cell? ⟨w.heap.size + 1, 1, none⟩ = some (.slice A2 n2 c2) ∧ w'.cell? ⟨w.heap.size + 1 + 1, 0, none⟩ = some (.bool g3) ∧ w'.cell? ⟨w.heap.size + 1 + 1, 1, none⟩ = some (.slice A3 n3 c3)) (first | assumption)
    (first
      | (go_at_call 17; (with_reducible refine (mul_is W0.drew _ _ q y HPR M3.out M2.out hbq.out.few hby.out.few).mono ?_); rintro e w6 ⟨u, rfl, ⟨A7, n7, c7, rfl, hd7⟩, hb6⟩; have S6 := cell6 hb6 S5; have M16 := Lib.hid (M1.out.below hb6 (Nat.le_refl _)); have M26 := Lib.hid (M2.out.below hb6 (Nat.le_refl _)); have M36 := Lib.hid (M3.out.below hb6 (Nat.le_refl _)); have M76 : Hid (NumIs w6 (.agg #[.bool (decide (pr < 0)), .slice A7 n7 c7]) pr) := (⟨A7, n7, c7, rfl, hd7⟩ : NumIs w6 (.agg #[.bool (decide (pr < 0)), .slice A7 n7 c7]) pr); have HB6 := Lib.hid (HB0.out.trans (hb6.mono HB0.out.size)); clear hb6 hd7)
      | (go_at_call 24; (with_reducible refine (compare_is w6 _ _ pr x HCM M76.out M16.out).mono ?_); rintro e w7 ⟨rfl, hb7⟩; have S7 := cell6 hb7 S6; have M17 := Lib.hid (M16.out.below hb7 (Nat.le_refl _)); have M27 := Lib.hid (M26.out.below hb7 (Nat.le_refl _)); have M37 := Lib.hid (M36.out.below hb7 (Nat.le_refl _)); have HB7 := Lib.hid (HB6.out.trans (hb7.mono HB6.out.size)); clear hb7))
  clear S5 S6 M1 M2 M3 M16 M26 M36 M76 HB0 HB6
  obtain ⟨d0, d1, d2, d3, d4, d5⟩ := S7
  go_upto_region 8 with fail
  have S8 : w7.drew.cell? ⟨w.heap.size, 0, none⟩ = some (.bool g1) ∧ w7.drew.cell? ⟨w.heap.size, 1, none⟩ = some (.slice A1 n1 c1) ∧ w7.drew.cell? ⟨w.heap.size + 1, 0, none⟩ = some (.bool g2) ∧ w7.drew.cell? ⟨w.heap.size + 1, 1, none⟩ = some (.slice A2 n2 c2) ∧ w7.drew.cell? ⟨w.heap.size + 1 + 1, 0, none⟩ = some (.bool g3) ∧ w7.drew.cell? ⟨w.heap.size + 1 + 1, 1, none⟩ = some (.slice A3 n3 c3) := ⟨d0, d1, d2, d3, d4, d5⟩
  have N1 : Hid (NumIs w7.drew (.agg #[.bool g1, .slice A1 n1 c1]) x) := M17
  have N2 : Hid (NumIs w7.drew (.agg #[.bool g2, .slice A2 n2 c2]) y) := M27
  have N3 : Hid (NumIs w7.drew (.agg #[.bool g3, .slice A3 n3 c3]) q) := M37
  have HB8 : Hid (Below w.heap.size w w7.drew) := HB7.out.drew
  clear M17 M27 M37 HB7
  go_region_held3 (fun w' => w'.cell? ⟨w.heap.size, 0, none⟩ = some (.bool g1) ∧ w'.cell? ⟨w.heap.size, 1, none⟩ = some (.slice A1 n1 c1) ∧ w'.cell? ⟨w.heap.size + 1, 0, none⟩ = some (.bool g2) ∧ w'.cell? ⟨w.heap.size + 1, 1, none⟩ = some (.slice A2 n2 c2) ∧ w'.cell? ⟨w.heap.size + 1 + 1, 0, none⟩ = some (.bool g3) ∧ w'.cell? ⟨w.heap.size + 1 + 1, 1, none⟩ = some (.slice A3 n3 c3)) (first | assumption)
    (first
      | (go_at_call 54; (with_reducible refine (small_any w7.drew (-1) (by decide) (by decide)).mono ?_); rintro e w8 ⟨u, rfl, ⟨A8, n8, c8, rfl, hd8⟩, hb8⟩; have S9 := cell6 hb8 S8; have N18 := Lib.hid (N1.out.below hb8 (Nat.le_refl _)); have N28 := Lib.hid (N2.out.below hb8 (Nat.le_refl _)); have N38 := Lib.hid (N3.out.below hb8 (Nat.le_refl _)); have N88 : Hid (NumIs w8 (.agg #[.bool true, .slice A8 n8 c8]) (-1)) := (⟨A8, n8, c8, rfl, hd8⟩ : NumIs w8 (.agg #[.bool true, .slice A8 n8 c8]) (-1)); have HB9 := Lib.hid (HB8.out.trans (hb8.mono HB8.out.size)); clear hb8 hd8)
      | (go_at_call 13; (with_reducible refine (add_is w8 _ _ q (-1) HQ1 N38.out N88.out hbq.out.few one_few).mono ?_); rintro e w9 ⟨u, rfl, ⟨A9, n9, c9, rfl, hd9⟩, hb9⟩; have S10 := cell6 hb9 S9; have N19 := Lib.hid (N18.out.below hb9 (Nat.le_refl _)); have N29 := Lib.hid (N28.out.below hb9 (Nat.le_refl _)); have N99 : Hid (NumIs w9 (.agg #[.bool (decide (q1 < 0)), .slice A9 n9 c9]) q1) := (⟨A9, n9, c9, rfl, hd9⟩ : NumIs w9 (.agg #[.bool (decide (q1 < 0)), .slice A9 n9 c9]) q1); have HB10 := Lib.hid (HB9.out.trans (hb9.mono HB9.out.size)); clear hb9 hd9)
      | (go_at_call 53; (with_reducible refine (floor_any w9 _ _ _ x y q1 N19.out N29.out N99.out hbx.out hby.out hbq1.out _ _ rfl rfl H1.out H2.out).mono ?_); rintro e w10 ⟨rfl, hb10⟩; have S11 := cell6 hb10 S10; have HB11 := Lib.hid (HB10.out.trans (hb10.mono HB10.out.size)); clear hb10))
  go_wp2
  go_ret
  exact ⟨rfl, HB11.out⟩

set_option maxRecDepth 100000 in
set_option maxHeartbeats 2000000 in
theorem rounded_ceil2 (w : World) (u v t : Value) (x y q how : Int) (hu : NumIs w u x) (hv : NumIs w v y) (ht : NumIs w t q) (bx : Bd x) (by_ : Bd y) (bq : Bd q) (hne : ¬ q * y = x) (h1 : (q + -1) * (y.natAbs : Int) ≤ if y < 0 then -x else x) (h2 : (if y < 0 then -x else x) < (q + -1) * (y.natAbs : Int) + y.natAbs) (bq1 : Bd (q + -1)) (hh : how = 2) (hb : ¬ decide (x < 0) = decide (y < 0)) :
    Calls Try.prog 30 #[u, v, t, .int .i64 how] w fun e w' => e = .returned (.bool true) ∧ Below w.heap.size w w' := by
  subst hh
  obtain ⟨q1, hq1⟩ : ∃ z, z = q + -1 := ⟨_, rfl⟩
  rw [← hq1] at h1 h2 bq1
  have HQ1 := Lib.hid hq1
  have hbq1 : Hid (Bd q1) := bq1
  clear hq1 bq1
  have H1 := Lib.hid h1
  have H2 := Lib.hid h2
  clear h1 h2
  have HU := Lib.hid hu
  have HV := Lib.hid hv
  have HT := Lib.hid ht
  obtain ⟨A1, n1, c1, rfl, hd1⟩ := hu
  obtain ⟨A2, n2, c2, rfl, hd2⟩ := hv
  obtain ⟨A3, n3, c3, rfl, hd3⟩ := ht
  clear hd1 hd2 hd3
  have hbx : Hid (Bd x) := bx
  have hby : Hid (Bd y) := by_
  have hbq : Hid (Bd q) := bq
  clear bx by_ bq
  obtain ⟨pr, hpr⟩ : ∃ z, z = q * y := ⟨_, rfl⟩
  have HPR := Lib.hid hpr
  have hfp : Hid (Few pr) := by show Few _; rw [hpr]; exact Bd.mul_few hbq.out hby.out
  obtain ⟨cm, hcm⟩ : ∃ c, c = cmpI pr x := ⟨_, rfl⟩
  have HCM := Lib.hid hcm
  have hc0 : ¬ cm = 0 := by rw [hcm, hpr]; unfold cmpI; split <;> (try split) <;> omega
  have hc1 : (cm == 0) = false := by simpa using hc0
  have hc2 : decide (cm = 0) = false := by simpa using hc0
  clear hcm
  clear hne
  clear hpr
  obtain ⟨g1, hg1⟩ : ∃ b, b = decide (x < 0) := ⟨_, rfl⟩
  obtain ⟨g2, hg2⟩ : ∃ b, b = decide (y < 0) := ⟨_, rfl⟩
  obtain ⟨g3, hg3⟩ : ∃ b, b = decide (q < 0) := ⟨_, rfl⟩
  rw [← hg1] at HU
  rw [← hg2] at HV
  rw [← hg3] at HT
  rw [← hg1, ← hg2, ← hg3]
  obtain rfl : g2 = !g1 := by rw [hg1, hg2]; revert hb; cases decide (x < 0) <;> cases decide (y < 0) <;> simp
  clear hb hg2
  clear hg1 hg3
  go_enter Try.func30, Try.ntmps30
  go_upto_region 1 with fail
  obtain ⟨W0, hW0⟩ : ∃ W0, W0 = ((w.alloc (.cells #[.bool g1, .slice A1 n1 c1] 25)).alloc (.cells #[.bool (!g1), .slice A2 n2 c2] 25)).alloc (.cells #[.bool g3, .slice A3 n3 c3] 25) := ⟨_, rfl⟩
  rw [← hW0]
  have j0 : Hid (W0.heap[w.heap.size]? = some (.cells #[.bool g1, .slice A1 n1 c1] 25 (0, 0)) ∧ W0.heap[w.heap.size + 1]? = some (.cells #[.bool (!g1), .slice A2 n2 c2] 25 (0, 0)) ∧
      W0.heap[w.heap.size + 1 + 1]? = some (.cells #[.bool g3, .slice A3 n3 c3] 25 (0, 0)) ∧ Below w.heap.size w W0) := by
    rw [hW0]
    exact (three_nums w _ _ _).2
  clear hW0
  have hk := IntKept.of_below j0.out.2.2.2 (Nat.le_refl _)
  have M1 : Hid (NumIs W0.drew (.agg #[.bool g1, .slice A1 n1 c1]) x) := HU.out.keep hk
  have M2 : Hid (NumIs W0.drew (.agg #[.bool (!g1), .slice A2 n2 c2]) y) := HV.out.keep hk
  have M3 : Hid (NumIs W0.drew (.agg #[.bool g3, .slice A3 n3 c3]) q) := HT.out.keep hk
  have HB0 : Hid (Below w.heap.size w W0.drew) := j0.out.2.2.2.drew
  clear hk HU HV HT
  have f1 := blk2 j0.out.1
  have f2 := blk2 j0.out.2.1
  have f3 := blk2 j0.out.2.2.1
  have S5 : W0.drew.cell? ⟨w.heap.size, 0, none⟩ = some (.bool g1) ∧ W0.drew.cell? ⟨w.heap.size, 1, none⟩ = some (.slice A1 n1 c1) ∧ W0.drew.cell? ⟨w.heap.size + 1, 0, none⟩ = some (.bool (!g1)) ∧ W0.drew.cell? ⟨w.heap.size + 1, 1, none⟩ = some (.slice A2 n2 c2) ∧ W0.drew.cell? ⟨w.heap.size + 1 + 1, 0, none⟩ = some (.bool g3) ∧ W0.drew.cell? ⟨w.heap.size + 1 + 1, 1, none⟩ = some (.slice A3 n3 c3) := ⟨f1.1, f1.2.1, f2.1, f2.2.1, f3.1, f3.2.1⟩
  clear f1 f2 f3 j0
  go_region_held3 (fun w' => w'.cell? ⟨w.heap.size, 0, none⟩ = some (.bool g1) ∧ w'.cell? ⟨w.heap.size, 1, none⟩ = some (.slice A1 n1 c1) ∧ w'.cell? ⟨w.heap.size + 1, 0, none⟩ = some (.bool (!g1)) ∧ w'.cell? ⟨w.heap.size + 1, 1, none⟩ = some (.slice A2 n2 c2) ∧ w'.cell? ⟨w.heap.size + 1 + 1, 0, none⟩ = some (.bool g3) ∧ w'.cell? ⟨w.heap.size + 1 + 1, 1, none⟩ = some (.slice A3 n3 c3)) (first | assumption)
    (first
      | (go_at_call 17; (with_reducible refine (mul_is W0.drew _ _ q y HPR M3.out M2.out hbq.out.few hby.out.few).mono ?_); rintro e w6 ⟨u, rfl, ⟨A7, n7, c7, rfl, hd7⟩, hb6⟩; have S6 := cell6 hb6 S5; have M16 := Lib.hid (M1.out.below hb6 (Nat.le_refl _)); have M26 := Lib.hid (M2.out.below hb6 (Nat.le_refl _)); have M36 := Lib.hid (M3.out.below hb6 (Nat.le_refl _)); have M76 : Hid (NumIs w6 (.agg #[.bool (decide (pr < 0)), .slice A7 n7 c7]) pr) := (⟨A7, n7, c7, rfl, hd7⟩ : NumIs w6 (.agg #[.bool (decide (pr < 0)), .slice A7 n7 c7]) pr); have HB6 := Lib.hid (HB0.out.trans (hb6.mono HB0.out.size)); clear hb6 hd7)
      | (go_at_call 24; (with_reducible refine (compare_is w6 _ _ pr x HCM M76.out M16.out).mono ?_); rintro e w7 ⟨rfl, hb7⟩; have S7 := cell6 hb7 S6; have M17 := Lib.hid (M16.out.below hb7 (Nat.le_refl _)); have M27 := Lib.hid (M26.out.below hb7 (Nat.le_refl _)); have M37 := Lib.hid (M36.out.below hb7 (Nat.le_refl _)); have HB7 := Lib.hid (HB6.out.trans (hb7.mono HB6.out.size)); clear hb7))
  clear S5 S6 M1 M2 M3 M16 M26 M36 M76 HB0 HB6
  obtain ⟨d0, d1, d2, d3, d4, d5⟩ := S7
  go_upto_region 8 with fail
  have S8 : w7.drew.cell? ⟨w.heap.size, 0, none⟩ = some (.bool g1) ∧ w7.drew.cell? ⟨w.heap.size, 1, none⟩ = some (.slice A1 n1 c1) ∧ w7.drew.cell? ⟨w.heap.size + 1, 0, none⟩ = some (.bool (!g1)) ∧ w7.drew.cell? ⟨w.heap.size + 1, 1, none⟩ = some (.slice A2 n2 c2) ∧ w7.drew.cell? ⟨w.heap.size + 1 + 1, 0, none⟩ = some (.bool g3) ∧ w7.drew.cell? ⟨w.heap.size + 1 + 1, 1, none⟩ = some (.slice A3 n3 c3) := ⟨d0, d1, d2, d3, d4, d5⟩
  have N1 : Hid (NumIs w7.drew (.agg #[.bool g1, .slice A1 n1 c1]) x) := M17
  have N2 : Hid (NumIs w7.drew (.agg #[.bool (!g1), .slice A2 n2 c2]) y) := M27
  have N3 : Hid (NumIs w7.drew (.agg #[.bool g3, .slice A3 n3 c3]) q) := M37
  have HB8 : Hid (Below w.heap.size w w7.drew) := HB7.out.drew
  clear M17 M27 M37 HB7
  go_region_held3 (fun w' => w'.cell? ⟨w.heap.size, 0, none⟩ = some (.bool g1) ∧ w'.cell? ⟨w.heap.size, 1, none⟩ = some (.slice A1 n1 c1) ∧ w'.cell? ⟨w.heap.size + 1, 0, none⟩ = some (.bool (!g1)) ∧ w'.cell? ⟨w.heap.size + 1, 1, none⟩ = some (.slice A2 n2 c2) ∧ w'.cell? ⟨w.heap.size + 1 + 1, 0, none⟩ = some (.bool g3) ∧ w'.cell? ⟨w.heap.size + 1 + 1, 1, none⟩ = some (.slice A3 n3 c3)) (first | assumption)
    (first
      | (go_at_call 54; (with_reducible refine (small_any w7.drew (-1) (by decide) (by decide)).mono ?_); rintro e w8 ⟨u, rfl, ⟨A8, n8, c8, rfl, hd8⟩, hb8⟩; have S9 := cell6 hb8 S8; have N18 := Lib.hid (N1.out.below hb8 (Nat.le_refl _)); have N28 := Lib.hid (N2.out.below hb8 (Nat.le_refl _)); have N38 := Lib.hid (N3.out.below hb8 (Nat.le_refl _)); have N88 : Hid (NumIs w8 (.agg #[.bool true, .slice A8 n8 c8]) (-1)) := (⟨A8, n8, c8, rfl, hd8⟩ : NumIs w8 (.agg #[.bool true, .slice A8 n8 c8]) (-1)); have HB9 := Lib.hid (HB8.out.trans (hb8.mono HB8.out.size)); clear hb8 hd8)
      | (go_at_call 13; (with_reducible refine (add_is w8 _ _ q (-1) HQ1 N38.out N88.out hbq.out.few one_few).mono ?_); rintro e w9 ⟨u, rfl, ⟨A9, n9, c9, rfl, hd9⟩, hb9⟩; have S10 := cell6 hb9 S9; have N19 := Lib.hid (N18.out.below hb9 (Nat.le_refl _)); have N29 := Lib.hid (N28.out.below hb9 (Nat.le_refl _)); have N99 : Hid (NumIs w9 (.agg #[.bool (decide (q1 < 0)), .slice A9 n9 c9]) q1) := (⟨A9, n9, c9, rfl, hd9⟩ : NumIs w9 (.agg #[.bool (decide (q1 < 0)), .slice A9 n9 c9]) q1); have HB10 := Lib.hid (HB9.out.trans (hb9.mono HB9.out.size)); clear hb9 hd9)
      | (go_at_call 53; (with_reducible refine (floor_any w9 _ _ _ x y q1 N19.out N29.out N99.out hbx.out hby.out hbq1.out _ _ rfl rfl H1.out H2.out).mono ?_); rintro e w10 ⟨rfl, hb10⟩; have S11 := cell6 hb10 S10; have HB11 := Lib.hid (HB10.out.trans (hb10.mono HB10.out.size)); clear hb10))
  go_wp2
  go_ret
  exact ⟨rfl, HB11.out⟩
end Go.Proofs.Ytjnohdkpkbiclaa
