/-
  The laws' own tests 'narrow' and 'wide' answer true where an answer is what must be. Conditions: the types' own ranges.
-/
import Derived.Test.YtjnohdkpkbiclaaLawDiv
import Derived.Test.YtjnohdkpkbiclaaFits2
namespace Go.Proofs.Ytjnohdkpkbiclaa
open Go.RowKit

/-- It fits 64 bits; it fits 128 bits. -/
def In64 (z : Int) : Prop := -9223372036854775808 ≤ z ∧ z < 9223372036854775808
def In128 (z : Int) : Prop := -170141183460469231731687303715884105728 ≤ z ∧ z < 170141183460469231731687303715884105728

theorem fits64_no (w : World) (v : Value) (z : Int) (h : NumIs w v z) (hz : Hid (¬ In64 z)) :
    Calls Try.prog 41 #[v, .int .i64 64] w fun e w' => e = .returned (.bool false) ∧ Below w.heap.size w w' := by
  have := fits64_any w v z h
  rwa [show decide (-9223372036854775808 ≤ z ∧ z < 9223372036854775808) = false from decide_eq_false hz.out] at this
theorem fits64_yes (w : World) (v : Value) (z : Int) (h : NumIs w v z) (hz : Hid (In64 z)) :
    Calls Try.prog 41 #[v, .int .i64 64] w fun e w' => e = .returned (.bool true) ∧ Below w.heap.size w w' := by
  have := fits64_any w v z h
  rwa [show decide (-9223372036854775808 ≤ z ∧ z < 9223372036854775808) = true from decide_eq_true hz.out] at this
theorem fits128_no (w : World) (v : Value) (z : Int) (h : NumIs w v z) (hz : Hid (¬ In128 z)) :
    Calls Try.prog 41 #[v, .int .i64 128] w fun e w' => e = .returned (.bool false) ∧ Below w.heap.size w w' := by
  have := fits128_any w v z h
  rwa [show decide (-170141183460469231731687303715884105728 ≤ z ∧ z < 170141183460469231731687303715884105728) = false from decide_eq_false hz.out] at this
theorem fits128_yes (w : World) (v : Value) (z : Int) (h : NumIs w v z) (hz : Hid (In128 z)) :
    Calls Try.prog 41 #[v, .int .i64 128] w fun e w' => e = .returned (.bool true) ∧ Below w.heap.size w w' := by
  have := fits128_any w v z h
  rwa [show decide (-170141183460469231731687303715884105728 ≤ z ∧ z < 170141183460469231731687303715884105728) = true from decide_eq_true hz.out] at this

theorem one_new (w : World) (o : Obj) : (w.alloc o).heap[w.heap.size]? = some o ∧ Below w.heap.size w (w.alloc o) := ⟨block_new _ _, (Below.refl _ _).alloc (Nat.le_refl _) _⟩
theorem two_new (w : World) (o1 o2 : Obj) : ((w.alloc o1).alloc o2).heap[w.heap.size]? = some o1 ∧ ((w.alloc o1).alloc o2).heap[w.heap.size + 1]? = some o2 ∧ Below w.heap.size w ((w.alloc o1).alloc o2) := by
  have e1 : (w.alloc o1).heap.size = w.heap.size + 1 := by simp
  refine ⟨block_old (block_new _ _) _, ?_, ((Below.refl _ _).alloc (Nat.le_refl _) _).alloc (by simp) _⟩
  rw [← e1]; exact block_new _ _

set_option maxRecDepth 100000 in
set_option maxHeartbeats 2000000 in
theorem narrow_over (w : World) (v : Value) (z : Int) (hv : NumIs w v z) (hz : ¬ In64 z) :
    Calls Try.prog 15 #[.int .i64 0, .int .i64 4, v] w fun e w' => e = .returned (.bool true) ∧ Below w.heap.size w w' := by
  have HZ := Lib.hid hz
  have HV := Lib.hid hv
  obtain ⟨A, n, c, rfl, _⟩ := hv
  clear hz
  obtain ⟨g, hg⟩ : ∃ b, b = decide (z < 0) := ⟨_, rfl⟩
  rw [← hg] at HV ⊢
  clear hg
  go_enter Try.func15, Try.ntmps15
  go_upto_region 1 with fail
  obtain ⟨W0, hW0⟩ : ∃ W0, W0 = w.alloc (.cells #[.bool g, .slice A n c] 25) := ⟨_, rfl⟩
  rw [← hW0]
  have j := one_new w (.cells #[.bool g, .slice A n c] 25)
  rw [← hW0] at j
  clear hW0
  obtain ⟨x0, x1, _, _⟩ := blk2 j.1
  have M : Hid (NumIs W0 (.agg #[.bool g, .slice A n c]) z) := NumIs.below HV.out j.2 (Nat.le_refl _)
  have HB := Lib.hid j.2
  clear j HV
  go_wp2_with (go_at_call 41; (with_reducible refine (fits64_no W0 _ z M.out HZ).mono ?_); rintro e w1 ⟨rfl, hb⟩; have HB1 := Lib.hid (HB.out.trans (hb.mono HB.out.size)); clear hb)
  go_ret
  exact ⟨rfl, HB1.out⟩

set_option maxRecDepth 100000 in
set_option maxHeartbeats 2000000 in
theorem narrow_fits (w : World) (v : Value) (z : Int) (hv : NumIs w v z) (hz : In64 z) :
    Calls Try.prog 15 #[.int .i64 z, .int .i64 0, v] w fun e w' => e = .returned (.bool true) ∧ Below w.heap.size w w' := by
  have HZ := Lib.hid hz
  have HV := Lib.hid hv
  obtain ⟨A, n, c, rfl, _⟩ := hv
  have R1 : Hid (-9223372036854775808 ≤ z ∧ z ≤ 9223372036854775807) := ⟨hz.1, by have := hz.2; omega⟩
  have HC : Hid (0 = cmpI z z) := by show _ = _; unfold cmpI; simp
  clear hz
  obtain ⟨g, hg⟩ : ∃ b, b = decide (z < 0) := ⟨_, rfl⟩
  rw [← hg] at HV ⊢
  clear hg
  go_enter Try.func15, Try.ntmps15
  go_upto_region 1 with fail
  obtain ⟨W0, hW0⟩ : ∃ W0, W0 = w.alloc (.cells #[.bool g, .slice A n c] 25) := ⟨_, rfl⟩
  rw [← hW0]
  have j := one_new w (.cells #[.bool g, .slice A n c] 25)
  rw [← hW0] at j
  clear hW0
  obtain ⟨x0, x1, _, _⟩ := blk2 j.1
  have M : Hid (NumIs W0 (.agg #[.bool g, .slice A n c]) z) := NumIs.below HV.out j.2 (Nat.le_refl _)
  have HB := Lib.hid j.2
  have S0 : W0.cell? ⟨w.heap.size, 0, none⟩ = some (.bool g) ∧ W0.cell? ⟨w.heap.size, 1, none⟩ = some (.slice A n c) := ⟨x0, x1⟩
  clear j HV
  go_upto_region 3 with (go_at_call 41; (with_reducible refine (fits64_yes W0 _ z M.out HZ).mono ?_); rintro e w1 ⟨rfl, hb⟩; have S1 := keep2 hb S0; have M1 := Lib.hid (NumIs.below M.out hb (Nat.le_refl _)); have HB1 := Lib.hid (HB.out.trans (hb.mono HB.out.size)); clear hb)
  have S2 : w1.drew.cell? ⟨w.heap.size, 0, none⟩ = some (.bool g) ∧ w1.drew.cell? ⟨w.heap.size, 1, none⟩ = some (.slice A n c) := S1
  have M2 : Hid (NumIs w1.drew (.agg #[.bool g, .slice A n c]) z) := M1
  have HB2 : Hid (Below w.heap.size w w1.drew) := HB1.out.drew
  clear S0 S1 M M1 HB HB1 x0 x1
  go_region_held3 (fun w' => w'.cell? ⟨w.heap.size, 0, none⟩ = some (.bool g) ∧ w'.cell? ⟨w.heap.size, 1, none⟩ = some (.slice A n c)) (first | assumption)
    (first
      | (go_at_call 8; (with_reducible refine (narrow_any w1.drew z R1.out.1 R1.out.2).mono ?_); rintro e w3 ⟨u, rfl, ⟨A3, n3, c3, rfl, hd⟩, hb⟩; have S3 := keep2 hb S2; have M3 := Lib.hid (NumIs.below M2.out hb (Nat.le_refl _)); have N3 : Hid (NumIs w3 (.agg #[.bool (decide (z < 0)), .slice A3 n3 c3]) z) := (⟨A3, n3, c3, rfl, hd⟩ : NumIs w3 (.agg #[.bool (decide (z < 0)), .slice A3 n3 c3]) z); have HB3 := Lib.hid (HB2.out.trans (hb.mono HB2.out.size)); clear hb hd)
      | (go_at_call 24; (with_reducible refine (compare_is w3 _ _ z z HC N3.out M3.out).mono ?_); rintro e w4 ⟨rfl, hb⟩; have S4 := keep2 hb S3; have HB4 := Lib.hid (HB3.out.trans (hb.mono HB3.out.size)); clear hb))
  go_wp2
  go_ret
  exact ⟨rfl, HB4.out⟩

set_option maxRecDepth 100000 in
set_option maxHeartbeats 2000000 in
theorem wide_over (w : World) (v : Value) (z : Int) (hv : NumIs w v z) (hz : ¬ In128 z) :
    Calls Try.prog 22 #[.agg #[.int .i64 0, .int .u64 0], .int .i64 4, v] w fun e w' => e = .returned (.bool true) ∧ Below w.heap.size w w' := by
  have HZ := Lib.hid hz
  have HV := Lib.hid hv
  obtain ⟨A, n, c, rfl, _⟩ := hv
  clear hz
  obtain ⟨g, hg⟩ : ∃ b, b = decide (z < 0) := ⟨_, rfl⟩
  rw [← hg] at HV ⊢
  clear hg
  go_enter Try.func22, Try.ntmps22
  go_upto_region 1 with fail
  obtain ⟨W0, hW0⟩ : ∃ W0, W0 = (w.alloc (.cells #[.int .i64 0, .int .u64 0] 38)).alloc (.cells #[.bool g, .slice A n c] 25) := ⟨_, rfl⟩
  rw [← hW0]
  have j := two_new w (.cells #[.int .i64 0, .int .u64 0] 38) (.cells #[.bool g, .slice A n c] 25)
  rw [← hW0] at j
  clear hW0
  obtain ⟨x0, x1, _, _⟩ := blk2 j.1
  obtain ⟨y0, y1, _, _⟩ := blk2 j.2.1
  have S0 : W0.cell? ⟨w.heap.size, 0, none⟩ = some (.int .i64 0) ∧ W0.cell? ⟨w.heap.size, 1, none⟩ = some (.int .u64 0) := ⟨x0, x1⟩
  have M : Hid (NumIs W0 (.agg #[.bool g, .slice A n c]) z) := NumIs.below HV.out j.2.2 (Nat.le_refl _)
  have HB := Lib.hid j.2.2
  clear j HV
  go_wp2_with (go_at_call 41; (with_reducible refine (fits128_no W0 _ z M.out HZ).mono ?_); rintro e w1 ⟨rfl, hb⟩; obtain ⟨z0, z1⟩ := keep2 hb S0; have HB1 := Lib.hid (HB.out.trans (hb.mono HB.out.size)); clear hb)
  go_ret
  exact ⟨rfl, HB1.out⟩

set_option maxRecDepth 100000 in
set_option maxHeartbeats 2000000 in
theorem wide_fits (w : World) (h l : Int) (k : WOk h l) (v : Value) (z : Int) (hv : NumIs w v z) (hz : In128 z) (hw : wv h l = z) :
    Calls Try.prog 22 #[.agg #[.int .i64 h, .int .u64 l], .int .i64 0, v] w fun e w' => e = .returned (.bool true) ∧ Below w.heap.size w w' := by
  have HZ := Lib.hid hz
  have HV := Lib.hid hv
  have K := Lib.hid k
  have HW : Hid (z = wv h l) := hw.symm
  obtain ⟨A, n, c, rfl, _⟩ := hv
  have HC : Hid (0 = cmpI z z) := by show _ = _; unfold cmpI; simp
  clear hz hw k
  obtain ⟨g, hg⟩ : ∃ b, b = decide (z < 0) := ⟨_, rfl⟩
  rw [← hg] at HV ⊢
  clear hg
  go_enter Try.func22, Try.ntmps22
  go_upto_region 1 with fail
  obtain ⟨W0, hW0⟩ : ∃ W0, W0 = (w.alloc (.cells #[.int .i64 h, .int .u64 l] 38)).alloc (.cells #[.bool g, .slice A n c] 25) := ⟨_, rfl⟩
  rw [← hW0]
  have j := two_new w (.cells #[.int .i64 h, .int .u64 l] 38) (.cells #[.bool g, .slice A n c] 25)
  rw [← hW0] at j
  clear hW0
  obtain ⟨x0, x1, _, _⟩ := blk2 j.1
  obtain ⟨y0, y1, _, _⟩ := blk2 j.2.1
  have S0 : W0.cell? ⟨w.heap.size, 0, none⟩ = some (.int .i64 h) ∧ W0.cell? ⟨w.heap.size, 1, none⟩ = some (.int .u64 l) ∧ W0.cell? ⟨w.heap.size + 1, 0, none⟩ = some (.bool g) ∧ W0.cell? ⟨w.heap.size + 1, 1, none⟩ = some (.slice A n c) ∧ W0.cell? ⟨w.heap.size + 1, 1, none⟩ = some (.slice A n c) ∧ W0.cell? ⟨w.heap.size + 1, 1, none⟩ = some (.slice A n c) := ⟨x0, x1, y0, y1, y1, y1⟩
  have M : Hid (NumIs W0 (.agg #[.bool g, .slice A n c]) z) := NumIs.below HV.out j.2.2 (Nat.le_refl _)
  have HB := Lib.hid j.2.2
  clear j HV
  go_upto_region 3 with (go_at_call 41; (with_reducible refine (fits128_yes W0 _ z M.out HZ).mono ?_); rintro e w1 ⟨rfl, hb⟩; have S1 := cell6 hb S0; have M1 := Lib.hid (NumIs.below M.out hb (Nat.le_refl _)); have HB1 := Lib.hid (HB.out.trans (hb.mono HB.out.size)); clear hb)
  have S2 : w1.drew.cell? ⟨w.heap.size, 0, none⟩ = some (.int .i64 h) ∧ w1.drew.cell? ⟨w.heap.size, 1, none⟩ = some (.int .u64 l) ∧ w1.drew.cell? ⟨w.heap.size + 1, 0, none⟩ = some (.bool g) ∧ w1.drew.cell? ⟨w.heap.size + 1, 1, none⟩ = some (.slice A n c) ∧ w1.drew.cell? ⟨w.heap.size + 1, 1, none⟩ = some (.slice A n c) ∧ w1.drew.cell? ⟨w.heap.size + 1, 1, none⟩ = some (.slice A n c) := S1
  have M2 : Hid (NumIs w1.drew (.agg #[.bool g, .slice A n c]) z) := M1
  have HB2 : Hid (Below w.heap.size w w1.drew) := HB1.out.drew
  clear S0 S1 M M1 HB HB1 x0 x1 y0 y1
  go_region_held3 (fun w' => w'.cell? ⟨w.heap.size, 0, none⟩ = some (.int .i64 h) ∧ w'.cell? ⟨w.heap.size, 1, none⟩ = some (.int .u64 l) ∧ w'.cell? ⟨w.heap.size + 1, 0, none⟩ = some (.bool g) ∧ w'.cell? ⟨w.heap.size + 1, 1, none⟩ = some (.slice A n c) ∧ w'.cell? ⟨w.heap.size + 1, 1, none⟩ = some (.slice A n c) ∧ w'.cell? ⟨w.heap.size + 1, 1, none⟩ = some (.slice A n c)) (first | assumption)
    (first
      | (go_at_call 21; (with_reducible refine (num_is w1.drew h l K.out HW).mono ?_); rintro e w3 ⟨u, rfl, ⟨A3, n3, c3, rfl, hd⟩, hb⟩; have S3 := cell6 hb S2; have M3 := Lib.hid (NumIs.below M2.out hb (Nat.le_refl _)); have N3 : Hid (NumIs w3 (.agg #[.bool (decide (z < 0)), .slice A3 n3 c3]) z) := (⟨A3, n3, c3, rfl, hd⟩ : NumIs w3 (.agg #[.bool (decide (z < 0)), .slice A3 n3 c3]) z); have HB3 := Lib.hid (HB2.out.trans (hb.mono HB2.out.size)); clear hb hd)
      | (go_at_call 24; (with_reducible refine (compare_is w3 _ _ z z HC N3.out M3.out).mono ?_); rintro e w4 ⟨rfl, hb⟩; have S4 := cell6 hb S3; have HB4 := Lib.hid (HB3.out.trans (hb.mono HB3.out.size)); clear hb))
  go_wp2
  go_ret
  exact ⟨rfl, HB4.out⟩
end Go.Proofs.Ytjnohdkpkbiclaa
