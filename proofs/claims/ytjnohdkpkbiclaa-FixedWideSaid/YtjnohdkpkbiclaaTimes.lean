/-
  The contract of the program's Times: the product of two numbers of 64 bits. Conditions: the types' own ranges.
-/
import Derived.Test.YtjnohdkpkbiclaaFy
namespace Go.Proofs.Ytjnohdkpkbiclaa
open Go.RowKit

theorem times_bound {a b : Int} (a0 : -9223372036854775808 ≤ a) (a1 : a ≤ 9223372036854775807) (b0 : -9223372036854775808 ≤ b) (b1 : b ≤ 9223372036854775807) :
    -85070591730234615865843651857942052864 ≤ a * b ∧ a * b ≤ 85070591730234615865843651857942052864 := by
  have h : (a * b).natAbs ≤ 9223372036854775808 * 9223372036854775808 := by
    rw [Int.natAbs_mul]
    exact Nat.mul_le_mul (by omega) (by omega)
  omega

/-- The high word, by the signs. -/
theorem times_val {a b p hi lo ua ub h : Int} (hp : p = a * b) (hua : ua = if a < 0 then a + 18446744073709551616 else a) (hub : ub = if b < 0 then b + 18446744073709551616 else b)
    (hhi : hi = ua * ub / 18446744073709551616) (hlo : lo = ua * ub % 18446744073709551616)
    (bp0 : -85070591730234615865843651857942052864 ≤ p) (bp1 : p ≤ 85070591730234615865843651857942052864)
    (hh0 : -9223372036854775808 ≤ h) (hh1 : h ≤ 9223372036854775807) (hh : (h - (hi - (if a < 0 then ub else 0) - (if b < 0 then ua else 0))) % 18446744073709551616 = 0) : WOk h lo ∧ wv h lo = p := by
  have e : ua * ub = p + 18446744073709551616 * ((if a < 0 then b else 0) + (if b < 0 then a else 0) + (if a < 0 then (if b < 0 then 18446744073709551616 else 0) else 0)) := by
    rw [hp, hua, hub]
    split <;> split <;> simp only [Int.add_mul, Int.mul_add] <;> omega
  obtain ⟨X, hX⟩ : ∃ X, X = ua * ub := ⟨_, rfl⟩
  rw [← hX] at e hhi hlo
  unfold WOk wv
  rw [hua, hub] at hh
  clear hX hp
  split at e <;> split at e <;> simp_all <;> omega

set_option maxRecDepth 100000 in
set_option maxHeartbeats 2000000 in
theorem times_any (w : World) (a b : Int) (a0 : -9223372036854775808 ≤ a) (a1 : a ≤ 9223372036854775807) (b0 : -9223372036854775808 ≤ b) (b1 : b ≤ 9223372036854775807) :
    Calls Try.prog 26 #[.int .i64 a, .int .i64 b] w fun e w' => ∃ h l, e = .returned (.agg #[.int .i64 h, .int .u64 l]) ∧ Hid (WOk h l ∧ wv h l = a * b) ∧ Below w.heap.size w w' := by
  obtain ⟨p, hp⟩ : ∃ p, p = a * b := ⟨_, rfl⟩
  obtain ⟨q0, q1⟩ := times_bound a0 a1 b0 b1
  rw [← hp] at q0 q1 ⊢
  obtain ⟨ua, hua⟩ : ∃ x, x = if a < 0 then a + 18446744073709551616 else a := ⟨_, rfl⟩
  obtain ⟨ub, hub⟩ : ∃ x, x = if b < 0 then b + 18446744073709551616 else b := ⟨_, rfl⟩
  have wa : IntKind.u64.wrap a = ua := by rw [u64_wrap, hua]; split <;> omega
  have wb : IntKind.u64.wrap b = ub := by rw [u64_wrap, hub]; split <;> omega
  have ua0 : 0 ≤ ua ∧ ua ≤ 18446744073709551615 := by rw [hua]; split <;> omega
  have ub0 : 0 ≤ ub ∧ ub ≤ 18446744073709551615 := by rw [hub]; split <;> omega
  have hm := fun W => mul64 ua ub ua0.1 ub0.1 ua0.2 ub0.2 W
  obtain ⟨hi, hhi⟩ : ∃ x, x = ua * ub / 18446744073709551616 := ⟨_, rfl⟩
  obtain ⟨lo, hlo⟩ : ∃ x, x = ua * ub % 18446744073709551616 := ⟨_, rfl⟩
  rw [← hhi, ← hlo] at hm
  have HM := Lib.hid hm
  have A := Lib.hid (And.intro hua hub)
  have B := Lib.hid (And.intro hhi hlo)
  have HP := Lib.hid hp
  have Q := Lib.hid (And.intro q0 q1)
  clear hm hua hub hhi hlo hp q0 q1 ua0 ub0
  by_cases sa : a < 0 <;> by_cases sb : b < 0
  · obtain ⟨x, hx⟩ : ∃ x, IntKind.u64.wrap (hi - ub) = x := ⟨_, rfl⟩
    obtain ⟨y, hy⟩ : ∃ y, IntKind.u64.wrap (x - ua) = y := ⟨_, rfl⟩
    obtain ⟨h, hh⟩ : ∃ h, IntKind.i64.wrap y = h := ⟨_, rfl⟩
    have R : Hid (WOk h lo ∧ wv h lo = p) := by
      have h1 := hx; have h2 := hy; have h3 := hh
      rw [u64_wrap] at h1 h2; rw [i64_wrap] at h3
      exact times_val HP.out A.out.1 A.out.2 B.out.1 B.out.2 Q.out.1 Q.out.2 (by omega) (by omega) (by rw [if_pos sa, if_pos sb]; omega)
    go_enter Try.func26, Try.ntmps26
    go_wp2_with (go_at_call 44; (with_reducible refine (HM.out _).mono ?_); rintro e w1 ⟨rfl, rfl⟩)
    refine bodyPost_ret (v := .agg #[.int .i64 h, .int .u64 lo]) (by simp [results, Try.results26, go_sem]) rfl ⟨_, _, rfl, R, (Below.refl _ _).alloc (Nat.le_refl _) _⟩
  · obtain ⟨x, hx⟩ : ∃ x, IntKind.u64.wrap (hi - ub) = x := ⟨_, rfl⟩
    obtain ⟨h, hh⟩ : ∃ h, IntKind.i64.wrap x = h := ⟨_, rfl⟩
    have R : Hid (WOk h lo ∧ wv h lo = p) := by
      have h1 := hx; have h3 := hh
      rw [u64_wrap] at h1; rw [i64_wrap] at h3
      exact times_val HP.out A.out.1 A.out.2 B.out.1 B.out.2 Q.out.1 Q.out.2 (by omega) (by omega) (by rw [if_pos sa, if_neg sb]; omega)
    go_enter Try.func26, Try.ntmps26
    go_wp2_with (go_at_call 44; (with_reducible refine (HM.out _).mono ?_); rintro e w1 ⟨rfl, rfl⟩)
    refine bodyPost_ret (v := .agg #[.int .i64 h, .int .u64 lo]) (by simp [results, Try.results26, go_sem]) rfl ⟨_, _, rfl, R, (Below.refl _ _).alloc (Nat.le_refl _) _⟩
  · obtain ⟨x, hx⟩ : ∃ x, IntKind.u64.wrap (hi - ua) = x := ⟨_, rfl⟩
    obtain ⟨h, hh⟩ : ∃ h, IntKind.i64.wrap x = h := ⟨_, rfl⟩
    have R : Hid (WOk h lo ∧ wv h lo = p) := by
      have h1 := hx; have h3 := hh
      rw [u64_wrap] at h1; rw [i64_wrap] at h3
      exact times_val HP.out A.out.1 A.out.2 B.out.1 B.out.2 Q.out.1 Q.out.2 (by omega) (by omega) (by rw [if_neg sa, if_pos sb]; omega)
    go_enter Try.func26, Try.ntmps26
    go_wp2_with (go_at_call 44; (with_reducible refine (HM.out _).mono ?_); rintro e w1 ⟨rfl, rfl⟩)
    refine bodyPost_ret (v := .agg #[.int .i64 h, .int .u64 lo]) (by simp [results, Try.results26, go_sem]) rfl ⟨_, _, rfl, R, (Below.refl _ _).alloc (Nat.le_refl _) _⟩
  · obtain ⟨h, hh⟩ : ∃ h, IntKind.i64.wrap hi = h := ⟨_, rfl⟩
    have R : Hid (WOk h lo ∧ wv h lo = p) := by
      have h3 := hh
      rw [i64_wrap] at h3
      exact times_val HP.out A.out.1 A.out.2 B.out.1 B.out.2 Q.out.1 Q.out.2 (by omega) (by omega) (by rw [if_neg sa, if_neg sb]; omega)
    go_enter Try.func26, Try.ntmps26
    go_wp2_with (go_at_call 44; (with_reducible refine (HM.out _).mono ?_); rintro e w1 ⟨rfl, rfl⟩)
    refine bodyPost_ret (v := .agg #[.int .i64 h, .int .u64 lo]) (by simp [results, Try.results26, go_sem]) rfl ⟨_, _, rfl, R, (Below.refl _ _).alloc (Nat.le_refl _) _⟩
end Go.Proofs.Ytjnohdkpkbiclaa
