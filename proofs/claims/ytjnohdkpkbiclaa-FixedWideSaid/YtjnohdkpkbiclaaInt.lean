/-
  The contract of fixed's Int. Conditions: the types' own ranges.
-/
import Derived.Test.YtjnohdkpkbiclaaDivide
namespace Go.Proofs.Ytjnohdkpkbiclaa
open Go.RowKit

set_option maxRecDepth 100000 in
set_option maxHeartbeats 1000000 in
theorem int_yes (w : World) (h l : Int) (k : WOk h l) (f0 : -9223372036854775808 ≤ wv h l) (f1 : wv h l ≤ 9223372036854775807) :
    Calls Try.prog 23 #[.agg #[.int .i64 h, .int .u64 l]] w fun e w' => e = .returned (.tuple #[.int .i64 (wv h l), .int .i64 0]) ∧ Below w.heap.size w w' := by
  obtain ⟨k0, k1, k2, k3⟩ := k
  obtain ⟨n, hn⟩ : ∃ n, n = wv h l := ⟨_, rfl⟩
  rw [← hn] at f0 f1 ⊢
  have wl : IntKind.i64.wrap l = n := by rw [i64_wrap]; unfold wv at hn; omega
  have o1 : n / 9223372036854775808 = h := by unfold wv at hn; omega
  have o2 : n % 18446744073709551616 = l := by unfold wv at hn; omega
  have O1 := Lib.hid o1
  have O2 := Lib.hid o2
  clear hn o1 o2
  go_enter Try.func23, Try.ntmps23
  go_wp2
  go_region_held3 (fun w' => w'.cell? ⟨w.heap.size, 0, none⟩ = some (.int .i64 h) ∧ w'.cell? ⟨w.heap.size, 1, none⟩ = some (.int .u64 l)) (first | assumption | (simp [go_sem]; done))
    (first
      | (go_at_call 25; refine (of_any _ n h l f0 f1 O1.out O2.out).mono ?_; rintro e w1 ⟨rfl, hb⟩; have hs1 : w1.cell? ⟨w.heap.size, 0, none⟩ = some (.int .i64 h) ∧ w1.cell? ⟨w.heap.size, 1, none⟩ = some (.int .u64 l) := ⟨(hb.cell (p := ⟨w.heap.size, 0, none⟩) (by simp)).trans (by simp [go_sem]), (hb.cell (p := ⟨w.heap.size, 1, none⟩) (by simp)).trans (by simp [go_sem])⟩; have HB := Lib.hid hb; clear hb))
  go_wp2
  go_ret2
  exact ⟨ret_two rfl rfl, (((Below.refl _ _).alloc (Nat.le_refl _) _).drew).trans (HB.out.mono (by simp))⟩

set_option maxRecDepth 100000 in
set_option maxHeartbeats 1000000 in
theorem int_no (w : World) (h l : Int) (k : WOk h l) (f : ¬ (-9223372036854775808 ≤ wv h l ∧ wv h l ≤ 9223372036854775807)) :
    Calls Try.prog 23 #[.agg #[.int .i64 h, .int .u64 l]] w fun e w' => e = .returned (.tuple #[.int .i64 0, .int .i64 4]) ∧ Below w.heap.size w w' := by
  obtain ⟨k0, k1, k2, k3⟩ := k
  obtain ⟨n, hn⟩ : ∃ n, n = (l + 9223372036854775808) % 18446744073709551616 - 9223372036854775808 := ⟨_, rfl⟩
  have wl : IntKind.i64.wrap l = n := by rw [i64_wrap, hn]
  obtain ⟨nh, hnh⟩ : ∃ x, n / 9223372036854775808 = x := ⟨_, rfl⟩
  have o2 : n % 18446744073709551616 = l := by omega
  have hne : (h == nh) = false := by unfold wv at f; simp; omega
  have f0 : -9223372036854775808 ≤ n := by omega
  have f1 : n ≤ 9223372036854775807 := by omega
  have O1 := Lib.hid hnh
  have O2 := Lib.hid o2
  clear hn hnh o2 f
  go_enter Try.func23, Try.ntmps23
  go_wp2
  go_region_held3 (fun w' => w'.cell? ⟨w.heap.size, 0, none⟩ = some (.int .i64 h) ∧ w'.cell? ⟨w.heap.size, 1, none⟩ = some (.int .u64 l)) (first | assumption | (simp [go_sem]; done))
    (first
      | (go_at_call 25; refine (of_any _ n nh l f0 f1 O1.out O2.out).mono ?_; rintro e w1 ⟨rfl, hb⟩; have hs1 : w1.cell? ⟨w.heap.size, 0, none⟩ = some (.int .i64 h) ∧ w1.cell? ⟨w.heap.size, 1, none⟩ = some (.int .u64 l) := ⟨(hb.cell (p := ⟨w.heap.size, 0, none⟩) (by simp)).trans (by simp [go_sem]), (hb.cell (p := ⟨w.heap.size, 1, none⟩) (by simp)).trans (by simp [go_sem])⟩; have HB := Lib.hid hb; clear hb))
  go_wp2
  go_ret2
  exact ⟨ret_two rfl rfl, (((Below.refl _ _).alloc (Nat.le_refl _) _).drew).trans (HB.out.mono (by simp))⟩
end Go.Proofs.Ytjnohdkpkbiclaa
