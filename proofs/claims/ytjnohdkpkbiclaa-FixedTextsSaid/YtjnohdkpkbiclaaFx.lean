/-
  The contracts of math/bits' Add64, Sub64 and Mul64 over whole numbers, and of fixed's part, join, Of, sizeOf. Conditions: the types' own ranges; a carry of 0 or 1.
-/
import Derived.Test.YtjnohdkpkbiclaaDiv64
import Derived.Test.YtjnohdkpkbiclaaBits
import Derived.Shelf.Spec.BitsCarry
import Derived.Deep.RegionHeld3
namespace Go.Proofs.Ytjnohdkpkbiclaa
open Go.RowKit

theorem add64 (x y c : Int) (hx : 0 ≤ x) (hy : 0 ≤ y) (_hx1 : x ≤ 18446744073709551615) (_hy1 : y ≤ 18446744073709551615) (hc0 : 0 ≤ c) (hc : c ≤ 1) (w : World) : (callFunc 42 #[.int .u64 x, .int .u64 y, .int .u64 c]).run Try.prog w =
    .ok (.value (.tuple #[.int .u64 ((x + y + c) % 18446744073709551616), .int .u64 ((x + y + c) / 18446744073709551616)])) w := by
  rw [run_callFunc_extern Try.func42 (by kernel_rfl) (by kernel_rfl) (by kernel_rfl) (e := add64Entry) (by kernel_rfl), run_add64 x y c hx hy hc0 hc]
  rfl
def bor (x y : Int) : Int := if x < y then 1 else 0
theorem bor_01 (x y : Int) : 0 ≤ bor x y ∧ bor x y ≤ 1 := by unfold bor; split <;> decide
theorem sub64 (x y b : Int) (hx : 0 ≤ x) (hy : 0 ≤ y) (hx1 : x ≤ 18446744073709551615) (hy1 : y ≤ 18446744073709551615) (hb0 : 0 ≤ b) (hb : b ≤ 1) (w : World) : (callFunc 59 #[.int .u64 x, .int .u64 y, .int .u64 b]).run Try.prog w =
    .ok (.value (.tuple #[.int .u64 ((x - y - b) % 18446744073709551616), .int .u64 (bor x (y + b))])) w := by
  obtain ⟨x, rfl⟩ := Int.eq_ofNat_of_zero_le hx
  obtain ⟨y, rfl⟩ := Int.eq_ofNat_of_zero_le hy
  obtain ⟨b, rfl⟩ := Int.eq_ofNat_of_zero_le hb0
  have e1 : (((x + 18446744073709551616 - y - b) % 18446744073709551616 : Nat) : Int) = ((x : Int) - y - b) % 18446744073709551616 := by omega
  have e2 : ((if x < y + b then 1 else 0 : Nat) : Int) = bor x (y + b) := by unfold bor; split <;> split <;> omega
  rw [run_callFunc_extern Try.func59 (by kernel_rfl) (by kernel_rfl) (by kernel_rfl) (e := sub64Entry) (by kernel_rfl), run_sub64 x y b (by omega)]
  simp only [Result.andThen]
  rw [e1, e2]
theorem mul64 (x y : Int) (hx : 0 ≤ x) (hy : 0 ≤ y) (hx1 : x ≤ 18446744073709551615) (hy1 : y ≤ 18446744073709551615) (w : World) :
    Calls Try.prog 44 #[.int .u64 x, .int .u64 y] w fun e w' => e = .returned (.tuple #[.int .u64 (x * y / 18446744073709551616), .int .u64 (x * y % 18446744073709551616)]) ∧ w = w' := by
  obtain ⟨x, rfl⟩ := Int.eq_ofNat_of_zero_le hx
  obtain ⟨y, rfl⟩ := Int.eq_ofNat_of_zero_le hy
  exact (Try.bits_Mul64 x y (by omega) (by omega) w).mono fun e w' ⟨he, hw⟩ => ⟨by rw [he]; exact ret_two (by simp) (by simp), hw.symm⟩

/-- The low and the high word of a difference, of a sum; the number of two words; its range. -/
def wv (h l : Int) : Int := 18446744073709551616 * h + l
def WOk (h l : Int) : Prop := -9223372036854775808 ≤ h ∧ h ≤ 9223372036854775807 ∧ 0 ≤ l ∧ l ≤ 18446744073709551615
/-- A number brought to 128 bits. -/
def w128 (n : Int) : Int := (n + 170141183460469231731687303715884105728) % 340282366920938463463374607431768211456 - 170141183460469231731687303715884105728
theorem i64_wrap (n : Int) : IntKind.i64.wrap n = (n + 9223372036854775808) % 18446744073709551616 - 9223372036854775808 := IntKind.wrap_i64 n

/-- A wide value. -/
def wval (h l : Int) : Value := .agg #[.int .i64 h, .int .u64 l]

set_option maxRecDepth 100000 in
set_option maxHeartbeats 1000000 in
theorem part_any (w : World) (a b c d : Int) (h1 : WOk a b) (h2 : WOk c d) :
    Calls Try.prog 37 #[.agg #[.int .i64 a, .int .u64 b], .agg #[.int .i64 c, .int .u64 d]] w fun e w' =>
      ∃ h l, e = .returned (.agg #[.int .i64 h, .int .u64 l]) ∧ Hid (WOk h l ∧ wv h l = w128 (wv a b - wv c d)) ∧ Below w.heap.size w w' := by
  obtain ⟨a0, a1, b0, b1⟩ := h1
  obtain ⟨c0, c1, d0, d1⟩ := h2
  obtain ⟨ua, hua⟩ : ∃ x, x = a % 18446744073709551616 := ⟨_, rfl⟩
  obtain ⟨uc, huc⟩ : ∃ x, x = c % 18446744073709551616 := ⟨_, rfl⟩
  have wa : IntKind.u64.wrap a = ua := by rw [u64_wrap, hua]
  have wc : IntKind.u64.wrap c = uc := by rw [u64_wrap, huc]
  obtain ⟨l, hl⟩ : ∃ x, x = (b - d) % 18446744073709551616 := ⟨_, rfl⟩
  obtain ⟨br, hbr⟩ : ∃ x, x = bor b d := ⟨_, rfl⟩
  have hbr2 : 0 ≤ br ∧ br ≤ 1 := by rw [hbr]; exact bor_01 b d
  obtain ⟨br0, br1⟩ := hbr2
  obtain ⟨hx, hhx⟩ : ∃ x, x = (ua - uc - br) % 18446744073709551616 := ⟨_, rfl⟩
  obtain ⟨bx, hbx⟩ : ∃ x, x = bor ua (uc + br) := ⟨_, rfl⟩
  obtain ⟨h, hh⟩ : ∃ x, x = (hx + 9223372036854775808) % 18446744073709551616 - 9223372036854775808 := ⟨_, rfl⟩
  have wh : IntKind.i64.wrap hx = h := by rw [i64_wrap, hh]
  have s0 : ∀ w, (callFunc 59 #[.int .u64 b, .int .u64 d, .int .u64 0]).run Try.prog w = .ok (.value (.tuple #[.int .u64 l, .int .u64 br])) w := by
    intro w
    have := sub64 b d 0 b0 d0 b1 d1 (by decide) (by decide) w
    rw [show b - d - 0 = b - d by omega, show d + 0 = d by omega, ← hl, ← hbr] at this
    exact this
  have s1 : ∀ w, (callFunc 59 #[.int .u64 ua, .int .u64 uc, .int .u64 br]).run Try.prog w = .ok (.value (.tuple #[.int .u64 hx, .int .u64 bx])) w := by
    intro w
    have := sub64 ua uc br (by omega) (by omega) (by omega) (by omega) br0 br1 w
    rw [← hhx, ← hbx] at this
    exact this
  have hx0 : 0 ≤ hx := by omega
  have hx1 : hx ≤ 18446744073709551615 := by omega
  have spec : Hid (WOk h l ∧ wv h l = w128 (wv a b - wv c d)) := by
    show _ ∧ _
    have hbc : (b < d ∧ br = 1) ∨ (¬ b < d ∧ br = 0) := by rw [hbr]; unfold bor; by_cases h : b < d <;> simp [h]
    unfold WOk wv w128
    omega
  clear hbr hbx hl hhx hh hua huc
  go_enter Try.func37, Try.ntmps37
  go_wp2_with (first | simp only [s0] | simp only [s1])
  refine bodyPost_ret (v := .agg #[.int .i64 h, .int .u64 l]) (by simp [results, Try.results37, go_sem]) rfl ⟨_, _, rfl, spec, ?_⟩
  exact ((((Below.refl _ _).alloc (Nat.le_refl _) _).alloc (by simp) _).alloc (by simp; omega) _)

set_option maxRecDepth 100000 in
set_option maxHeartbeats 1000000 in
theorem join_any (w : World) (a b c d : Int) (h1 : WOk a b) (h2 : WOk c d) :
    Calls Try.prog 36 #[.agg #[.int .i64 a, .int .u64 b], .agg #[.int .i64 c, .int .u64 d]] w fun e w' =>
      ∃ h l, e = .returned (.agg #[.int .i64 h, .int .u64 l]) ∧ Hid (WOk h l ∧ wv h l = w128 (wv a b + wv c d)) ∧ Below w.heap.size w w' := by
  obtain ⟨a0, a1, b0, b1⟩ := h1
  obtain ⟨c0, c1, d0, d1⟩ := h2
  obtain ⟨ua, hua⟩ : ∃ x, x = a % 18446744073709551616 := ⟨_, rfl⟩
  obtain ⟨uc, huc⟩ : ∃ x, x = c % 18446744073709551616 := ⟨_, rfl⟩
  have wa : IntKind.u64.wrap a = ua := by rw [u64_wrap, hua]
  have wc : IntKind.u64.wrap c = uc := by rw [u64_wrap, huc]
  obtain ⟨l, hl⟩ : ∃ x, x = (b + d) % 18446744073709551616 := ⟨_, rfl⟩
  obtain ⟨br, hbr⟩ : ∃ x, x = (b + d) / 18446744073709551616 := ⟨_, rfl⟩
  have hbr2 : 0 ≤ br ∧ br ≤ 1 := by omega
  obtain ⟨br0, br1⟩ := hbr2
  obtain ⟨hx, hhx⟩ : ∃ x, x = (ua + uc + br) % 18446744073709551616 := ⟨_, rfl⟩
  obtain ⟨bx, hbx⟩ : ∃ x, x = (ua + uc + br) / 18446744073709551616 := ⟨_, rfl⟩
  obtain ⟨h, hh⟩ : ∃ x, x = (hx + 9223372036854775808) % 18446744073709551616 - 9223372036854775808 := ⟨_, rfl⟩
  have wh : IntKind.i64.wrap hx = h := by rw [i64_wrap, hh]
  have s0 : ∀ w, (callFunc 42 #[.int .u64 b, .int .u64 d, .int .u64 0]).run Try.prog w = .ok (.value (.tuple #[.int .u64 l, .int .u64 br])) w := by
    intro w
    have := add64 b d 0 b0 d0 b1 d1 (by decide) (by decide) w
    rw [show b + d + 0 = b + d by omega, ← hl, ← hbr] at this
    exact this
  have s1 : ∀ w, (callFunc 42 #[.int .u64 ua, .int .u64 uc, .int .u64 br]).run Try.prog w = .ok (.value (.tuple #[.int .u64 hx, .int .u64 bx])) w := by
    intro w
    have := add64 ua uc br (by omega) (by omega) (by omega) (by omega) br0 br1 w
    rw [← hhx, ← hbx] at this
    exact this
  have hx0 : 0 ≤ hx := by omega
  have hx1 : hx ≤ 18446744073709551615 := by omega
  have spec : Hid (WOk h l ∧ wv h l = w128 (wv a b + wv c d)) := by
    show _ ∧ _
    unfold WOk wv w128
    omega
  clear hbr hbx hl hhx hh hua huc
  go_enter Try.func36, Try.ntmps36
  go_wp2_with (first | simp only [s0] | simp only [s1])
  refine bodyPost_ret (v := .agg #[.int .i64 h, .int .u64 l]) (by simp [results, Try.results36, go_sem]) rfl ⟨_, _, rfl, spec, ?_⟩
  exact ((((Below.refl _ _).alloc (Nat.le_refl _) _).alloc (by simp) _).alloc (by simp; omega) _)

end Go.Proofs.Ytjnohdkpkbiclaa
