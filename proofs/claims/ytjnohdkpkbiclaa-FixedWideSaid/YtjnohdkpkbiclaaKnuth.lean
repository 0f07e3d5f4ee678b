/-
  Plain mathematics: one digit of a quotient found by an estimate and its corrections (the school method, to the base 2^32). Conditions: those in each lemma.
-/
import Derived.WalkKit
namespace Go.Proofs.Ytjnohdkpkbiclaa

/-- What holds of the estimate q and what is left, r: the quotient of u * 2^32 + d by a * 2^32 + b is not above q. -/
def KInv (a b u d q r : Int) : Prop := 0 ≤ q ∧ q ≤ 4294967297 ∧ q * a + r = u ∧ 0 ≤ r ∧ r < 4294967296 ∧ (u * 4294967296 + d) / (a * 4294967296 + b) ≤ q

/-- The numbers are such as the method asks. -/
structure KOk (a b u d : Int) : Prop where
  a0 : 2147483648 ≤ a
  a1 : a < 4294967296
  b0 : 0 ≤ b
  b1 : b < 4294967296
  u0 : 0 ≤ u
  u1 : u < a * 4294967296 + b
  d0 : 0 ≤ d
  d1 : d < 4294967296

theorem KOk.start {a b u d : Int} (h : KOk a b u d) : KInv a b u d (u / a) (u - u / a * a) := by
  obtain ⟨a0, a1, b0, b1, u0, u1, d0, d1⟩ := h
  have e1 := Int.mul_ediv_add_emod u a
  have e2 := Int.emod_nonneg u (show a ≠ 0 by omega)
  have e3 := Int.emod_lt_of_pos u (show 0 < a by omega)
  have e4 : u / a * a = a * (u / a) := Int.mul_comm _ _
  have q0 : 0 ≤ u / a := Int.ediv_nonneg u0 (by omega)
  have q1 : u / a ≤ 4294967297 := by
    have : u / a < 4294967298 := (Int.ediv_lt_iff_lt_mul (by omega)).2 (by omega)
    omega
  refine ⟨q0, q1, by omega, by omega, by omega, ?_⟩
  have : (u * 4294967296 + d) / (a * 4294967296 + b) < u / a + 1 := by
    refine (Int.ediv_lt_iff_lt_mul (by omega)).2 ?_
    have k1 : (u / a + 1) * (a * 4294967296 + b) = (u / a * a) * 4294967296 + a * 4294967296 + (u / a + 1) * b := by
      rw [Int.add_mul, Int.one_mul, Int.mul_add, Int.add_mul, Int.one_mul, Int.mul_assoc]
      omega
    have k2 : 0 ≤ (u / a + 1) * b := Int.mul_nonneg (by omega) b0
    omega
  omega

theorem KInv.mul {a b u d q r : Int} (h : KInv a b u d q r) : q * (a * 4294967296 + b) = (u - r) * 4294967296 + q * b := by
  obtain ⟨_, _, e, _⟩ := h
  rw [Int.mul_add, ← Int.mul_assoc]
  have : q * a = u - r := by omega
  rw [this]

theorem KInv.done {a b u d q r : Int} (k : KOk a b u d) (h : KInv a b u d q r) (h2 : q * b ≤ 4294967296 * r + d) : q = (u * 4294967296 + d) / (a * 4294967296 + b) := by
  have e := h.mul
  obtain ⟨a0, a1, b0, b1, u0, u1, d0, d1⟩ := k
  obtain ⟨q0, q1, e1, r0, r1, hq⟩ := h
  have : q ≤ (u * 4294967296 + d) / (a * 4294967296 + b) := (Int.le_ediv_iff_mul_le (by omega)).2 (by omega)
  omega

theorem KInv.less {a b u d q r : Int} (k : KOk a b u d) (h : KInv a b u d q r) (h2 : 4294967296 ≤ q ∨ 4294967296 * r + d < q * b) :
    1 ≤ q ∧ (u * 4294967296 + d) / (a * 4294967296 + b) ≤ q - 1 := by
  have e := h.mul
  obtain ⟨a0, a1, b0, b1, u0, u1, d0, d1⟩ := k
  obtain ⟨q0, q1, e1, r0, r1, hq⟩ := h
  have hQ0 : 0 ≤ (u * 4294967296 + d) / (a * 4294967296 + b) := Int.ediv_nonneg (by omega) (by omega)
  have : (u * 4294967296 + d) / (a * 4294967296 + b) < q := by
    rcases h2 with h2 | h2
    · have : (u * 4294967296 + d) / (a * 4294967296 + b) < 4294967296 := (Int.ediv_lt_iff_lt_mul (by omega)).2 (by omega)
      omega
    · exact (Int.ediv_lt_iff_lt_mul (by omega)).2 (by omega)
  omega

theorem KInv.next {a b u d q r : Int} (k : KOk a b u d) (h : KInv a b u d q r) (h2 : 4294967296 ≤ q ∨ 4294967296 * r + d < q * b) (h3 : r + a < 4294967296) : KInv a b u d (q - 1) (r + a) := by
  have e := h.less k h2
  obtain ⟨a0, a1, b0, b1, u0, u1, d0, d1⟩ := k
  obtain ⟨q0, q1, e1, r0, r1, hq⟩ := h
  exact ⟨by omega, by omega, by rw [Int.sub_mul]; omega, by omega, h3, e.2⟩

theorem KInv.last {a b u d q r : Int} (k : KOk a b u d) (h : KInv a b u d q r) (h2 : 4294967296 ≤ q ∨ 4294967296 * r + d < q * b) (h3 : 4294967296 ≤ r + a) : q - 1 = (u * 4294967296 + d) / (a * 4294967296 + b) := by
  have e := h.less k h2
  have em := h.mul
  obtain ⟨a0, a1, b0, b1, u0, u1, d0, d1⟩ := k
  obtain ⟨q0, q1, e1, r0, r1, hq⟩ := h
  have e5 : (q - 1) * b ≤ 4294967296 * 4294967295 := Int.mul_le_mul (by omega) (by omega) b0 (by omega)
  have e6 : (q - 1) * (a * 4294967296 + b) = (u - (r + a)) * 4294967296 + (q - 1) * b := by
    rw [Int.sub_mul, Int.one_mul, em, Int.sub_mul q 1 b, Int.one_mul]; omega
  have : q - 1 ≤ (u * 4294967296 + d) / (a * 4294967296 + b) := (Int.le_ediv_iff_mul_le (by omega)).2 (by omega)
  omega

/-- The whole quotient of two digits, and what is left. -/
theorem k_two (y p u d1 d0 N : Int) (hy : 0 < y) (hp : 0 < p) (_hu0 : 0 ≤ u) (hN : N * p = (u * 4294967296 + d1) * 4294967296 + d0) (_hd0 : 0 ≤ d0) (_hd1 : 0 ≤ d1) :
    let r := (u * 4294967296 + d1) % (y * p)
    ((u * 4294967296 + d1) / (y * p)) * 4294967296 + (r * 4294967296 + d0) / (y * p) = N / y ∧ (r * 4294967296 + d0) % (y * p) / p = N % y := by
  intro r
  have hyp : 0 < y * p := Int.mul_pos hy hp
  have e1 := Int.mul_ediv_add_emod (u * 4294967296 + d1) (y * p)
  have e2 := Int.mul_ediv_add_emod (r * 4294967296 + d0) (y * p)
  have e3 : N * p = y * p * (((u * 4294967296 + d1) / (y * p)) * 4294967296 + (r * 4294967296 + d0) / (y * p)) + (r * 4294967296 + d0) % (y * p) := by
    rw [Int.mul_add, ← Int.mul_assoc]
    show N * p = _
    omega
  have hr := Int.emod_nonneg (r * 4294967296 + d0) (show y * p ≠ 0 by omega)
  have hr1 := Int.emod_lt_of_pos (r * 4294967296 + d0) hyp
  generalize ((u * 4294967296 + d1) / (y * p)) * 4294967296 + (r * 4294967296 + d0) / (y * p) = Q at e3 ⊢
  generalize (r * 4294967296 + d0) % (y * p) = R at e3 hr hr1 ⊢
  have e4 : R = (N - y * Q) * p := by
    rw [Int.sub_mul, e3, Int.mul_assoc y p Q, Int.mul_comm p Q, ← Int.mul_assoc]
    omega
  have e5 : R / p = N - y * Q := by rw [e4]; exact Int.mul_ediv_cancel _ (by omega)
  have e6 : 0 ≤ N - y * Q := by rw [← e5]; exact Int.ediv_nonneg hr (by omega)
  have e7 : N - y * Q < y := by
    rw [← e5]
    exact (Int.ediv_lt_iff_lt_mul hp).2 hr1
  rw [e5]
  have e8 : N = y * Q + (N - y * Q) := by omega
  constructor
  · rw [e8, Int.mul_add_ediv_left _ _ (by omega : y ≠ 0), Int.ediv_eq_zero_of_lt e6 e7]; omega
  · rw [e8, Int.mul_add_emod_self_left]
    rw [show y * Q + (N - y * Q) - y * Q = N - y * Q by omega, Int.emod_eq_of_lt e6 e7]
end Go.Proofs.Ytjnohdkpkbiclaa
