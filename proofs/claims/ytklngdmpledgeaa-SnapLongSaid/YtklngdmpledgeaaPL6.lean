/-
  Groups there and back; numbers with a sign; texts out of bytes. Conditions: none.
-/
import Derived.Test.YtklngdmpledgeaaORGrp
namespace Go.Proofs.Ytklngdmpledgeaa.Oc

theorem grpF_byte (k m : Nat) (hm : m < 2 * 128 ^ k) : bok (grpF k m) := by
  induction k generalizing m with
  | zero =>
    intro x hx
    rw [grpF, List.mem_singleton] at hx
    have : m < 2 := by simpa using hm
    omega
  | succ k ih =>
    intro x hx
    by_cases h : m < 128
    · rw [grpF_one h, List.mem_singleton] at hx
      omega
    · rw [grpF_more h] at hx
      rcases List.mem_cons.1 hx with h1 | h1
      · omega
      · exact ih (m / 128) (by rw [Nat.pow_succ] at hm; omega) x h1
theorem pow9 : (2 : Nat) * 128 ^ 9 = 18446744073709551616 := by decide
theorem grp_bok {m : Nat} (h : m < 18446744073709551616) : bok (grp m) := grpF_byte 9 m (by rw [pow9]; exact h)
theorem bok_app {l m : List Int} (h : bok l) (k : bok m) : bok (l ++ m) := fun x hx => by
  rcases List.mem_append.1 hx with h1 | h1
  · exact h x h1
  · exact k x h1
theorem word_bok (k x : Nat) : bok (wordF k x) := by
  induction k with
  | zero => intro y hy; rw [wordF] at hy; exact absurd hy (List.not_mem_nil)
  | succ k ih =>
    intro y hy
    rw [wordF] at hy
    rcases List.mem_cons.1 hy with h1 | h1
    · omega
    · exact ih y h1
theorem rgF_fwd (k at' acc m : Nat) (r : List Int) (hk : k + at' = 9) (hm : m < 2 * 128 ^ k) (h0 : 0 < at' → ¬ m = 0) : rgF (k + 1) at' acc (grpF k m ++ r) = (0, acc + m * 128 ^ at', r) := by
  induction k generalizing at' acc m with
  | zero =>
    have hm2 : m < 2 := by simpa using hm
    show rgF 1 at' acc ((m : Int) :: r) = _
    rw [rgF_good (by omega) (by omega)]
    simp
  | succ k ih =>
    by_cases h : m < 128
    · rw [grpF_one h]
      show rgF (k + 1 + 1) at' acc ((m : Int) :: r) = _
      rw [rgF_good (by omega) (by omega)]
      simp
    · rw [grpF_more h]
      show rgF (k + 1 + 1) at' acc ((((m % 128 : Nat) : Int) + 128) :: (grpF k (m / 128) ++ r)) = _
      rw [rgF_more (by omega), ih (at' + 1) _ (m / 128) (by omega) (by rw [Nat.pow_succ] at hm; omega) (fun _ => by omega)]
      have e1 : (((m % 128 : Nat) : Int) + 128 - 128).toNat = m % 128 := by omega
      rw [e1, Nat.pow_succ]
      have e2 : m / 128 * (128 ^ at' * 128) = 128 * (m / 128) * 128 ^ at' := by
        rw [Nat.mul_comm (128 ^ at') 128, ← Nat.mul_assoc, Nat.mul_comm (m / 128) 128]
      rw [e2, Nat.add_assoc, ← Nat.add_mul]
      have e3 : m % 128 + 128 * (m / 128) = m := by omega
      rw [e3]
theorem rgF_inv (k at' acc n : Nat) (l r : List Int) (hk : k + at' = 9) (hb : bok l) (h : rgF (k + 1) at' acc l = (0, n, r)) : ∃ m, n = acc + m * 128 ^ at' ∧ l = grpF k m ++ r ∧ (0 < at' → ¬ m = 0) ∧ m < 2 * 128 ^ k := by
  induction k generalizing at' acc l with
  | zero =>
    cases l with
    | nil => rw [rgF_end] at h; cases h
    | cons x s =>
      have hx := hb x (by simp)
      by_cases h1 : 128 ≤ x
      · rw [rgF_more h1] at h; cases h
      · by_cases h2 : (0 < at' ∧ x = 0) ∨ (at' = 9 ∧ ¬ x = 1)
        · rw [rgF_bad (by omega) h2] at h; cases h
        · rw [rgF_good (by omega) h2] at h
          simp only [Prod.mk.injEq, true_and] at h
          obtain ⟨h3, rfl⟩ := h
          refine ⟨x.toNat, h3.symm, ?_, by omega, by simp; omega⟩
          rw [grpF, Int.toNat_of_nonneg hx.1]; rfl
  | succ k ih =>
    cases l with
    | nil => rw [rgF_end] at h; cases h
    | cons x s =>
      have hx := hb x (by simp)
      by_cases h1 : 128 ≤ x
      · rw [rgF_more h1] at h
        obtain ⟨m, h3, h4, h5, h6⟩ := ih (at' + 1) _ s (by omega) (fun y hy => hb y (by simp [hy])) h
        have hm0 := h5 (by omega)
        refine ⟨(x - 128).toNat + 128 * m, ?_, ?_, fun _ => by omega, by rw [Nat.pow_succ]; omega⟩
        · rw [h3, Nat.pow_succ, Nat.add_assoc, Nat.add_mul]
          congr 2
          rw [Nat.mul_comm (128 ^ at') 128, ← Nat.mul_assoc, Nat.mul_comm m 128]
        · rw [grpF_more (by omega), h4]
          have e1 : ((x - 128).toNat + 128 * m) / 128 = m := by omega
          have e2 : ((((x - 128).toNat + 128 * m) % 128 : Nat) : Int) + 128 = x := by omega
          rw [e1, e2]; rfl
      · by_cases h2 : (0 < at' ∧ x = 0) ∨ (at' = 9 ∧ ¬ x = 1)
        · rw [rgF_bad (by omega) h2] at h; cases h
        · rw [rgF_good (by omega) h2] at h
          simp only [Prod.mk.injEq, true_and] at h
          obtain ⟨h3, rfl⟩ := h
          have h128 : 128 ≤ 128 ^ (k + 1) := by rw [Nat.pow_succ]; have := Nat.pow_pos (n := k) (show 0 < 128 by decide); omega
          refine ⟨x.toNat, h3.symm, ?_, by omega, by omega⟩
          rw [grpF_one (by omega), Int.toNat_of_nonneg hx.1]; rfl
theorem rg_grp (m : Nat) (r : List Int) (h : m < 18446744073709551616) : rg (grp m ++ r) = (0, m, r) := by
  have := rgF_fwd 9 0 0 m r rfl (by rw [pow9]; exact h) (fun h => by omega)
  rw [Nat.zero_add, Nat.pow_zero, Nat.mul_one] at this
  exact this
theorem rg_inv {l r : List Int} {n : Nat} (hb : bok l) (h : rg l = (0, n, r)) : n < 18446744073709551616 ∧ l = grp n ++ r := by
  obtain ⟨m, h1, h2, _, h4⟩ := rgF_inv 9 0 0 n l r rfl hb h
  have h5 : n = m := by rw [h1]; simp
  subst h5
  exact ⟨by rw [pow9] at h4; exact h4, h2⟩
theorem rgF_err (k at' acc : Nat) (l : List Int) (h : ¬ (rgF k at' acc l).1 = 0) : (rgF k at' acc l).2.1 = 0 := by
  induction k generalizing at' acc l with
  | zero => rfl
  | succ k ih =>
    cases l with
    | nil => rfl
    | cons x r =>
      by_cases h1 : 128 ≤ x
      · rw [rgF_more h1] at h ⊢; exact ih _ _ _ h
      · by_cases h2 : (0 < at' ∧ x = 0) ∨ (at' = 9 ∧ ¬ x = 1)
        · rw [rgF_bad (by omega) h2]
        · rw [rgF_good (by omega) h2] at h; exact absurd rfl h
/-- A number out of a count. -/
def unf (n : Nat) : Int := if n % 2 = 1 then -1 - ((n / 2 : Nat) : Int) else ((n / 2 : Nat) : Int)
theorem unf_fold (x : Int) : unf (fold x) = x := by
  unfold unf fold; split <;> split <;> omega
theorem fold_unf (n : Nat) : fold (unf n) = n := by
  unfold unf fold; split <;> split <;> omega
theorem unf_rng {n : Nat} (h : n < 18446744073709551616) : -9223372036854775808 ≤ unf n ∧ unf n < 9223372036854775808 := by
  unfold unf; split <;> omega
/-- A text out of bytes. -/
def u8s (l : List Int) : List UInt8 := l.map fun x => UInt8.ofNat x.toNat
def strOf (l : List Int) : ByteArray := ⟨(u8s l).toArray⟩
theorem sb_strOf {l : List Int} (h : bok l) : sb (strOf l) = l := by
  unfold sb strOf u8s
  simp only [List.map_map]
  conv => rhs; rw [← List.map_id l]
  apply List.map_congr_left
  intro x hx
  have := h x hx
  simp
  omega
theorem strOf_sb (s : ByteArray) : strOf (sb s) = s := by
  unfold sb strOf u8s
  have e : ((fun x : Int => UInt8.ofNat x.toNat) ∘ fun b : UInt8 => (b.toNat : Int)) = id := by funext b; simp
  rw [List.map_map, e]
  simp
theorem strOf_len (l : List Int) : (strOf l).size = l.length := by simp [strOf, u8s, ByteArray.size]
theorem sb_bok (s : ByteArray) : bok (sb s) := by
  intro x hx
  unfold sb at hx
  obtain ⟨b, _, rfl⟩ := List.mem_map.1 hx
  have := b.toNat_lt
  omega
end Go.Proofs.Ytklngdmpledgeaa.Oc

namespace Go.Proofs.Ytklngdmpledgeaa.Oc
open Go.RowKit

theorem two_cell {w : World} {B : Nat} {x : Value} {t : TypeId} (h : w.heap[B]? = some (.cells #[x] t (0, 0))) : w.cell? ⟨B, 0, none⟩ = some x := (block_cell h).1
theorem rg_lt {l : List Int} (hb : bok l) : (rg l).2.1 < 18446744073709551616 := by
  by_cases h : (rg l).1 = 0
  · have := (rg_inv (l := l) (n := (rg l).2.1) (r := (rg l).2.2) hb (by rw [← h])).1
    exact this
  · have : (rg l).2.1 = 0 := rgF_err 10 0 0 l h
    omega
end Go.Proofs.Ytklngdmpledgeaa.Oc
