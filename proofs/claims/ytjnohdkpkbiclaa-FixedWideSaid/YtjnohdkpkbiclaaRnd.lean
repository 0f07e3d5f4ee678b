/-
  The contract of the reference's Rounded where it holds, and that what Divide tells is so rounded. Conditions: the numbers have at most nine digits; the divisor is not nought.
-/
import Derived.Test.YtjnohdkpkbiclaaRnd0
import Derived.Test.YtjnohdkpkbiclaaRnd1
import Derived.Test.YtjnohdkpkbiclaaRnd2
import Derived.Test.YtjnohdkpkbiclaaRnd3
import Derived.Test.YtjnohdkpkbiclaaDivide
namespace Go.Proofs.Ytjnohdkpkbiclaa
open Go.RowKit

/-- q is x by y, rounded so. -/
def RSpec (x y q how : Int) : Prop :=
  q * y = x ∨ (¬ q * y = x ∧
    (((how = 0 ∨ (how = 2 ∧ decide (x < 0) = decide (y < 0))) ∧ q * (y.natAbs : Int) ≤ (if y < 0 then -x else x) ∧ (if y < 0 then -x else x) < q * (y.natAbs : Int) + y.natAbs) ∨
     ((how = 1 ∨ (how = 2 ∧ ¬ decide (x < 0) = decide (y < 0))) ∧ (q + -1) * (y.natAbs : Int) ≤ (if y < 0 then -x else x) ∧ (if y < 0 then -x else x) < (q + -1) * (y.natAbs : Int) + y.natAbs) ∨
     (how = 3 ∧ ((2 * ((x - q * y).natAbs : Int) < y.natAbs) ∨ (2 * ((x - q * y).natAbs : Int) = y.natAbs ∧ q % 2 = 0)))))

theorem rounded_any (w : World) (u v t : Value) (x y q how : Int) (hu : NumIs w u x) (hv : NumIs w v y) (ht : NumIs w t q) (bx : Bd x) (by_ : Bd y) (bq : Bd q) (bq1 : Bd (q + -1)) (hs : RSpec x y q how) :
    Calls Try.prog 30 #[u, v, t, .int .i64 how] w fun e w' => e = .returned (.bool true) ∧ Below w.heap.size w w' := by
  rcases hs with h | ⟨hn, ⟨hh | ⟨hh, hb⟩, h1, h2⟩ | ⟨hh | ⟨hh, hb⟩, h1, h2⟩ | ⟨hh, he⟩⟩
  · exact rounded_exact w u v t x y q how hu hv ht bx by_ bq h
  · exact rounded_floor0 w u v t x y q how hu hv ht bx by_ bq hn h1 h2 hh
  · exact rounded_floor2 w u v t x y q how hu hv ht bx by_ bq hn h1 h2 hh hb
  · exact rounded_ceil1 w u v t x y q how hu hv ht bx by_ bq hn h1 h2 bq1 hh
  · exact rounded_ceil2 w u v t x y q how hu hv ht bx by_ bq hn h1 h2 bq1 hh hb
  · refine rounded_even w u v t x y q how hu hv ht bx by_ bq hn hh ?_ he
    unfold Bd at *
    omega

/-- What Divide tells, where it fits, is so rounded. -/
theorem rspec_of (x y how q c N r up : Int) (_hy : y ≠ 0) (h0 : 0 ≤ how) (h3 : how ≤ 3) (b : Bool) (hb : b = !(decide (x < 0) == decide (y < 0)))
    (hN : (x.natAbs : Int) = y.natAbs * N + r) (r0 : 0 ≤ r) (r1 : r < y.natAbs) (hc : c % 2 = N % 2) (hup : up = if awayB c r y.natAbs b how then 1 else 0) (hq : q = if b then -(N + up) else N + up) :
    RSpec x y q how := by
  obtain ⟨D, hD⟩ : ∃ D : Int, D = y.natAbs := ⟨_, rfl⟩
  rw [← hD] at hN r1 hup
  obtain ⟨P, hP⟩ : ∃ P, P = D * N := ⟨_, rfl⟩
  rw [← hP] at hN
  have e1 : N * D = P := by rw [hP, Int.mul_comm]
  have hD0 : 0 < D := by omega
  -- the product with the divisor, and what is asked of, by the sign
  have key : q * D = (if b then -(P + up * D) else P + up * D) := by
    rw [hq]; cases b
    · simp only [Bool.false_eq_true, if_false, Int.add_mul, e1]
    · simp only [if_true, Int.neg_mul, Int.add_mul, e1]
  have hu01 : up = 0 ∨ up = 1 := by rw [hup]; split <;> simp
  have hupD : up * D = if up = 0 then 0 else D := by rcases hu01 with h | h <;> rw [h] <;> simp
  have key2 : (q + -1) * D = q * D - D := by rw [Int.add_mul]; omega
  have hqy : q * y = if y < 0 then -(q * D) else q * D := by
    split
    · rw [show y = -D by omega, Int.mul_neg]
    · rw [show y = D by omega]
  have hx' : (if y < 0 then -x else x) = if b then -(P + r) else P + r := by
    rw [hb]
    by_cases a1 : x < 0 <;> by_cases a2 : y < 0 <;> simp [a1, a2] <;> omega
  unfold RSpec
  rw [← hD, hx', key2]
  have hbb : (decide (x < 0) = decide (y < 0)) = (b = false) := by
    rw [hb]; cases decide (x < 0) <;> cases decide (y < 0) <;> simp
  rw [hbb]
  have hxr : q * y - x = if y < 0 then -(q * D - (if b then -(P + r) else P + r)) else q * D - (if b then -(P + r) else P + r) := by
    rw [hqy, ← hx']; split <;> omega
  have habs : ((x - q * y).natAbs : Int) = if up = 0 then r else D - r := by
    have : ((x - q * y).natAbs : Int) = ((q * D - (if b then -(P + r) else P + r)).natAbs : Int) := by split at hxr <;> omega
    rw [this, key, hupD]
    cases b <;> rcases hu01 with h | h <;> simp [h] <;> omega
  have hex : (q * y = x) ↔ (if up = 0 then r else D - r) = 0 := by rw [← habs]; omega
  rw [hex, habs]
  by_cases hr : r = 0
  · have : up = 0 := by rw [hup, hr]; simp [awayB]
    left; rw [if_pos this]; exact hr
  · right
    refine ⟨by split <;> omega, ?_⟩
    rw [key, hupD]
    unfold awayB at hup
    rw [if_neg hr] at hup
    rcases (by omega : how = 0 ∨ how = 1 ∨ how = 2 ∨ how = 3) with rfl | rfl | rfl | rfl
    · left
      cases b <;> simp at hup <;> simp [hup] <;> omega
    · right; left
      cases b <;> simp at hup <;> simp [hup] <;> omega
    · cases b
      · left; simp at hup; simp [hup]; omega
      · right; left; simp at hup; simp [hup]; omega
    · right; right
      refine ⟨rfl, ?_⟩
      simp at hup
      by_cases c1 : D - r < r
      · have : up = 1 := by rw [hup]; simp [c1]
        rw [if_neg (by omega)]; omega
      · by_cases c2 : r = D - r ∧ c % 2 = 1
        · have : up = 1 := by rw [hup, if_pos (Or.inr c2)]
          rw [if_neg (by omega)]
          right
          refine ⟨by omega, ?_⟩
          rw [hq, this]; cases b <;> simp <;> omega
        · have : up = 0 := by rw [hup, if_neg]; rintro (h | h); exact c1 h; exact c2 h
          rw [if_pos this]
          by_cases c3 : r = D - r
          · right
            have : ¬ c % 2 = 1 := fun h => c2 ⟨c3, h⟩
            refine ⟨by omega, ?_⟩
            rw [hq, ‹up = 0›]; cases b <;> simp <;> omega
          · left; omega

theorem divspec_rounds (a d how h l : Int) (hd : d ≠ 0) (h0 : 0 ≤ how) (h3 : how ≤ 3) (hs : DivSpec a d how h l 0) : WOk h l ∧ RSpec a d (wv h l) how := by
  obtain ⟨q, n, hq, hn, hsg⟩ := hs
  rcases hsg with ⟨_, _, _, hk, hw⟩ | ⟨_, h4, _⟩
  · refine ⟨hk, ?_⟩
    refine rspec_of a d how _ q ((a.natAbs : Int) / d.natAbs) ((a.natAbs : Int) % d.natAbs) _ hd h0 h3 _ rfl (Int.mul_ediv_add_emod _ _).symm (Int.emod_nonneg _ (by omega)) (Int.emod_lt_of_pos _ (by omega)) hq rfl ?_
    rw [hw, hn]
  · omega

theorem divspec_over (a d how h l er : Int) (hd : d ≠ 0) (ha : -170141183460469231731687303715884105728 ≤ a ∧ a < 170141183460469231731687303715884105728) (hs : DivSpec a d how h l er) : er = 0 ∨ (er = 4 ∧ h = 0 ∧ l = 0 ∧ a = -170141183460469231731687303715884105728 ∧ d = -1) := by
  obtain ⟨q, n, hq, hn, hsg⟩ := hs
  rcases hsg with ⟨_, _, he, _⟩ | ⟨hf, h4, hh, hl⟩
  · exact .inl he
  · right
    refine ⟨h4, hh, hl, ?_⟩
    have hu : ∀ c : Bool, (if c then (1 : Int) else 0) = 0 ∨ (if c then (1 : Int) else 0) = 1 := by intro c; cases c <;> simp
    by_cases h1 : d.natAbs = 1
    · rw [h1] at hn
      simp [awayB] at hn
      rcases (by omega : d = 1 ∨ d = -1) with rfl | rfl
      · exfalso; apply hf; rw [hn]; by_cases a1 : a < 0 <;> simp [a1] <;> omega
      · refine ⟨?_, rfl⟩
        by_cases a1 : a < 0 <;> simp [a1] at hf <;> omega
    · exfalso
      apply hf
      have h2 : (a.natAbs : Int) / d.natAbs ≤ 85070591730234615865843651857942052864 := by
        apply Int.ediv_le_of_le_mul (by omega)
        have : 85070591730234615865843651857942052864 * 2 ≤ 85070591730234615865843651857942052864 * (d.natAbs : Int) := Int.mul_le_mul_of_nonneg_left (by omega) (by decide)
        omega
      have h5 : 0 ≤ (a.natAbs : Int) / d.natAbs := Int.ediv_nonneg (by omega) (by omega)
      have := hu (awayB q (↑a.natAbs % ↑d.natAbs) (↑d.natAbs) (!decide (a < 0) == decide (d < 0)) how)
      split <;> omega
end Go.Proofs.Ytjnohdkpkbiclaa
