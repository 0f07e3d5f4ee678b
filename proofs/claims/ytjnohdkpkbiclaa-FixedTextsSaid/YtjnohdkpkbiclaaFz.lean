/-
  The contracts of fixed's size.divide, size.next, size.signed, away. Conditions: the types' own ranges; a divisor that is not nought.
-/
import Derived.Test.YtjnohdkpkbiclaaFy
import Derived.Test.YtjnohdkpkbiclaaSub
namespace Go.Proofs.Ytjnohdkpkbiclaa
open Go.RowKit

theorem two_words (p q d : Int) (hd : 0 < d) : (18446744073709551616 * p + q) / d = 18446744073709551616 * (p / d) + (p % d * 18446744073709551616 + q) / d ∧ (18446744073709551616 * p + q) % d = (p % d * 18446744073709551616 + q) % d := by
  have e := Int.mul_ediv_add_emod p d
  have e1 : 18446744073709551616 * p + q = (p % d * 18446744073709551616 + q) + d * (18446744073709551616 * (p / d)) := by
    rw [Int.mul_left_comm]; omega
  rw [e1, Int.add_mul_ediv_left _ _ (by omega), Int.add_mul_emod_self_left]
  omega

set_option maxRecDepth 100000 in
set_option maxHeartbeats 1000000 in
theorem sdivide_any (w : World) (p q d : Int) (k : SOk p q) (d0 : 0 < d) (d1 : d ≤ 18446744073709551615) :
    Calls Try.prog 49 #[.agg #[.int .u64 p, .int .u64 q], .int .u64 d] w fun e w' => ∃ p' q' r, e = .returned (.tuple #[.agg #[.int .u64 p', .int .u64 q'], .int .u64 r]) ∧
      Hid (SOk p' q' ∧ wv p' q' = wv p q / d ∧ r = wv p q % d ∧ 0 ≤ r ∧ r < d ∧ p' ≤ p) ∧ Below w.heap.size w w' := by
  obtain ⟨k0, k1, k2, k3⟩ := k
  obtain ⟨p', hp'⟩ : ∃ x, x = p / d := ⟨_, rfl⟩
  obtain ⟨r1, hr1⟩ : ∃ x, x = p % d := ⟨_, rfl⟩
  obtain ⟨q', hq'⟩ : ∃ x, x = (r1 * 18446744073709551616 + q) / d := ⟨_, rfl⟩
  obtain ⟨r, hr⟩ : ∃ x, x = (r1 * 18446744073709551616 + q) % d := ⟨_, rfl⟩
  have r10 : 0 ≤ r1 := by rw [hr1]; exact Int.emod_nonneg _ (by omega)
  have r11 : r1 < d := by rw [hr1]; exact Int.emod_lt_of_pos _ d0
  have c1 : ∀ w, Calls Try.prog 63 #[.int .u64 0, .int .u64 p, .int .u64 d] w fun e w' => e = .returned (.tuple #[.int .u64 p', .int .u64 r1]) ∧ ∃ n, w' = w.drewN n := by
    intro w
    rw [hp', hr1]; exact div64_lo w p d d0 d1 k0 k1
  have c2 : ∀ w, Calls Try.prog 63 #[.int .u64 r1, .int .u64 q, .int .u64 d] w fun e w' => e = .returned (.tuple #[.int .u64 q', .int .u64 r]) ∧ ∃ n, w' = w.drewN n := by
    intro w
    rw [hq', hr]; exact div64_any w r1 q d r10 r11 d1 k2 k3
  have spec : Hid (SOk p' q' ∧ wv p' q' = wv p q / d ∧ r = wv p q % d ∧ 0 ≤ r ∧ r < d ∧ p' ≤ p) := by
    have e := two_words p q d d0
    have hp0 : 0 ≤ p / d := Int.ediv_nonneg k0 (by omega)
    have hp1 : p / d ≤ p := Int.ediv_le_self _ k0
    have hq0 : 0 ≤ q' := by rw [hq']; exact Int.ediv_nonneg (by omega) (by omega)
    have hq1 : q' < 18446744073709551616 := by rw [hq']; exact (Int.ediv_lt_iff_lt_mul d0).2 (by omega)
    have hr0 : 0 ≤ r := by rw [hr]; exact Int.emod_nonneg _ (by omega)
    have hr2 : r < d := by rw [hr]; exact Int.emod_lt_of_pos _ d0
    rw [← hr1, ← hq', ← hr, ← hp'] at e
    rw [← hp'] at hp0 hp1
    unfold SOk wv
    exact ⟨by omega, by omega, by omega, hr0, hr2, by omega⟩
  have C1 := Lib.hid c1
  have C2 := Lib.hid c2
  have e1 : (w.alloc (.cells #[.int .u64 p, .int .u64 q] 78)).heap.size = w.heap.size + 1 := by simp
  clear c1 c2 hp' hr1 hq' hr
  go_enter Try.func49, Try.ntmps49
  go_wp2_with fail
  refine (C1.out _).mono ?_
  rintro e w1 ⟨rfl, n1, rfl⟩
  go_wp2_with fail
  refine (C2.out _).mono ?_
  rintro e w1 ⟨rfl, n2, hw1⟩
  have kA := Lib.hid (block_old (block_new w (.cells #[.int .u64 p, .int .u64 q] 78)) (.cells #[.int .u64 0, .int .u64 0] 78))
  have kR := Lib.hid (block_new (w.alloc (.cells #[.int .u64 p, .int .u64 q] 78)) (.cells #[.int .u64 0, .int .u64 0] 78))
  have hbb : Below w.heap.size w w1 := by rw [hw1]; exact below_drewN (below_drewN (((Below.refl _ _).alloc (Nat.le_refl _) _).alloc (by rw [e1]; omega) _) _) _
  rw [e1] at kR
  have kR1 : Hid (w1.heap[w.heap.size + 1]? = some (.cells #[.int .u64 0, .int .u64 0] 78 (0, 0))) := by rw [hw1]; exact kR.out
  clear hw1 kA kR e1
  obtain ⟨b0, b1, bf0, bf1⟩ := blk2 kR1.out
  go_wp2_with fail
  refine bodyPost_ret (v := .tuple #[.agg #[.int .u64 p', .int .u64 q'], .int .u64 r]) (by simp [results, Try.results49, go_sem, b0, b1]) rfl ⟨_, _, _, rfl, spec, ?_⟩
  exact below_stored hbb (Nat.le_succ _) _ _

set_option maxRecDepth 100000 in
set_option maxHeartbeats 1000000 in
theorem next_any (w : World) (p q : Int) (k : SOk p q) (hlt : p < 18446744073709551615) :
    Calls Try.prog 51 #[.agg #[.int .u64 p, .int .u64 q]] w fun e w' => ∃ p' q', e = .returned (.agg #[.int .u64 p', .int .u64 q']) ∧
      Hid (SOk p' q' ∧ wv p' q' = wv p q + 1) ∧ Below w.heap.size w w' := by
  obtain ⟨k0, k1, k2, k3⟩ := k
  obtain ⟨q', hq'⟩ : ∃ x, x = (q + 1) % 18446744073709551616 := ⟨_, rfl⟩
  obtain ⟨cr, hcr⟩ : ∃ x, x = (q + 1) / 18446744073709551616 := ⟨_, rfl⟩
  have s0 : ∀ w, (callFunc 42 #[.int .u64 q, .int .u64 1, .int .u64 0]).run Try.prog w = .ok (.value (.tuple #[.int .u64 q', .int .u64 cr])) w := by
    intro w
    have := add64 q 1 0 k2 (by decide) k3 (by decide) (by decide) (by decide) w
    rw [show q + 1 + 0 = q + 1 by omega, ← hq', ← hcr] at this
    exact this
  have c0 : 0 ≤ cr := by omega
  have c1 : cr ≤ 1 := by omega
  have spec : Hid (SOk (p + cr) q' ∧ wv (p + cr) q' = wv p q + 1) := by
    show _ ∧ _
    unfold SOk wv
    omega
  clear hq' hcr
  go_enter Try.func51, Try.ntmps51
  go_wp2_with (simp only [s0])
  refine bodyPost_ret (v := .agg #[.int .u64 (p + cr), .int .u64 q']) (by simp [results, Try.results51, go_sem]) rfl ⟨_, _, rfl, spec, ?_⟩
  exact ((Below.refl _ _).alloc (Nat.le_refl _) _).alloc (by simp) _
end Go.Proofs.Ytjnohdkpkbiclaa
