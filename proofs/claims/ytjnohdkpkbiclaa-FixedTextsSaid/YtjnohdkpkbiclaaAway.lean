/-
  The contract of fixed's away: is the rounded quotient the one farther from nought? Conditions: the types' own ranges; the rest below the divisor; one of the four kinds.
-/
import Derived.Test.YtjnohdkpkbiclaaSigned
namespace Go.Proofs.Ytjnohdkpkbiclaa
open Go.RowKit

/-- Is the rounded quotient the one farther from nought? -/
def awayB (q rest d : Int) (below : Bool) (how : Int) : Bool :=
  if rest = 0 then false else if how = 0 then below else if how = 1 then !below else if how = 3 then (decide (d - rest < rest) || (decide (rest = d - rest) && decide (q % 2 = 1))) else false

set_option maxRecDepth 100000 in
set_option maxHeartbeats 1000000 in
theorem away_any (w : World) (p q rest d how : Int) (below : Bool) (k : SOk p q) (r0 : 0 ≤ rest) (r1 : rest < d) (d1 : d ≤ 18446744073709551615) (h0 : 0 ≤ how) (h3 : how ≤ 3) :
    Calls Try.prog 50 #[.agg #[.int .u64 p, .int .u64 q], .int .u64 rest, .int .u64 d, .bool below, .int .i64 how] w fun e w' => e = .returned (.bool (awayB q rest d below how)) ∧ Below w.heap.size w w' := by
  obtain ⟨k0, k1, k2, k3⟩ := k
  by_cases hr : rest = 0
  · subst hr
    have hres : Hid (awayB q 0 d below how = false) := by show _ = _; simp [awayB]
    go_enter Try.func50, Try.ntmps50
    go_wp2
    go_ret
    exact ⟨ret_bool hres.out.symm, (Below.refl _ _).alloc (Nat.le_refl _) _⟩
  have hr2 : (rest == 0) = false := by simp; exact hr
  rcases (by omega : how = 0 ∨ how = 1 ∨ how = 2 ∨ how = 3) with rfl | rfl | rfl | rfl
  · have hres : Hid (awayB q rest d below 0 = (below)) := by show _ = _; simp [awayB, hr]
    clear hr
    go_enter Try.func50, Try.ntmps50
    go_wp2
    go_ret
    exact ⟨ret_bool hres.out.symm, (Below.refl _ _).alloc (Nat.le_refl _) _⟩
  · have hres : Hid (awayB q rest d below 1 = (!below)) := by show _ = _; simp [awayB, hr]
    clear hr
    go_enter Try.func50, Try.ntmps50
    go_wp2
    go_ret
    exact ⟨ret_bool hres.out.symm, (Below.refl _ _).alloc (Nat.le_refl _) _⟩
  · have hres : Hid (awayB q rest d below 2 = (false)) := by show _ = _; simp [awayB, hr]
    clear hr
    go_enter Try.func50, Try.ntmps50
    go_wp2
    go_ret
    exact ⟨ret_bool hres.out.symm, (Below.refl _ _).alloc (Nat.le_refl _) _⟩
  · rcases (by omega : d - rest < rest ∨ rest = d - rest ∨ rest < d - rest) with hg | hg | hg
    · have hres : Hid (awayB q rest d below 3 = true) := by show _ = _; simp [awayB, hr, hg]
      clear hr
      go_enter Try.func50, Try.ntmps50
      go_wp2
      go_ret
      exact ⟨ret_bool hres.out.symm, (Below.refl _ _).alloc (Nat.le_refl _) _⟩
    · obtain ⟨l, hl⟩ : ∃ l, l = d - rest := ⟨_, rfl⟩
      have e : d = rest + rest := by omega
      subst e
      have n1 : ¬ (rest + rest - rest < rest) := by omega
      have n2 : (rest + rest - rest) = rest := by omega
      have hres : Hid (awayB q rest (rest + rest) below 3 = decide (q % 2 = 1)) := by show _ = _; simp [awayB, hr, n2]
      clear hr hg n1 n2 hl
      have q0 : 0 ≤ q % 2 := by omega
      rcases (by omega : q % 2 = 0 ∨ q % 2 = 1) with hq | hq
      · have hq2 : (q % 2 == 1) = false := by rw [hq]; rfl
        rw [hq] at hres
        have hres2 : Hid (awayB q rest (rest + rest) below 3 = false) := by show _ = _; rw [hres.out]; rfl
        clear hq hres
        go_enter Try.func50, Try.ntmps50
        go_wp2
        all_goals go_ret
        all_goals exact ⟨ret_bool hres2.out.symm, (Below.refl _ _).alloc (Nat.le_refl _) _⟩
      · have hq2 : (q % 2 == 1) = true := by rw [hq]; rfl
        rw [hq] at hres
        have hres2 : Hid (awayB q rest (rest + rest) below 3 = true) := by show _ = _; rw [hres.out]; rfl
        clear hq hres
        go_enter Try.func50, Try.ntmps50
        go_wp2
        all_goals go_ret
        all_goals exact ⟨ret_bool hres2.out.symm, (Below.refl _ _).alloc (Nat.le_refl _) _⟩
    · have n1 : ¬ (d - rest < rest) := by omega
      have n2 : ¬ (rest = d - rest) := by omega
      have hres : Hid (awayB q rest d below 3 = false) := by show _ = _; simp [awayB, hr, n1, n2]
      have n3 : (rest == d - rest) = false := by simp; exact n2
      clear hr n2
      go_enter Try.func50, Try.ntmps50
      go_wp2
      go_ret
      exact ⟨ret_bool hres.out.symm, (Below.refl _ _).alloc (Nat.le_refl _) _⟩
end Go.Proofs.Ytjnohdkpkbiclaa
