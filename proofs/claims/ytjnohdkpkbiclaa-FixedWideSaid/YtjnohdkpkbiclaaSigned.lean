/-
  The contracts of fixed's size.signed and away. Conditions: the types' own ranges.
-/
import Derived.Test.YtjnohdkpkbiclaaFz
namespace Go.Proofs.Ytjnohdkpkbiclaa
open Go.RowKit

/-- What signed must tell of the distance n, above or below nought. -/
def Signed (n : Int) (b : Bool) (h l er : Int) : Prop :=
  (-170141183460469231731687303715884105728 ≤ (if b then -n else n) ∧ (if b then -n else n) < 170141183460469231731687303715884105728 ∧ er = 0 ∧ WOk h l ∧ wv h l = (if b then -n else n)) ∨
  (¬ (-170141183460469231731687303715884105728 ≤ (if b then -n else n) ∧ (if b then -n else n) < 170141183460469231731687303715884105728) ∧ er = 4 ∧ h = 0 ∧ l = 0)

set_option maxRecDepth 100000 in
set_option maxHeartbeats 2000000 in
theorem signed_any (w : World) (p q : Int) (b : Bool) (k : SOk p q) :
    Calls Try.prog 52 #[.agg #[.int .u64 p, .int .u64 q], .bool b] w fun e w' => ∃ h l er, e = .returned (.tuple #[.agg #[.int .i64 h, .int .u64 l], .int .i64 er]) ∧
      Hid (Signed (wv p q) b h l er) ∧ Below w.heap.size w w' := by
  obtain ⟨k0, k1, k2, k3⟩ := k
  obtain ⟨ip, hip⟩ : ∃ x, x = (p + 9223372036854775808) % 18446744073709551616 - 9223372036854775808 := ⟨_, rfl⟩
  have wi : IntKind.i64.wrap p = ip := by rw [i64_wrap, hip]
  have HIP := Lib.hid hip
  have i0 : -9223372036854775808 ≤ ip := by omega
  have i1 : ip ≤ 9223372036854775807 := by omega
  have e1 : (w.alloc (.cells #[.int .u64 p, .int .u64 q] 78)).heap.size = w.heap.size + 1 := by simp
  have e2 : ((w.alloc (.cells #[.int .u64 p, .int .u64 q] 78)).alloc (.cells #[.int .i64 0, .int .u64 0] 38)).heap.size = w.heap.size + 1 + 1 := by simp
  have E1 := Lib.hid e1
  have E2 := Lib.hid e2
  clear hip e1 e2
  cases b
  · rcases (by omega : (0 = ip ∧ 0 = q) ∨ 0 < ip ∨ (0 = ip ∧ 0 < q) ∨ ip < 0) with ⟨rfl, rfl⟩ | hp | ⟨rfl, hq⟩ | hp
    · have spec : Hid (Signed (wv p 0) false 0 0 0) := by
        show Signed _ _ _ _ _
        have hip := HIP.out
        unfold Signed WOk wv
        simp only [Bool.false_eq_true, if_false]
        left
        exact ⟨by omega, by omega, by first | rfl | trivial, ⟨by omega, by omega, by omega, by omega⟩, by omega⟩
      clear HIP 
      go_enter Try.func52, Try.ntmps52
      go_wp2
      refine bodyPost_ret (v := .tuple #[.agg #[.int .i64 0, .int .u64 0], .int .i64 0]) (by simp [results, Try.results52, go_sem]) rfl ⟨_, _, _, rfl, spec, ?_⟩
      exact (((Below.refl _ _).alloc (Nat.le_refl _) _).alloc (by simp) _).alloc (by simp; omega) _
    · have z1 : (ip == 0) = false := by simp; omega
      have z3 : ¬ ip < 0 := by omega
      have z4 : decide (ip < 0) = false := by simp; omega
      have spec : Hid (Signed (wv p q) false ip q 0) := by
        show Signed _ _ _ _ _
        have hip := HIP.out
        unfold Signed WOk wv
        simp only [Bool.false_eq_true, if_false]
        left
        exact ⟨by omega, by omega, by first | rfl | trivial, ⟨by omega, by omega, by omega, by omega⟩, by omega⟩
      clear HIP 
      go_enter Try.func52, Try.ntmps52
      go_wp2
      refine bodyPost_ret (v := .tuple #[.agg #[.int .i64 ip, .int .u64 q], .int .i64 0]) (by simp [results, Try.results52, go_sem]) rfl ⟨_, _, _, rfl, spec, ?_⟩
      exact (((Below.refl _ _).alloc (Nat.le_refl _) _).alloc (by simp) _).alloc (by simp; omega) _
    · have z2 : (q == 0) = false := by simp; omega
      have spec : Hid (Signed (wv p q) false 0 q 0) := by
        show Signed _ _ _ _ _
        have hip := HIP.out
        unfold Signed WOk wv
        simp only [Bool.false_eq_true, if_false]
        left
        exact ⟨by omega, by omega, by first | rfl | trivial, ⟨by omega, by omega, by omega, by omega⟩, by omega⟩
      clear HIP 
      go_enter Try.func52, Try.ntmps52
      go_wp2
      refine bodyPost_ret (v := .tuple #[.agg #[.int .i64 0, .int .u64 q], .int .i64 0]) (by simp [results, Try.results52, go_sem]) rfl ⟨_, _, _, rfl, spec, ?_⟩
      exact (((Below.refl _ _).alloc (Nat.le_refl _) _).alloc (by simp) _).alloc (by simp; omega) _
    · have z1 : (ip == 0) = false := by simp; omega
      have z4 : decide (ip < 0) = true := by simp; omega
      have spec : Hid (Signed (wv p q) false 0 0 4) := by
        show Signed _ _ _ _ _
        have hip := HIP.out
        unfold Signed WOk wv
        simp only [Bool.false_eq_true, if_false]
        right
        exact ⟨by omega, by first | rfl | trivial, by first | rfl | trivial, by first | rfl | trivial⟩
      clear HIP 
      go_enter Try.func52, Try.ntmps52
      go_wp2
      refine bodyPost_ret (v := .tuple #[.agg #[.int .i64 0, .int .u64 0], .int .i64 4]) (by simp [results, Try.results52, go_sem]) rfl ⟨_, _, _, rfl, spec, ?_⟩
      exact (((Below.refl _ _).alloc (Nat.le_refl _) _).alloc (by simp) _).alloc (by simp; omega) _
  · go_enter Try.func52, Try.ntmps52
    go_wp2_with fail
    refine (part_any _ 0 0 ip q ⟨by decide, by decide, by decide, by decide⟩ ⟨i0, i1, k2, k3⟩).mono ?_
    rintro e w1 ⟨h, l, rfl, HS, hb⟩
    have hbb : Below w.heap.size w w1 := ((((Below.refl _ _).alloc (Nat.le_refl _) _).alloc (by rw [E1.out]; omega) _).alloc (by rw [E2.out]; omega) _).trans (hb.mono (by simp; omega))
    have kR := Lib.hid (block_kept (block_old (block_new (w.alloc (.cells #[.int .u64 p, .int .u64 q] 78)) (.cells #[.int .i64 0, .int .u64 0] 38)) (.cells #[.int .i64 ip, .int .u64 q] 38)) hb)
    have kA := Lib.hid (block_kept (block_new ((w.alloc (.cells #[.int .u64 p, .int .u64 q] 78)).alloc (.cells #[.int .i64 0, .int .u64 0] 38)) (.cells #[.int .i64 ip, .int .u64 q] 38)) hb)
    rw [E1.out] at kR
    rw [E2.out] at kA
    obtain ⟨r0, r1, rf0, rf1⟩ := blk2 kR.out
    obtain ⟨a0, a1, af0, af1⟩ := blk2 kA.out
    clear kR kA hb
    have hl0 := HS.out.1.2.2.1
    rcases (by omega : (0 = h ∧ 0 = l) ∨ 0 < h ∨ (0 = h ∧ 0 < l) ∨ h < 0) with ⟨rfl, rfl⟩ | hp | ⟨rfl, hq⟩ | hp
    · have spec : Hid (Signed (wv p q) true 0 0 0) := by
        show Signed _ _ _ _ _
        have hip := HIP.out
        have hs := HS.out
        unfold Signed WOk wv
        unfold WOk wv w128 at hs
        simp only [if_true]
        left
        exact ⟨by omega, by omega, by first | rfl | trivial, ⟨by omega, by omega, by omega, by omega⟩, by omega⟩
      clear HIP HS
      go_wp2
      refine bodyPost_ret (v := .tuple #[.agg #[.int .i64 0, .int .u64 0], .int .i64 0]) (by simp [results, Try.results52, go_sem, r0, r1]) rfl ⟨_, _, _, rfl, spec, ?_⟩
      exact below_stored (below_stored hbb (by omega) _ _) (by omega) _ _
    · have z1 : (h == 0) = false := by simp; omega
      have z3 : ¬ h < 0 := by omega
      have z4 : decide (h < 0) = false := by simp; omega
      have spec : Hid (Signed (wv p q) true 0 0 4) := by
        show Signed _ _ _ _ _
        have hip := HIP.out
        have hs := HS.out
        unfold Signed WOk wv
        unfold WOk wv w128 at hs
        simp only [if_true]
        right
        exact ⟨by omega, by first | rfl | trivial, by first | rfl | trivial, by first | rfl | trivial⟩
      clear HIP HS
      go_wp2
      refine bodyPost_ret (v := .tuple #[.agg #[.int .i64 0, .int .u64 0], .int .i64 4]) (by simp [results, Try.results52, go_sem, r0, r1]) rfl ⟨_, _, _, rfl, spec, ?_⟩
      exact below_stored (below_stored hbb (by omega) _ _) (by omega) _ _
    · have z2 : (l == 0) = false := by simp; omega
      have spec : Hid (Signed (wv p q) true 0 0 4) := by
        show Signed _ _ _ _ _
        have hip := HIP.out
        have hs := HS.out
        unfold Signed WOk wv
        unfold WOk wv w128 at hs
        simp only [if_true]
        right
        exact ⟨by omega, by first | rfl | trivial, by first | rfl | trivial, by first | rfl | trivial⟩
      clear HIP HS
      go_wp2
      refine bodyPost_ret (v := .tuple #[.agg #[.int .i64 0, .int .u64 0], .int .i64 4]) (by simp [results, Try.results52, go_sem, r0, r1]) rfl ⟨_, _, _, rfl, spec, ?_⟩
      exact below_stored (below_stored hbb (by omega) _ _) (by omega) _ _
    · have z1 : (h == 0) = false := by simp; omega
      have z4 : decide (h < 0) = true := by simp; omega
      have spec : Hid (Signed (wv p q) true h l 0) := by
        show Signed _ _ _ _ _
        have hip := HIP.out
        have hs := HS.out
        unfold Signed WOk wv
        unfold WOk wv w128 at hs
        simp only [if_true]
        left
        exact ⟨by omega, by omega, by first | rfl | trivial, ⟨by omega, by omega, by omega, by omega⟩, by omega⟩
      clear HIP HS
      go_wp2
      refine bodyPost_ret (v := .tuple #[.agg #[.int .i64 h, .int .u64 l], .int .i64 0]) (by simp [results, Try.results52, go_sem, r0, r1]) rfl ⟨_, _, _, rfl, spec, ?_⟩
      exact below_stored (below_stored hbb (by omega) _ _) (by omega) _ _
end Go.Proofs.Ytjnohdkpkbiclaa
