/-
  The contracts of fixed's Of, sizeOf, size.divide, size.next, size.signed. Conditions: the types' own ranges.
-/
import Derived.Test.YtjnohdkpkbiclaaFx
namespace Go.Proofs.Ytjnohdkpkbiclaa
open Go.RowKit

set_option maxRecDepth 100000 in
set_option maxHeartbeats 1000000 in
theorem of_any (w : World) (a h l : Int) (_a0 : -9223372036854775808 ≤ a) (_a1 : a ≤ 9223372036854775807) (hh : a / 9223372036854775808 = h) (hl : a % 18446744073709551616 = l) :
    Calls Try.prog 25 #[.int .i64 a] w fun e w' => e = .returned (.agg #[.int .i64 h, .int .u64 l]) ∧ Below w.heap.size w w' := by
  have wl : IntKind.u64.wrap a = l := by rw [u64_wrap, hl]
  clear hl
  go_enter Try.func25, Try.ntmps25
  go_wp2
  refine bodyPost_ret (v := .agg #[.int .i64 h, .int .u64 l]) (by simp [results, Try.results25, go_sem]) rfl ⟨rfl, ?_⟩
  exact (Below.refl _ _).alloc (Nat.le_refl _) _
theorem of_ok {a : Int} (a0 : -9223372036854775808 ≤ a) (a1 : a ≤ 9223372036854775807) : WOk (a / 9223372036854775808) (a % 18446744073709551616) ∧ wv (a / 9223372036854775808) (a % 18446744073709551616) = a := by
  unfold WOk wv; omega
theorem wv_inj {h l h' l' : Int} (k : WOk h l) (k' : WOk h' l') (e : wv h l = wv h' l') : h = h' ∧ l = l' := by
  unfold WOk at k k'; unfold wv at e; omega

/-- Two words of a distance. -/
def SOk (p q : Int) : Prop := 0 ≤ p ∧ p ≤ 18446744073709551615 ∧ 0 ≤ q ∧ q ≤ 18446744073709551615

set_option maxRecDepth 100000 in
set_option maxHeartbeats 1000000 in
theorem sizeOf_any (w : World) (h l : Int) (k : WOk h l) :
    Calls Try.prog 48 #[.agg #[.int .i64 h, .int .u64 l]] w fun e w' => ∃ p q, e = .returned (.agg #[.int .u64 p, .int .u64 q]) ∧ Hid (SOk p q ∧ wv p q = (wv h l).natAbs) ∧ Below w.heap.size w w' := by
  have e1 : (w.alloc (.cells #[.int .i64 h, .int .u64 l] 38)).heap.size = w.heap.size + 1 := by simp
  obtain ⟨k0, k1, k2, k3⟩ := k
  by_cases hn : h < 0
  · go_enter Try.func48, Try.ntmps48
    go_wp2_with fail
    refine (part_any _ 0 0 h l ⟨by decide, by decide, by decide, by decide⟩ ⟨k0, k1, k2, k3⟩).mono ?_
    rintro e w1 ⟨p, q, rfl, hs, hb⟩
    obtain ⟨W1, hW1⟩ : ∃ W1, W1 = w1 := ⟨_, rfl⟩
    have kA := Lib.hid (block_kept (block_old (block_new w (.cells #[.int .i64 h, .int .u64 l] 38)) (.cells #[.int .u64 0, .int .u64 0] 78)) hb)
    have kR := Lib.hid (block_kept (block_new (w.alloc (.cells #[.int .i64 h, .int .u64 l] 38)) (.cells #[.int .u64 0, .int .u64 0] 78)) hb)
    rw [e1] at kR
    obtain ⟨a0, a1, af0, af1⟩ := blk2 kA.out
    obtain ⟨r0, r1, rf0, rf1⟩ := blk2 kR.out
    have hs2 := hs.out
    unfold WOk wv w128 at hs2
    obtain ⟨⟨p0, p1, q0, q1⟩, hs3⟩ := hs2
    obtain ⟨pu, hpu⟩ : ∃ x, x = p % 18446744073709551616 := ⟨_, rfl⟩
    have wp : IntKind.u64.wrap p = pu := by rw [u64_wrap, hpu]
    have spec : Hid (SOk pu q ∧ wv pu q = (wv h l).natAbs) := by
      show _ ∧ _
      unfold SOk wv
      omega
    clear hs3 hpu hs
    go_wp2
    refine bodyPost_ret (v := .agg #[.int .u64 pu, .int .u64 q]) (by simp [results, Try.results48, go_sem, r0, r1]) rfl ⟨_, _, rfl, spec, ?_⟩
    have hbb : Below w.heap.size w w1 := (((Below.refl _ _).alloc (Nat.le_refl _) _).alloc (by rw [e1]; omega) _).trans (hb.mono (by simp; omega))
    exact below_stored (below_stored hbb (Nat.le_refl _) _ _) (Nat.le_succ _) _ _
  · obtain ⟨pu, hpu⟩ : ∃ x, x = h % 18446744073709551616 := ⟨_, rfl⟩
    have wp : IntKind.u64.wrap h = pu := by rw [u64_wrap, hpu]
    have spec : Hid (SOk pu l ∧ wv pu l = (wv h l).natAbs) := by
      show _ ∧ _
      unfold SOk wv
      omega
    clear hpu
    go_enter Try.func48, Try.ntmps48
    go_wp2
    refine bodyPost_ret (v := .agg #[.int .u64 pu, .int .u64 l]) (by simp [results, Try.results48, go_sem]) rfl ⟨_, _, rfl, spec, ?_⟩
    exact ((Below.refl _ _).alloc (Nat.le_refl _) _).alloc (by rw [e1]; omega) _
end Go.Proofs.Ytjnohdkpkbiclaa
