/-
  The contract of fixed's Divide. Conditions: the types' own ranges.
-/
import Derived.Test.YtjnohdkpkbiclaaAway
namespace Go.Proofs.Ytjnohdkpkbiclaa
open Go.RowKit

/-- What Divide must tell of a by d, where d is not nought and the kind is one of the four. -/
def DivSpec (a d how h l er : Int) : Prop :=
  ∃ q n : Int, q % 2 = ((a.natAbs : Int) / d.natAbs) % 2 ∧ n = (a.natAbs : Int) / d.natAbs + (if awayB q ((a.natAbs : Int) % d.natAbs) d.natAbs (!(decide (a < 0) == decide (d < 0))) how then 1 else 0) ∧
    Signed n (!(decide (a < 0) == decide (d < 0))) h l er

theorem fld_lo (p q : Int) (w : World) : (Instr.field 78 (.agg #[.int .u64 p, .int .u64 q]) 1).run Try.prog w = .ok (.int .u64 q) w := by kernel_rfl

set_option maxRecDepth 100000 in
set_option maxHeartbeats 1000000 in
theorem divide_bad (w : World) (a b d how : Int) (hb : d = 0 ∨ how < 0 ∨ 3 < how) :
    Calls Try.prog 29 #[.agg #[.int .i64 a, .int .u64 b], .int .i64 d, .int .i64 how] w fun e w' => e = .returned (.tuple #[.agg #[.int .i64 0, .int .u64 0], .int .i64 1]) ∧ Below w.heap.size w w' := by
  rcases (by omega : d = 0 ∨ (d ≠ 0 ∧ how < 0) ∨ (d ≠ 0 ∧ ¬ how < 0 ∧ 3 < how)) with rfl | ⟨hd, hh⟩ | ⟨hd, hh, hg⟩
  · go_enter Try.func29, Try.ntmps29
    go_wp2
    refine bodyPost_ret (v := .tuple #[.agg #[.int .i64 0, .int .u64 0], .int .i64 1]) (by simp [results, Try.results29, go_sem]) rfl ⟨rfl, ?_⟩
    exact ((Below.refl _ _).alloc (Nat.le_refl _) _).alloc (by simp) _
  · have h1 : (d == 0) = false := by simp; exact hd
    clear hd hb
    go_enter Try.func29, Try.ntmps29
    go_wp2
    refine bodyPost_ret (v := .tuple #[.agg #[.int .i64 0, .int .u64 0], .int .i64 1]) (by simp [results, Try.results29, go_sem]) rfl ⟨rfl, ?_⟩
    exact ((Below.refl _ _).alloc (Nat.le_refl _) _).alloc (by simp) _
  · have h1 : (d == 0) = false := by simp; exact hd
    clear hd hb
    go_enter Try.func29, Try.ntmps29
    go_wp2
    refine bodyPost_ret (v := .tuple #[.agg #[.int .i64 0, .int .u64 0], .int .i64 1]) (by simp [results, Try.results29, go_sem]) rfl ⟨rfl, ?_⟩
    exact ((Below.refl _ _).alloc (Nat.le_refl _) _).alloc (by simp) _

set_option maxRecDepth 100000 in
set_option maxHeartbeats 2000000 in
theorem divide_good (w : World) (a b d how : Int) (k : WOk a b) (hd : d ≠ 0) (d0 : -9223372036854775808 ≤ d) (d1 : d ≤ 9223372036854775807) (h0 : 0 ≤ how) (h3 : how ≤ 3) :
    Calls Try.prog 29 #[.agg #[.int .i64 a, .int .u64 b], .int .i64 d, .int .i64 how] w fun e w' => ∃ h l er, e = .returned (.tuple #[.agg #[.int .i64 h, .int .u64 l], .int .i64 er]) ∧
      Hid (DivSpec (wv a b) d how h l er) ∧ Below w.heap.size w w' := by
  have hd2 : (d == 0) = false := by simp; exact hd
  have hfl := fld_lo
  have K := Lib.hid k
  have e1 := Lib.hid (show (w.alloc (.cells #[.int .i64 a, .int .u64 b] 38)).heap.size = w.heap.size + 1 by simp)
  have HD := Lib.hid hd
  have od := of_ok d0 d1
  obtain ⟨dh, hdh⟩ : ∃ x, d / 9223372036854775808 = x := ⟨_, rfl⟩
  obtain ⟨dl, hdl⟩ : ∃ x, d % 18446744073709551616 = x := ⟨_, rfl⟩
  rw [hdh, hdl] at od
  have OD := Lib.hid od
  have HDH := Lib.hid hdh
  have HDL := Lib.hid hdl
  have sg : Hid ((decide (wv a b < 0)) = decide (a < 0)) := by
    show _ = _
    obtain ⟨k0, k1, k2, k3⟩ := k
    unfold wv
    by_cases h : a < 0
    · rw [decide_eq_true h, decide_eq_true (by omega)]
    · rw [decide_eq_false h, decide_eq_false (by omega)]
  clear hd od hdh hdl k
  go_enter Try.func29, Try.ntmps29
  go_wp2_with fail
  refine (of_any _ d dh dl d0 d1 HDH.out HDL.out).mono ?_
  rintro e w1 ⟨rfl, b1⟩
  have B1 := Lib.hid b1
  clear b1
  go_wp2_with fail
  refine (sizeOf_any _ dh dl OD.out.1).mono ?_
  rintro e w2 ⟨p, q, rfl, hs, b2⟩
  have hs2 : Hid (p = 0 ∧ q = d.natAbs ∧ 0 < q ∧ q ≤ 9223372036854775808) := by
    obtain ⟨h1, h2⟩ := hs.out
    rw [OD.out.2] at h2
    have := HD.out
    unfold SOk at h1
    unfold wv at h2
    show _ ∧ _
    omega
  have B2 := Lib.hid b2
  have q0 := hs2.out.2.2.1
  have q1 := hs2.out.2.2.2
  have kA := block_kept (block_kept (block_old (block_new w (.cells #[.int .i64 a, .int .u64 b] 38)) (.cells #[.int .i64 0, .int .u64 0] 38)) B1.out) b2
  obtain ⟨a0, a1, _, _⟩ := blk2 kA
  have KA := Lib.hid kA
  have kR := block_kept (block_kept (block_new (w.alloc (.cells #[.int .i64 a, .int .u64 b] 38)) (.cells #[.int .i64 0, .int .u64 0] 38)) B1.out) b2
  rw [e1.out] at kR
  have KR := Lib.hid kR
  clear b2 kA kR hs
  go_wp2_with fail
  refine (sizeOf_any _ a b K.out).mono ?_
  rintro e w3 ⟨p2, q2, rfl, hs, b3⟩
  have B3 := Lib.hid b3
  have HS3 := Lib.hid hs
  clear b3 hs
  go_wp2_with fail
  refine (sdivide_any _ p2 q2 q HS3.out.out.1 q0 (by omega)).mono ?_
  rintro e w4 ⟨p3, q3, r3, rfl, hs, b4⟩
  have B4 := Lib.hid b4
  have HS4 := Lib.hid hs
  have kA2 := block_kept (block_kept KA.out B3.out) b4
  obtain ⟨a0', a1', _, _⟩ := blk2 kA2
  have KA2 := Lib.hid kA2
  have hsz1 : w.heap.size + 1 + 1 ≤ w2.heap.size := by
    have g1 := B1.out.size
    have g2 := B2.out.size
    simp only [World.size_alloc] at g1
    omega
  have hsz : w.heap.size + 1 < w4.heap.size := by
    have g3 := B3.out.size
    have g4 := B4.out.size
    omega
  have hsz0 : w.heap.size < w4.heap.size := by omega
  clear b4 hs a0 a1 kA2
  go_wp2_with fail
  have HNE : Hid (w.heap.size + 1 ≠ w4.heap.size) := by show _ ≠ _; omega
  have HLE : Hid (w.heap.size ≤ w4.heap.size) := by show _ ≤ _; omega
  obtain ⟨bl, hbl⟩ : ∃ x : Bool, x = (!(decide (a < 0) == decide (d < 0))) := ⟨_, rfl⟩
  rw [← hbl]
  obtain ⟨c, hc⟩ : ∃ c, c = awayB q3 r3 q bl how := ⟨_, rfl⟩
  refine (away_any _ p3 q3 r3 q how bl HS4.out.out.1 HS4.out.out.2.2.2.1 HS4.out.out.2.2.2.2.1 (by omega) h0 h3).mono ?_
  rw [← hc]
  rintro e w5 ⟨rfl, b5⟩
  have B5 := Lib.hid b5
  have kQ := block_kept (block_new w4 (.cells #[.int .u64 p3, .int .u64 q3] 78)) b5
  have kR5 := block_kept (block_old (block_kept (block_kept KR.out B3.out) B4.out) (.cells #[.int .u64 p3, .int .u64 q3] 78)) b5
  have hs5 : w4.heap.size < w5.heap.size := by have := b5.size; simp only [World.size_alloc] at this; omega
  obtain ⟨m0, m1, mf0, mf1⟩ := blk2 kQ
  have KQ := Lib.hid kQ
  have KR5 := Lib.hid kR5
  have hbb : Below w.heap.size w w5 := by
    have g2 : Below w.heap.size w w2 := ((((Below.refl _ _).alloc (Nat.le_refl _) _).alloc (by rw [e1.out]; omega) _).trans (B1.out.mono (by simp only [World.size_alloc]; omega))).trans (B2.out.mono (by have := B1.out.size; simp only [World.size_alloc] at this; omega))
    have g4 : Below w.heap.size w w4 := (g2.trans (B3.out.mono (by omega))).trans (B4.out.mono (by have := B3.out.size; omega))
    exact (g4.alloc (by omega) _).trans (b5.mono (by simp only [World.size_alloc]; omega))
  have HBB := Lib.hid hbb
  have HBL := Lib.hid hbl
  have HC := Lib.hid hc
  have hp3 : p3 < 18446744073709551615 := by
    have g := HS4.out.out.2.2.2.2.2
    have g2 := HS3.out.out
    have g3 := K.out
    unfold SOk wv at g2
    unfold WOk at g3
    omega
  have fin : Hid (∀ n h l er, n = wv p3 q3 + (if c = true then 1 else 0) → Signed n bl h l er → DivSpec (wv a b) d how h l er) := by
    intro n h l er hn hsg
    refine ⟨q3, n, ?_, ?_, ?_⟩
    · have g := HS4.out.out.2.1
      rw [HS3.out.out.2, hs2.out.2.1] at g
      rw [← g]; unfold wv; omega
    · have g := HS4.out.out.2.1
      have g2 := HS4.out.out.2.2.1
      rw [HS3.out.out.2, hs2.out.2.1] at g g2
      rw [hn, g, HC.out, sg.out, HBL.out, g2, hs2.out.2.1]
    · rw [sg.out, ← HBL.out]; exact hsg
  clear kQ kR5 b5 hbl hc hbb a0' a1' hsz hsz0 hsz1
  cases c
  · go_wp2_with fail
    refine (signed_any _ p3 q3 bl HS4.out.out.1).mono ?_
    rintro e w6 ⟨h, l, er, rfl, hsp, b6⟩
    have kR6 := block_kept KR5.out b6
    obtain ⟨x0, x1, xf0, xf1⟩ := blk2 kR6
    have hb6 : Below w.heap.size w w6 := HBB.out.trans (b6.mono HBB.out.size)
    have HB6 := Lib.hid hb6
    have spec : Hid (DivSpec (wv a b) d how h l er) := fin.out _ _ _ _ (by simp) hsp.out
    clear kR6 b6 hb6 hsp fin
    go_wp2_with fail
    refine bodyPost_ret (v := .tuple #[.agg #[.int .i64 h, .int .u64 l], .int .i64 er]) (by simp [results, Try.results29, go_sem, x0, x1]) rfl ⟨_, _, _, rfl, spec, ?_⟩
    exact below_stored HB6.out (by omega) _ _
  · go_wp2_with fail
    refine (next_any _ p3 q3 HS4.out.out.1 hp3).mono ?_
    rintro e w6 ⟨p5, q5, rfl, hnx, b6⟩
    have kQ6 := block_kept KQ.out b6
    have kR6 := block_kept KR5.out b6
    obtain ⟨m0', m1', mf0', mf1'⟩ := blk2 kQ6
    have hb6 : Below w.heap.size w w6 := HBB.out.trans (b6.mono HBB.out.size)
    have HB6 := Lib.hid hb6
    have HNX := Lib.hid hnx
    have KR6 := Lib.hid kR6
    have hs6 : w4.heap.size < w6.heap.size := by have := b6.size; omega
    clear kQ6 kR6 b6 hb6 m0 m1 mf0 mf1 hnx
    go_wp2_with fail
    refine (signed_any _ p5 q5 bl HNX.out.out.1).mono ?_
    rintro e w7 ⟨h, l, er, rfl, hsp, b7⟩
    have kR7 := block_kept (block_set (block_set KR6.out (p := ⟨w4.heap.size, 0, none⟩) HNE.out _) (p := ⟨w4.heap.size, 1, none⟩) HNE.out _) b7
    obtain ⟨x0, x1, xf0, xf1⟩ := blk2 kR7
    have hb7 : Below w.heap.size w w7 := (below_stored HB6.out HLE.out _ _).trans (b7.mono (by simp only [size_setCell]; exact HB6.out.size))
    have HB7 := Lib.hid hb7
    have spec : Hid (DivSpec (wv a b) d how h l er) := fin.out _ _ _ _ (by rw [HNX.out.out.2]; simp) hsp.out
    clear kR7 b7 hb7 hsp fin
    go_wp2_with fail
    refine bodyPost_ret (v := .tuple #[.agg #[.int .i64 h, .int .u64 l], .int .i64 er]) (by simp [results, Try.results29, go_sem, x0, x1]) rfl ⟨_, _, _, rfl, spec, ?_⟩
    exact below_stored HB7.out (by omega) _ _
end Go.Proofs.Ytjnohdkpkbiclaa
