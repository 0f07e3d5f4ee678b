/-
  The contract of Check, in parts: where the table of kinds is read. Conditions: the table of kinds lies as the program's text lays it; names of at most 100000 bytes, at most a thousand rows.
-/
import Derived.Test.YteahloddjekakaaDoorNM7
namespace Go.Proofs.YteahloddjekakaaDoor.Nt
open Go.RowKit Td

set_option maxRecDepth 100000 in
set_option maxHeartbeats 8000000 in
theorem check_c (w : World) (hk : KinC w) (x : Nt) (A : Option Addr) (n c : Nat) (l : List Rw) (hl : Hid (RR w A l)) (hn : Hid (n = l.length)) (hs : Hid (SmN x l)) {r : Int} (m : Nat) (hm : x.k = (m : Int)) (h1 : 1 ≤ m) (h2 : m ≤ 12) (hr2 : r = if fitB m x n = true then orL (errL m x l) else 1) (H4 : ka m = false) (H0 : kp m = true) (HP : decide (0 ≤ x.p) = false) :
    Calls Tryd.prog 10 #[.agg #[.int .i64 x.k, .int .i64 x.p, .int .i64 x.d, .int .i64 x.t.n, .string x.t.b, .string x.t.s, .string x.t.i, .int .i64 x.t.q, .int .i64 x.t.p, .string x.n, .int .i64 x.a, .slice A n c, .int .i64 x.hi, .int .u64 x.lo]] w fun e w' => e = .returned (.int .i64 r) ∧ Below w.heap.size w w' := by
  have E1 := block_new w (.cells #[.int .i64 x.k, .int .i64 x.p, .int .i64 x.d, .int .i64 x.t.n, .string x.t.b, .string x.t.s, .string x.t.i, .int .i64 x.t.q, .int .i64 x.t.p, .string x.n, .int .i64 x.a, .slice A n c, .int .i64 x.hi, .int .u64 x.lo] 33)
  have HB0 : Hid (Below w.heap.size w (w.alloc (.cells #[.int .i64 x.k, .int .i64 x.p, .int .i64 x.d, .int .i64 x.t.n, .string x.t.b, .string x.t.s, .string x.t.i, .int .i64 x.t.q, .int .i64 x.t.p, .string x.n, .int .i64 x.a, .slice A n c, .int .i64 x.hi, .int .u64 x.lo] 33))) := (Below.refl _ _).alloc (Nat.le_refl _) _
  · have HI := Lib.hid fun W => isKind_any W x.k (show Hid (true = isK x.k) by show _ = _; rw [hm, isK_nat h1 h2])
    have hk0 := hk.alloc (.cells #[.int .i64 x.k, .int .i64 x.p, .int .i64 x.d, .int .i64 x.t.n, .string x.t.b, .string x.t.s, .string x.t.i, .int .i64 x.t.q, .int .i64 x.t.p, .string x.n, .int .i64 x.a, .slice A n c, .int .i64 x.hi, .int .u64 x.lo] 33)
    obtain ⟨k0, k1, k2, k3, k4, k5, k6, k7⟩ := hk0.2 m h2
    clear k0
    have hand := fun (W : World) q0 q1 q2 q3 q4 q5 q6 e0 e1 e2 e3 e4 e5 e6 => and_any W m h1 h2 x A n c q0 q1 q2 q3 q4 q5 q6 e0 e1 e2 e3 e4 e5 e6
    unfold fitB errL at hr2
    obtain ⟨b0, hb0⟩ : ∃ b, b = kp m := ⟨_, rfl⟩
    obtain ⟨b1, hb1⟩ : ∃ b, b = kd m := ⟨_, rfl⟩
    obtain ⟨b2, hb2⟩ : ∃ b, b = kt m := ⟨_, rfl⟩
    obtain ⟨b3, hb3⟩ : ∃ b, b = kn m := ⟨_, rfl⟩
    obtain ⟨b4, hb4⟩ : ∃ b, b = ka m := ⟨_, rfl⟩
    obtain ⟨b5, hb5⟩ : ∃ b, b = kr m := ⟨_, rfl⟩
    obtain ⟨b6, hb6⟩ : ∃ b, b = kc m := ⟨_, rfl⟩
    rw [← hb0, ← hb1, ← hb2, ← hb3, ← hb4, ← hb5, ← hb6] at hr2
    rw [← hb0] at k1
    rw [← hb1] at k2
    rw [← hb2] at k3
    rw [← hb3] at k4
    rw [← hb4] at k5
    rw [← hb5] at k6
    rw [← hb6] at k7
    simp only [← hb0, ← hb1, ← hb2, ← hb3, ← hb4, ← hb5, ← hb6] at hand
    obtain ⟨q0, hq0⟩ : ∃ q, q = (b0 || (x.p != 0)) := ⟨_, rfl⟩
    obtain ⟨q1, hq1⟩ : ∃ q, q = (b1 || (x.d != 0)) := ⟨_, rfl⟩
    obtain ⟨q2, hq2⟩ : ∃ q, q = (b2 || hasT x) := ⟨_, rfl⟩
    obtain ⟨q3, hq3⟩ : ∃ q, q = (b3 || !x.n.toList.isEmpty) := ⟨_, rfl⟩
    obtain ⟨q4, hq4⟩ : ∃ q, q = (b4 || (x.a != 0)) := ⟨_, rfl⟩
    obtain ⟨q5, hq5⟩ : ∃ q, q = (b5 || decide (0 < n)) := ⟨_, rfl⟩
    obtain ⟨q6, hq6⟩ : ∃ q, q = (b6 || hasC x) := ⟨_, rfl⟩
    rw [← hq0, ← hq1, ← hq2, ← hq3, ← hq4, ← hq5, ← hq6] at hr2
    have HAND := Lib.hid fun W => hand W q0 q1 q2 q3 q4 q5 q6 hq0 hq1 hq2 hq3 hq4 hq5 hq6
    obtain ⟨s, hsq⟩ : ∃ s, s = ((q0 == b0) && ((q1 == b1) && ((q2 == b2) && ((q3 == b3) && ((q4 == b4) && ((q5 == b5) && ((q6 == b6) && true))))))) := ⟨_, rfl⟩
    have hE : ∀ W, (Op.equalIn 10000 62 (.agg #[.bool q0, .bool q1, .bool q2, .bool q3, .bool q4, .bool q5, .bool q6]) (.agg #[.bool b0, .bool b1, .bool b2, .bool b3, .bool b4, .bool b5, .bool b6])).run Tryd.prog W = .ok s W := fun W => by rw [hsq]; exact q_parts _ _ _ _ _ _ _ _ _ _ _ _ _ _ _ W
    rw [← hsq] at hr2
    have HR2 := Lib.hid hr2
    have HL := Lib.hid (hl.out.below HB0.out)
    have HK := Lib.hid hk0
    have hm13 : (m : Int) < 13 := by omega
    have hm0 : (0 : Int) ≤ (m : Int) := by omega
    have HM := Lib.hid hm
    have HC4 : Hid (b4 = true → b0 = false ∧ b1 = false) := fun h => by rw [hb4] at h; rw [hb0, hb1]; exact ka_only m h
    rw [← hb4] at H4; replace H4 := Lib.hid H4; rw [← hb0] at H0; replace H0 := Lib.hid H0; replace HP := Lib.hid HP
    clear hand hq0 hq1 hq2 hq3 hq4 hq5 hq6 hb0 hb1 hb2 hb3 hb4 hb5 hb6 hsq hr2 hk hk0 hl h1 h2 hm
    go_enter Tryd.func10, Tryd.ntmps10
    go_upto_region 1 with fail
    generalize w.alloc _ = W0 at E1 HB0 HL HK k1 k2 k3 k4 k5 k6 k7 ⊢
    have x0 : W0.cell? ⟨w.heap.size, 0, none⟩ = some (.int .i64 (m : Int)) := by rw [← HM.out]; exact (blk14 E1).1.1
    rw [HM.out] at HI
    have HE1 := Lib.hid E1
    clear E1
    have k2' : W0.cell? ⟨0, m * 8 + 1 + 1, none⟩ = some (.bool b1) := k2
    have k3' : W0.cell? ⟨0, m * 8 + 1 + 2, none⟩ = some (.bool b2) := k3
    have k4' : W0.cell? ⟨0, m * 8 + 1 + 3, none⟩ = some (.bool b3) := k4
    have k5' : W0.cell? ⟨0, m * 8 + 1 + 4, none⟩ = some (.bool b4) := k5
    have k6' : W0.cell? ⟨0, m * 8 + 1 + 5, none⟩ = some (.bool b5) := k6
    have k7' : W0.cell? ⟨0, m * 8 + 1 + 6, none⟩ = some (.bool b6) := k7
    clear k2 k3 k4 k5 k6 k7
    go_upto_region 4 with (go_at_call 25; (with_reducible refine (HI.out _).mono ?_); rintro e w1 ⟨rfl, rfl⟩)
    have E2 := block_old HE1.out (.cells #[.bool b0, .bool b1, .bool b2, .bool b3, .bool b4, .bool b5, .bool b6] 62)
    have E3 := block_new W0 (.cells #[.bool b0, .bool b1, .bool b2, .bool b3, .bool b4, .bool b5, .bool b6] 62)
    have HBW : Below W0.heap.size W0 (W0.alloc (.cells #[.bool b0, .bool b1, .bool b2, .bool b3, .bool b4, .bool b5, .bool b6] 62)) := (Below.refl _ _).alloc (Nat.le_refl _) _
    have HB1 : Hid (Below w.heap.size w (W0.alloc (.cells #[.bool b0, .bool b1, .bool b2, .bool b3, .bool b4, .bool b5, .bool b6] 62))) := HB0.out.alloc HB0.out.size _
    have HL1 := Lib.hid (HL.out.below HBW)
    clear k1 k2' k3' k4' k5' k6' k7' x0 HK HBW HL HE1 HI hm13 hm0
    obtain ⟨g, hg⟩ : ∃ g, g = W0.heap.size := ⟨_, rfl⟩
    rw [← hg] at E3 ⊢
    generalize W0.alloc _ = W1 at E2 E3 HB1 HL1 ⊢
    clear hg HB0 W0
    have X := blk14 E2
    have Y := blk7 E3
    have x0 : ∀ p : InW W1, p.val.cell? ⟨w.heap.size, 0, none⟩ = some (.int .i64 x.k) := fun p => p.cell X.1.1
    have x1 : ∀ p : InW W1, p.val.cell? ⟨w.heap.size, 1, none⟩ = some (.int .i64 x.p) := fun p => p.cell X.1.2.1
    have x2 : ∀ p : InW W1, p.val.cell? ⟨w.heap.size, 2, none⟩ = some (.int .i64 x.d) := fun p => p.cell X.1.2.2.1
    have x3 : ∀ p : InW W1, p.val.cell? ⟨w.heap.size, 3, none⟩ = some (.int .i64 x.t.n) := fun p => p.cell X.1.2.2.2.1
    have x4 : ∀ p : InW W1, p.val.cell? ⟨w.heap.size, 4, none⟩ = some (.string x.t.b) := fun p => p.cell X.1.2.2.2.2.1
    have x5 : ∀ p : InW W1, p.val.cell? ⟨w.heap.size, 5, none⟩ = some (.string x.t.s) := fun p => p.cell X.1.2.2.2.2.2.1
    have x6 : ∀ p : InW W1, p.val.cell? ⟨w.heap.size, 6, none⟩ = some (.string x.t.i) := fun p => p.cell X.1.2.2.2.2.2.2
    have x7 : ∀ p : InW W1, p.val.cell? ⟨w.heap.size, 7, none⟩ = some (.int .i64 x.t.q) := fun p => p.cell X.2.1
    have x8 : ∀ p : InW W1, p.val.cell? ⟨w.heap.size, 8, none⟩ = some (.int .i64 x.t.p) := fun p => p.cell X.2.2.1
    have x9 : ∀ p : InW W1, p.val.cell? ⟨w.heap.size, 9, none⟩ = some (.string x.n) := fun p => p.cell X.2.2.2.1
    have x10 : ∀ p : InW W1, p.val.cell? ⟨w.heap.size, 10, none⟩ = some (.int .i64 x.a) := fun p => p.cell X.2.2.2.2.1
    have x11 : ∀ p : InW W1, p.val.cell? ⟨w.heap.size, 11, none⟩ = some (.slice A n c) := fun p => p.cell X.2.2.2.2.2.1
    have x12 : ∀ p : InW W1, p.val.cell? ⟨w.heap.size, 12, none⟩ = some (.int .i64 x.hi) := fun p => p.cell X.2.2.2.2.2.2.1
    have x13 : ∀ p : InW W1, p.val.cell? ⟨w.heap.size, 13, none⟩ = some (.int .u64 x.lo) := fun p => p.cell X.2.2.2.2.2.2.2
    have y0 : ∀ p : InW W1, p.val.cell? ⟨g, 0, none⟩ = some (.bool b0) := fun p => p.cell Y.1
    have y1 : ∀ p : InW W1, p.val.cell? ⟨g, 1, none⟩ = some (.bool b1) := fun p => p.cell Y.2.1
    have y2 : ∀ p : InW W1, p.val.cell? ⟨g, 2, none⟩ = some (.bool b2) := fun p => p.cell Y.2.2.1
    have y3 : ∀ p : InW W1, p.val.cell? ⟨g, 3, none⟩ = some (.bool b3) := fun p => p.cell Y.2.2.2.1
    have y4 : ∀ p : InW W1, p.val.cell? ⟨g, 4, none⟩ = some (.bool b4) := fun p => p.cell Y.2.2.2.2.1
    have y5 : ∀ p : InW W1, p.val.cell? ⟨g, 5, none⟩ = some (.bool b5) := fun p => p.cell Y.2.2.2.2.2.1
    have y6 : ∀ p : InW W1, p.val.cell? ⟨g, 6, none⟩ = some (.bool b6) := fun p => p.cell Y.2.2.2.2.2.2
    clear X Y
    have HE2 := Lib.hid E2
    have HE3 := Lib.hid E3
    have CA : Hid (∀ p : InW W1, Calls Tryd.prog 26 #[.agg #[.bool b0, .bool b1, .bool b2, .bool b3, .bool b4, .bool b5, .bool b6], .agg #[.int .i64 x.k, .int .i64 x.p, .int .i64 x.d, .int .i64 x.t.n, .string x.t.b, .string x.t.s, .string x.t.i, .int .i64 x.t.q, .int .i64 x.t.p, .string x.n, .int .i64 x.a, .slice A n c, .int .i64 x.hi, .int .u64 x.lo]] p.val fun e w' => e = .returned (.agg #[.bool q0, .bool q1, .bool q2, .bool q3, .bool q4, .bool q5, .bool q6]) ∧ ∃ q : InW W1, w' = q.val) := fun p => calls_in (HAND.out p.val)
    clear E2 E3 HAND
    refine wp_region_below (W := W1) (by kernel_rfl) (by kernel_rfl) (Below.refl _ _) ?_
    repeat (go_big_quiet_step ((go_at_call 26; (with_reducible exact CA.out _))))
    refine wpQuiet_nil ?_
    rintro _ ⟨q2, rfl⟩
    obtain ⟨W2, hb2⟩ := q2
    clear x0 x1 x2 x3 x4 x5 x6 x7 x8 x9 x10 x11 x12 x13 y0 y1 y2 y3 y4 y5 y6 CA hE
    try dsimp only
    cases s
    · obtain rfl : r = 1 := HR2.out
      go_wp2
      go_ret
      exact ⟨rfl, HB1.out.trans (hb2.mono HB1.out.size)⟩
    · go_upto_region 6 with fail
      have HB2 := Lib.hid (HB1.out.trans (hb2.mono HB1.out.size))
      have HL2 := Lib.hid (HL1.out.below hb2)
      have E2 := block_kept HE2.out hb2
      have E3 := block_kept HE3.out hb2
      clear HE2 HE3 HB1 HL1 hb2
      obtain ⟨z0, hz0⟩ : ∃ z, z = unl (!b0 || pOk x) 5 := ⟨_, rfl⟩
      obtain ⟨z1, hz1⟩ : ∃ z, z = unl (!b1 || dOk x) 2 := ⟨_, rfl⟩
      obtain ⟨z2, hz2⟩ : ∃ z, z = if b2 = true then chk x.t else 0 := ⟨_, rfl⟩
      obtain ⟨z3, hz3⟩ : ∃ z, z = if b3 = true then nameN x else 0 := ⟨_, rfl⟩
      obtain ⟨z4, hz4⟩ : ∃ z, z = unl (!b4 || amtB x) 2 := ⟨_, rfl⟩
      obtain ⟨z5, hz5⟩ : ∃ z, z = rowsE x.k l := ⟨_, rfl⟩
      obtain ⟨am, ham⟩ : ∃ z, z = amtB x := ⟨_, rfl⟩
      obtain ⟨p1, hp1⟩ : ∃ z, z = decide (0 ≤ x.p) := ⟨_, rfl⟩
      obtain ⟨p2, hp2⟩ : ∃ z, z = decide (x.p < 3) := ⟨_, rfl⟩
      obtain ⟨d1, hd1⟩ : ∃ z, z = decide (1 ≤ x.d) := ⟨_, rfl⟩
      obtain ⟨d2, hd2⟩ : ∃ z, z = decide (x.d ≤ 500) := ⟨_, rfl⟩
      have HRZ : Hid (r = orL [z0, z1, z2, z3, z4, z5]) := by show _ = _; rw [hz0, hz1, hz2, hz3, hz4, hz5]; exact HR2.out
      have HT : Hid (∀ p : InW W2, Calls Tryd.prog 29 #[.agg #[.int .i64 x.k, .int .i64 x.p, .int .i64 x.d, .int .i64 x.t.n, .string x.t.b, .string x.t.s, .string x.t.i, .int .i64 x.t.q, .int .i64 x.t.p, .string x.n, .int .i64 x.a, .slice A n c, .int .i64 x.hi, .int .u64 x.lo], .agg #[.bool b0, .bool b1, .bool b2, .bool b3, .bool b4, .bool b5, .bool b6]] p.val fun e w' => e = .returned (.int .i64 z2) ∧ ∃ q : InW W2, w' = q.val) := fun p => calls_in (checkTrade_any p.val x A n c b0 b1 b2 b3 b4 b5 b6 hs.out.1 hz2)
      have HN : Hid (∀ p : InW W2, Calls Tryd.prog 30 #[.agg #[.int .i64 x.k, .int .i64 x.p, .int .i64 x.d, .int .i64 x.t.n, .string x.t.b, .string x.t.s, .string x.t.i, .int .i64 x.t.q, .int .i64 x.t.p, .string x.n, .int .i64 x.a, .slice A n c, .int .i64 x.hi, .int .u64 x.lo], .agg #[.bool b0, .bool b1, .bool b2, .bool b3, .bool b4, .bool b5, .bool b6]] p.val fun e w' => e = .returned (.int .i64 z3) ∧ ∃ q : InW W2, w' = q.val) := fun p => calls_in (checkName_any p.val x A n c b0 b1 b2 b3 b4 b5 b6 hs.out.2.1 hz3)
      have HA : Hid (∀ p : InW W2, Calls Tryd.prog 31 #[.agg #[.int .i64 x.k, .int .i64 x.p, .int .i64 x.d, .int .i64 x.t.n, .string x.t.b, .string x.t.s, .string x.t.i, .int .i64 x.t.q, .int .i64 x.t.p, .string x.n, .int .i64 x.a, .slice A n c, .int .i64 x.hi, .int .u64 x.lo]] p.val fun e w' => e = .returned (.bool am) ∧ ∃ q : InW W2, w' = q.val) := fun p => calls_in (isAmount_any p.val x A n c ham)
      have HW : Hid (∀ p : InW W2, Calls Tryd.prog 32 #[.agg #[.int .i64 x.k, .int .i64 x.p, .int .i64 x.d, .int .i64 x.t.n, .string x.t.b, .string x.t.s, .string x.t.i, .int .i64 x.t.q, .int .i64 x.t.p, .string x.n, .int .i64 x.a, .slice A n c, .int .i64 x.hi, .int .u64 x.lo]] p.val fun e w' => e = .returned (.int .i64 z5) ∧ ∃ q : InW W2, w' = q.val) := fun p => calls_in (checkRows_any p.val x A n c l (HL2.out.below p.bel) hn (by rw [hn.out]; exact hs.out.2.2.1) hs.out.2.2.2 hz5)
      have CU : Hid (∀ (b : Bool) (y z : Int), z = unl b y → ∀ p : InW W2, Calls Tryd.prog 28 #[.bool b, .int .i64 y] p.val fun e w' => e = .returned (.int .i64 z) ∧ ∃ q : InW W2, w' = q.val) := fun b y z hz p => (unless_any p.val b y hz).mono fun e w' h => ⟨h.1, p, h.2.symm⟩
      unfold pOk at hz0
      unfold dOk at hz1
      rw [← hp1, ← hp2] at hz0
      rw [← hd1, ← hd2] at hz1
      rw [← ham] at hz4
      have HZ0 := Lib.hid hz0
      have HZ1 := Lib.hid hz1
      have HZ4 := Lib.hid hz4
      have HC4 := HC4
      clear hz0 hz1 hz2 hz3 hz4 hz5 ham HR2 hs hn HL2
      replace hp1 := hp1.symm
      replace hp2 := hp2.symm
      replace hd1 := hd1.symm
      replace hd2 := hd2.symm
      have X := blk14 E2
      have Y := blk7 E3
      have x0 : ∀ p : InW W2, p.val.cell? ⟨w.heap.size, 0, none⟩ = some (.int .i64 x.k) := fun p => p.cell X.1.1
      have x1 : ∀ p : InW W2, p.val.cell? ⟨w.heap.size, 1, none⟩ = some (.int .i64 x.p) := fun p => p.cell X.1.2.1
      have x2 : ∀ p : InW W2, p.val.cell? ⟨w.heap.size, 2, none⟩ = some (.int .i64 x.d) := fun p => p.cell X.1.2.2.1
      have x3 : ∀ p : InW W2, p.val.cell? ⟨w.heap.size, 3, none⟩ = some (.int .i64 x.t.n) := fun p => p.cell X.1.2.2.2.1
      have x4 : ∀ p : InW W2, p.val.cell? ⟨w.heap.size, 4, none⟩ = some (.string x.t.b) := fun p => p.cell X.1.2.2.2.2.1
      have x5 : ∀ p : InW W2, p.val.cell? ⟨w.heap.size, 5, none⟩ = some (.string x.t.s) := fun p => p.cell X.1.2.2.2.2.2.1
      have x6 : ∀ p : InW W2, p.val.cell? ⟨w.heap.size, 6, none⟩ = some (.string x.t.i) := fun p => p.cell X.1.2.2.2.2.2.2
      have x7 : ∀ p : InW W2, p.val.cell? ⟨w.heap.size, 7, none⟩ = some (.int .i64 x.t.q) := fun p => p.cell X.2.1
      have x8 : ∀ p : InW W2, p.val.cell? ⟨w.heap.size, 8, none⟩ = some (.int .i64 x.t.p) := fun p => p.cell X.2.2.1
      have x9 : ∀ p : InW W2, p.val.cell? ⟨w.heap.size, 9, none⟩ = some (.string x.n) := fun p => p.cell X.2.2.2.1
      have x10 : ∀ p : InW W2, p.val.cell? ⟨w.heap.size, 10, none⟩ = some (.int .i64 x.a) := fun p => p.cell X.2.2.2.2.1
      have x11 : ∀ p : InW W2, p.val.cell? ⟨w.heap.size, 11, none⟩ = some (.slice A n c) := fun p => p.cell X.2.2.2.2.2.1
      have x12 : ∀ p : InW W2, p.val.cell? ⟨w.heap.size, 12, none⟩ = some (.int .i64 x.hi) := fun p => p.cell X.2.2.2.2.2.2.1
      have x13 : ∀ p : InW W2, p.val.cell? ⟨w.heap.size, 13, none⟩ = some (.int .u64 x.lo) := fun p => p.cell X.2.2.2.2.2.2.2
      have y0 : ∀ p : InW W2, p.val.cell? ⟨g, 0, none⟩ = some (.bool b0) := fun p => p.cell Y.1
      have y1 : ∀ p : InW W2, p.val.cell? ⟨g, 1, none⟩ = some (.bool b1) := fun p => p.cell Y.2.1
      have y2 : ∀ p : InW W2, p.val.cell? ⟨g, 2, none⟩ = some (.bool b2) := fun p => p.cell Y.2.2.1
      have y3 : ∀ p : InW W2, p.val.cell? ⟨g, 3, none⟩ = some (.bool b3) := fun p => p.cell Y.2.2.2.1
      have y4 : ∀ p : InW W2, p.val.cell? ⟨g, 4, none⟩ = some (.bool b4) := fun p => p.cell Y.2.2.2.2.1
      have y5 : ∀ p : InW W2, p.val.cell? ⟨g, 5, none⟩ = some (.bool b5) := fun p => p.cell Y.2.2.2.2.2.1
      have y6 : ∀ p : InW W2, p.val.cell? ⟨g, 6, none⟩ = some (.bool b6) := fun p => p.cell Y.2.2.2.2.2.2
      clear X Y
      clear E2 E3
      obtain rfl : b4 = false := H4.out
      obtain rfl : z4 = 0 := HZ4.out
      replace HZ4 : Hid ((0 : Int) = unl true 2) := rfl
      obtain rfl : b0 = true := H0.out
      obtain rfl : p1 = false := hp1.symm.trans HP.out
      clear HP
      obtain rfl : z0 = 5 := HZ0.out
      replace HZ0 : Hid ((5 : Int) = unl false 5) := rfl
      have g0 := of_decide_eq_false hp1
      cases b1
      · obtain rfl : z1 = 0 := HZ1.out
        replace HZ1 : Hid ((0 : Int) = unl true 2) := rfl
        have U0 := Lib.hid (CU.out false 5 _ HZ0.out)
        have U1 := Lib.hid (CU.out true 2 _ HZ1.out)
        have U4 := Lib.hid (CU.out true 2 _ HZ4.out)
        clear CU HZ0 HZ1 HZ4
        refine wp_region_quiet_tail (C := fun w' => ∃ p : InW W2, w' = p.val) 44 (by kernel_rfl) (by kernel_rfl) (by kernel_rfl) ⟨⟨W2.drew, (Below.refl _ _).drew⟩, rfl⟩ ?_
        simp only [List.take_succ_cons, List.take_zero, List.drop_succ_cons, List.drop_zero]
        repeat (go_big_quiet_step ((first | (go_at_call 28; (with_reducible exact U0.out _)) | (go_at_call 28; (with_reducible exact U1.out _)) | (go_at_call 28; (with_reducible exact U4.out _)) | (go_at_call 29; (with_reducible exact HT.out _)) | (go_at_call 30; (with_reducible exact HN.out _)) | (go_at_call 31; (with_reducible exact HA.out _)) | (go_at_call 32; (with_reducible exact HW.out _)))))
        refine wpQuiet_nil ?_
        rintro _ ⟨q3, rfl⟩
        obtain ⟨wq, hbq⟩ := q3
        try dsimp only
        clear x0 x1 x2 x3 x4 x5 x6 x7 x8 x9 x10 x11 x12 x13 y0 y1 y2 y3 y4 y5 y6
        go_wp2_with (go_at_call 27; (with_reducible refine (orE _ _ 6 [_, _, _, _, _, _] r (row6' _ _ _ _ _ _ _ _) rfl HRZ six_le).mono ?_); rintro e w4 ⟨rfl, rfl⟩)
        go_ret
        exact ⟨rfl, (HB2.out.trans (hbq.mono HB2.out.size)).alloc (HB2.out.trans (hbq.mono HB2.out.size)).size _⟩
      · cases d1
        · obtain rfl : z1 = 2 := HZ1.out
          replace HZ1 : Hid ((2 : Int) = unl false 2) := rfl
          have g1 := of_decide_eq_false hd1
          have U0 := Lib.hid (CU.out false 5 _ HZ0.out)
          have U1 := Lib.hid (CU.out false 2 _ HZ1.out)
          have U4 := Lib.hid (CU.out true 2 _ HZ4.out)
          clear CU HZ0 HZ1 HZ4
          refine wp_region_quiet_tail (C := fun w' => ∃ p : InW W2, w' = p.val) 44 (by kernel_rfl) (by kernel_rfl) (by kernel_rfl) ⟨⟨W2.drew, (Below.refl _ _).drew⟩, rfl⟩ ?_
          simp only [List.take_succ_cons, List.take_zero, List.drop_succ_cons, List.drop_zero]
          repeat (go_big_quiet_step ((first | (go_at_call 28; (with_reducible exact U0.out _)) | (go_at_call 28; (with_reducible exact U1.out _)) | (go_at_call 28; (with_reducible exact U4.out _)) | (go_at_call 29; (with_reducible exact HT.out _)) | (go_at_call 30; (with_reducible exact HN.out _)) | (go_at_call 31; (with_reducible exact HA.out _)) | (go_at_call 32; (with_reducible exact HW.out _)))))
          refine wpQuiet_nil ?_
          rintro _ ⟨q3, rfl⟩
          obtain ⟨wq, hbq⟩ := q3
          try dsimp only
          clear x0 x1 x2 x3 x4 x5 x6 x7 x8 x9 x10 x11 x12 x13 y0 y1 y2 y3 y4 y5 y6
          go_wp2_with (go_at_call 27; (with_reducible refine (orE _ _ 6 [_, _, _, _, _, _] r (row6' _ _ _ _ _ _ _ _) rfl HRZ six_le).mono ?_); rintro e w4 ⟨rfl, rfl⟩)
          go_ret
          exact ⟨rfl, (HB2.out.trans (hbq.mono HB2.out.size)).alloc (HB2.out.trans (hbq.mono HB2.out.size)).size _⟩
        · replace HZ1 : Hid (z1 = unl d2 2) := HZ1
          have g1 := of_decide_eq_true hd1
          have U0 := Lib.hid (CU.out false 5 _ HZ0.out)
          have U1 := Lib.hid (CU.out d2 2 _ HZ1.out)
          have U4 := Lib.hid (CU.out true 2 _ HZ4.out)
          clear CU HZ0 HZ1 HZ4
          refine wp_region_quiet_tail (C := fun w' => ∃ p : InW W2, w' = p.val) 44 (by kernel_rfl) (by kernel_rfl) (by kernel_rfl) ⟨⟨W2.drew, (Below.refl _ _).drew⟩, rfl⟩ ?_
          simp only [List.take_succ_cons, List.take_zero, List.drop_succ_cons, List.drop_zero]
          repeat (go_big_quiet_step ((first | (go_at_call 28; (with_reducible exact U0.out _)) | (go_at_call 28; (with_reducible exact U1.out _)) | (go_at_call 28; (with_reducible exact U4.out _)) | (go_at_call 29; (with_reducible exact HT.out _)) | (go_at_call 30; (with_reducible exact HN.out _)) | (go_at_call 31; (with_reducible exact HA.out _)) | (go_at_call 32; (with_reducible exact HW.out _)))))
          refine wpQuiet_nil ?_
          rintro _ ⟨q3, rfl⟩
          obtain ⟨wq, hbq⟩ := q3
          try dsimp only
          clear x0 x1 x2 x3 x4 x5 x6 x7 x8 x9 x10 x11 x12 x13 y0 y1 y2 y3 y4 y5 y6
          go_wp2_with (go_at_call 27; (with_reducible refine (orE _ _ 6 [_, _, _, _, _, _] r (row6' _ _ _ _ _ _ _ _) rfl HRZ six_le).mono ?_); rintro e w4 ⟨rfl, rfl⟩)
          go_ret
          exact ⟨rfl, (HB2.out.trans (hbq.mono HB2.out.size)).alloc (HB2.out.trans (hbq.mono HB2.out.size)).size _⟩

end Go.Proofs.YteahloddjekakaaDoor.Nt
