/-
  The contract of parts' and at any kind; the contracts of checkTrade, checkName and isAmount. Conditions: names of at most 100000 bytes.
-/
import Derived.Test.YteahloddjekakaaDoorNAnd
import Derived.Test.YteahloddjekakaaDoorNRws
namespace Go.Proofs.YteahloddjekakaaDoor.Nt
open Go.RowKit Td

theorem and_any (w : World) (m : Nat) (h1 : 1 ≤ m) (h2 : m ≤ 12) (x : Nt) (A : Option Addr) (n c : Nat) (q0 q1 q2 q3 q4 q5 q6 : Bool) (e0 : q0 = (kp m || (x.p != 0))) (e1 : q1 = (kd m || (x.d != 0))) (e2 : q2 = (kt m || hasT x)) (e3 : q3 = (kn m || !x.n.toList.isEmpty)) (e4 : q4 = (ka m || (x.a != 0))) (e5 : q5 = (kr m || decide (0 < n))) (e6 : q6 = (kc m || hasC x)) :
    Calls Tryd.prog 26 #[.agg #[.bool (kp m), .bool (kd m), .bool (kt m), .bool (kn m), .bool (ka m), .bool (kr m), .bool (kc m)], .agg #[.int .i64 x.k, .int .i64 x.p, .int .i64 x.d, .int .i64 x.t.n, .string x.t.b, .string x.t.s, .string x.t.i, .int .i64 x.t.q, .int .i64 x.t.p, .string x.n, .int .i64 x.a, .slice A n c, .int .i64 x.hi, .int .u64 x.lo]] w fun e w' => e = .returned (.agg #[.bool q0, .bool q1, .bool q2, .bool q3, .bool q4, .bool q5, .bool q6]) ∧ Below w.heap.size w w' := by
  have hm : m = 1 ∨ m = 2 ∨ m = 3 ∨ m = 4 ∨ m = 5 ∨ m = 6 ∨ m = 7 ∨ m = 8 ∨ m = 9 ∨ m = 10 ∨ m = 11 ∨ m = 12 := by omega
  have H2 : ∀ b : Bool, hasT x = b → ∀ W, (Op.equalIn 10000 28 (.agg #[.int .i64 x.t.n, .string x.t.b, .string x.t.s, .string x.t.i, .int .i64 x.t.q, .int .i64 x.t.p]) (.agg #[.int .i64 0, .string { data := #[] }, .string { data := #[] }, .string { data := #[] }, .int .i64 0, .int .i64 0])).run Tryd.prog W = .ok (!b) W := fun b hb W => by
    have := q_tr 9998 x.t zT W
    rw [← hb]; unfold hasT; rw [Bool.not_not]; exact this
  have H6 : ∀ b : Bool, hasC x = b → ∀ W, (Op.equalIn 10000 31 (.agg #[.int .i64 x.hi, .int .u64 x.lo]) (.agg #[.int .i64 0, .int .u64 0])).run Tryd.prog W = .ok (!b) W := fun b hb W => by
    have := q_wide 9998 x.hi x.lo 0 0 W
    rw [← hb]; unfold hasC; rw [Bool.not_not]; exact this
  rcases hm with rfl | rfl | rfl | rfl | rfl | rfl | rfl | rfl | rfl | rfl | rfl | rfl
  · obtain rfl := or_yes e2
    exact and_t w x A n c q0 q1 q3 q4 q5 q6 (or_no e0) (or_no e1) (or_no e3) (or_no e4) (or_no e5) (H6 q6 (or_no e6))
  · exact and_none w x A n c q0 q1 q2 q3 q4 q5 q6 (or_no e0) (or_no e1) (H2 q2 (or_no e2)) (or_no e3) (or_no e4) (or_no e5) (H6 q6 (or_no e6))
  · obtain rfl := or_yes e3; obtain rfl := or_yes e4
    exact and_na w x A n c q0 q1 q2 q5 q6 (or_no e0) (or_no e1) (H2 q2 (or_no e2)) (or_no e5) (H6 q6 (or_no e6))
  · obtain rfl := or_yes e1
    exact and_d w x A n c q0 q2 q3 q4 q5 q6 (or_no e0) (H2 q2 (or_no e2)) (or_no e3) (or_no e4) (or_no e5) (H6 q6 (or_no e6))
  · obtain rfl := or_yes e3; obtain rfl := or_yes e4
    exact and_na w x A n c q0 q1 q2 q5 q6 (or_no e0) (or_no e1) (H2 q2 (or_no e2)) (or_no e5) (H6 q6 (or_no e6))
  · obtain rfl := or_yes e3; obtain rfl := or_yes e4
    exact and_na w x A n c q0 q1 q2 q5 q6 (or_no e0) (or_no e1) (H2 q2 (or_no e2)) (or_no e5) (H6 q6 (or_no e6))
  · obtain rfl := or_yes e3
    exact and_n w x A n c q0 q1 q2 q4 q5 q6 (or_no e0) (or_no e1) (H2 q2 (or_no e2)) (or_no e4) (or_no e5) (H6 q6 (or_no e6))
  · obtain rfl := or_yes e0
    exact and_p w x A n c q1 q2 q3 q4 q5 q6 (or_no e1) (H2 q2 (or_no e2)) (or_no e3) (or_no e4) (or_no e5) (H6 q6 (or_no e6))
  · obtain rfl := or_yes e0; obtain rfl := or_yes e1; obtain rfl := or_yes e2
    exact and_pdt w x A n c q3 q4 q5 q6 (or_no e3) (or_no e4) (or_no e5) (H6 q6 (or_no e6))
  · obtain rfl := or_yes e0; obtain rfl := or_yes e1; obtain rfl := or_yes e5
    exact and_pdr w x A n c q2 q3 q4 q6 (H2 q2 (or_no e2)) (or_no e3) (or_no e4) (H6 q6 (or_no e6))
  · obtain rfl := or_yes e0; obtain rfl := or_yes e1; obtain rfl := or_yes e5; obtain rfl := or_yes e6
    exact and_pdrc w x A n c q2 q3 q4 (H2 q2 (or_no e2)) (or_no e3) (or_no e4)
  · obtain rfl := or_yes e0
    exact and_p w x A n c q1 q2 q3 q4 q5 q6 (or_no e1) (H2 q2 (or_no e2)) (or_no e3) (or_no e4) (or_no e5) (H6 q6 (or_no e6))

set_option maxRecDepth 100000 in
set_option maxHeartbeats 1000000 in
theorem checkTrade_any (w : World) (x : Nt) (A : Option Addr) (n c : Nat) (b0 b1 b2 b3 b4 b5 b6 : Bool) (hx : Sm x.t) {r : Int} (hr : Hid (r = if b2 = true then chk x.t else 0)) :
    Calls Tryd.prog 29 #[.agg #[.int .i64 x.k, .int .i64 x.p, .int .i64 x.d, .int .i64 x.t.n, .string x.t.b, .string x.t.s, .string x.t.i, .int .i64 x.t.q, .int .i64 x.t.p, .string x.n, .int .i64 x.a, .slice A n c, .int .i64 x.hi, .int .u64 x.lo], .agg #[.bool b0, .bool b1, .bool b2, .bool b3, .bool b4, .bool b5, .bool b6]] w fun e w' => e = .returned (.int .i64 r) ∧ Below w.heap.size w w' := by
  have E1 := two_new2 w (.cells #[.int .i64 x.k, .int .i64 x.p, .int .i64 x.d, .int .i64 x.t.n, .string x.t.b, .string x.t.s, .string x.t.i, .int .i64 x.t.q, .int .i64 x.t.p, .string x.n, .int .i64 x.a, .slice A n c, .int .i64 x.hi, .int .u64 x.lo] 33) (.cells #[.bool b0, .bool b1, .bool b2, .bool b3, .bool b4, .bool b5, .bool b6] 62)
  have HB0 := Lib.hid E1.2.2
  have y2 := (blk7 E1.2.1).2.2.1
  cases b2
  · obtain rfl : r = 0 := hr.out
    clear E1
    go_enter Tryd.func29, Tryd.ntmps29
    go_wp2
    go_ret
    exact ⟨rfl, HB0.out⟩
  · have HC := Lib.hid fun W => check_any W x.t hx (show Hid (r = chk x.t) from hr)
    obtain ⟨⟨_, _, _, x3, x4, x5, x6⟩, x7, x8, _⟩ := blk14 E1.1
    clear E1
    go_enter Tryd.func29, Tryd.ntmps29
    go_upto_region 1 with fail
    generalize (w.alloc _).alloc _ = W0 at y2 x3 x4 x5 x6 x7 x8 HB0 ⊢
    go_wp2_with (go_at_call 56; (with_reducible refine (HC.out _).mono ?_); rintro e w1 ⟨rfl, hb⟩; have HB1 := Lib.hid (HB0.out.trans (hb.mono HB0.out.size)); clear hb)
    go_ret
    exact ⟨rfl, HB1.out⟩
def nameN (x : Nt) : Int := if x.k = 3 then Id.isinN (Id.sb x.n) else Id.memE (Id.sb x.n)
set_option maxRecDepth 100000 in
set_option maxHeartbeats 1000000 in
theorem checkName_any (w : World) (x : Nt) (A : Option Addr) (n c : Nat) (b0 b1 b2 b3 b4 b5 b6 : Bool) (hx : x.n.size ≤ 100000) {r : Int} (hr : Hid (r = if b3 = true then nameN x else 0)) :
    Calls Tryd.prog 30 #[.agg #[.int .i64 x.k, .int .i64 x.p, .int .i64 x.d, .int .i64 x.t.n, .string x.t.b, .string x.t.s, .string x.t.i, .int .i64 x.t.q, .int .i64 x.t.p, .string x.n, .int .i64 x.a, .slice A n c, .int .i64 x.hi, .int .u64 x.lo], .agg #[.bool b0, .bool b1, .bool b2, .bool b3, .bool b4, .bool b5, .bool b6]] w fun e w' => e = .returned (.int .i64 r) ∧ Below w.heap.size w w' := by
  have E1 := two_new2 w (.cells #[.int .i64 x.k, .int .i64 x.p, .int .i64 x.d, .int .i64 x.t.n, .string x.t.b, .string x.t.s, .string x.t.i, .int .i64 x.t.q, .int .i64 x.t.p, .string x.n, .int .i64 x.a, .slice A n c, .int .i64 x.hi, .int .u64 x.lo] 33) (.cells #[.bool b0, .bool b1, .bool b2, .bool b3, .bool b4, .bool b5, .bool b6] 62)
  have HB0 := Lib.hid E1.2.2
  have y3 := (blk7 E1.2.1).2.2.2.1
  obtain ⟨⟨x0, _⟩, _, _, x9, _⟩ := blk14 E1.1
  cases b3
  · obtain rfl : r = 0 := hr.out
    clear E1
    go_enter Tryd.func30, Tryd.ntmps30
    go_wp2
    go_ret
    exact ⟨rfl, HB0.out⟩
  · have HR : Hid (r = nameN x) := hr
    clear hr
    by_cases h3 : x.k = 3
    · have HC : Hid (∀ W, Calls Tryd.prog 57 #[.string x.n] W fun e w' => e = .returned (.int .i64 r) ∧ Below W.heap.size W w') := fun W => by
        rw [HR.out]; unfold nameN; rw [if_pos h3]; exact Id.isin_any W x.n hx
      have h3b : (x.k == 3) = true := by simpa using h3
      clear E1 h3 HR
      go_enter Tryd.func30, Tryd.ntmps30
      go_upto_region 1 with fail
      generalize (w.alloc _).alloc _ = W0 at y3 x0 x9 HB0 ⊢
      go_wp2_with (go_at_call 57; (with_reducible refine (HC.out _).mono ?_); rintro e w1 ⟨rfl, hb⟩; have HB1 := Lib.hid (HB0.out.trans (hb.mono HB0.out.size)); clear hb)
      go_ret
      exact ⟨rfl, HB1.out⟩
    · have HC : Hid (∀ W, Calls Tryd.prog 58 #[.string x.n] W fun e w' => e = .returned (.int .i64 r) ∧ Below W.heap.size W w') := fun W => by
        rw [HR.out]; unfold nameN; rw [if_neg h3]; exact Id.member_any W x.n hx
      have h3b : (x.k == 3) = false := by simpa using h3
      clear E1 h3 HR
      go_enter Tryd.func30, Tryd.ntmps30
      go_upto_region 1 with fail
      generalize (w.alloc _).alloc _ = W0 at y3 x0 x9 HB0 ⊢
      go_wp2_with (go_at_call 58; (with_reducible refine (HC.out _).mono ?_); rintro e w1 ⟨rfl, hb⟩; have HB1 := Lib.hid (HB0.out.trans (hb.mono HB0.out.size)); clear hb)
      go_ret
      exact ⟨rfl, HB1.out⟩
def amtB (x : Nt) : Bool := if x.k = 3 then isP x.a else (decide (1 ≤ x.a) && decide (x.a < 2147483648))
set_option maxRecDepth 100000 in
set_option maxHeartbeats 1000000 in
theorem isAmount_any (w : World) (x : Nt) (A : Option Addr) (n c : Nat) {r : Bool} (hr : Hid (r = amtB x)) :
    Calls Tryd.prog 31 #[.agg #[.int .i64 x.k, .int .i64 x.p, .int .i64 x.d, .int .i64 x.t.n, .string x.t.b, .string x.t.s, .string x.t.i, .int .i64 x.t.q, .int .i64 x.t.p, .string x.n, .int .i64 x.a, .slice A n c, .int .i64 x.hi, .int .u64 x.lo]] w fun e w' => e = .returned (.bool r) ∧ Below w.heap.size w w' := by
  have E1 := block_new w (.cells #[.int .i64 x.k, .int .i64 x.p, .int .i64 x.d, .int .i64 x.t.n, .string x.t.b, .string x.t.s, .string x.t.i, .int .i64 x.t.q, .int .i64 x.t.p, .string x.n, .int .i64 x.a, .slice A n c, .int .i64 x.hi, .int .u64 x.lo] 33)
  have HB0 : Hid (Below w.heap.size w (w.alloc (.cells #[.int .i64 x.k, .int .i64 x.p, .int .i64 x.d, .int .i64 x.t.n, .string x.t.b, .string x.t.s, .string x.t.i, .int .i64 x.t.q, .int .i64 x.t.p, .string x.n, .int .i64 x.a, .slice A n c, .int .i64 x.hi, .int .u64 x.lo] 33))) := (Below.refl _ _).alloc (Nat.le_refl _) _
  obtain ⟨⟨x0, _⟩, _, _, _, x10, _⟩ := blk14 E1
  by_cases h3 : x.k = 3
  · have HC := Lib.hid fun W => isPrice_any W x.a (show Hid (r = isP x.a) by show _ = _; rw [hr.out]; unfold amtB; rw [if_pos h3])
    have h3b : (x.k == 3) = true := by simpa using h3
    clear E1 h3 hr
    go_enter Tryd.func31, Tryd.ntmps31
    go_upto_region 1 with fail
    generalize w.alloc _ = W0 at x0 x10 HB0 ⊢
    go_wp2_with (go_at_call 59; (with_reducible refine (HC.out _).mono ?_); rintro e w1 ⟨rfl, rfl⟩)
    go_ret
    exact ⟨rfl, HB0.out⟩
  · have h3b : (x.k == 3) = false := by simpa using h3
    have HR : Hid (r = (decide (1 ≤ x.a) && decide (x.a < 2147483648))) := by show _ = _; rw [hr.out]; unfold amtB; rw [if_neg h3]
    obtain ⟨b1, h1⟩ : ∃ b, decide (1 ≤ x.a) = b := ⟨_, rfl⟩
    obtain ⟨b2, h2⟩ : ∃ b, decide (x.a < 2147483648) = b := ⟨_, rfl⟩
    rw [h1, h2] at HR
    clear E1 h3 hr
    cases b1
    · have g1 := of_decide_eq_false h1
      obtain rfl : r = false := HR.out
      go_enter Tryd.func31, Tryd.ntmps31
      go_upto_region 1 with fail
      generalize w.alloc _ = W0 at x0 x10 HB0 ⊢
      go_wp2
      go_ret
      exact ⟨rfl, HB0.out⟩
    · have g1 := of_decide_eq_true h1
      obtain rfl : r = b2 := HR.out
      go_enter Tryd.func31, Tryd.ntmps31
      go_upto_region 1 with fail
      generalize w.alloc _ = W0 at x0 x10 HB0 ⊢
      go_wp2
      go_ret
      exact ⟨rfl, HB0.out⟩
end Go.Proofs.YteahloddjekakaaDoor.Nt
