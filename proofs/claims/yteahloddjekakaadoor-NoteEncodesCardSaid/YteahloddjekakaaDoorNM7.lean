/-
  The contract of parts' and at any kind; the contracts of checkTrade, checkName and isAmount. Conditions: names of at most 100000 bytes.
-/
import Derived.Test.YteahloddjekakaaDoorNAnd
import Derived.Test.YteahloddjekakaaDoorNM6
namespace Go.Proofs.YteahloddjekakaaDoor.Nt
open Go.RowKit Td

theorem and_any (w : World) (m : Nat) (h1 : 1 ≤ m) (h2 : m ≤ 12) (x : Nt) (A : Option Addr) (n c : Nat) (q0 q1 q2 q3 q4 q5 q6 : Bool) (e0 : q0 = (kp m || (x.p != 0))) (e1 : q1 = (kd m || (x.d != 0))) (e2 : q2 = (kt m || hasT x)) (e3 : q3 = (kn m || !x.n.toList.isEmpty)) (e4 : q4 = (ka m || (x.a != 0))) (e5 : q5 = (kr m || decide (0 < n))) (e6 : q6 = (kc m || hasC x)) :
    Calls Tryd.prog 26 #[.agg #[.bool (kp m), .bool (kd m), .bool (kt m), .bool (kn m), .bool (ka m), .bool (kr m), .bool (kc m)], .agg #[.int .i64 x.k, .int .i64 x.p, .int .i64 x.d, .int .i64 x.t.n, .string x.t.b, .string x.t.s, .string x.t.i, .int .i64 x.t.q, .int .i64 x.t.p, .string x.n, .int .i64 x.a, .slice A n c, .int .i64 x.hi, .int .u64 x.lo]] w fun e w' => e = .returned (.agg #[.bool q0, .bool q1, .bool q2, .bool q3, .bool q4, .bool q5, .bool q6]) ∧ Below w.heap.size w w' := by
  have hm : m = 1 ∨ m = 2 ∨ m = 3 ∨ m = 4 ∨ m = 5 ∨ m = 6 ∨ m = 7 ∨ m = 8 ∨ m = 9 ∨ m = 10 ∨ m = 11 ∨ m = 12 := by omega
  have H2 : ∀ b : Bool, hasT x = b → ∀ W, (Op.equalIn 10000 28 (.agg #[.int .i64 x.t.n, .string x.t.b, .string x.t.s, .string x.t.i, .int .i64 x.t.q, .int .i64 x.t.p]) (.agg #[.int .i64 0, .string { data := #[] }, .string { data := #[] }, .string { data := #[] }, .int .i64 0, .int .i64 0])).run Tryd.prog W = .ok (!b) W := fun b hb W => by
    have := q_tr 9998 x.t zT W
    rw [← hb]; unfold hasT; rw [Bool.not_not]; exact this
  have H6 : ∀ b : Bool, hasC x = b → ∀ W, (Op.equalIn 10000 31 (.agg #[.int .i64 x.hi, .int .u64 x.lo]) (.agg #[.int .i64 0, .int .u64 0])).run Tryd.prog W = .ok (!b) W := fun b hb W => by
    have := q_wide 9998 x.hi x.lo 0 0 W
    rw [← hb]; unfold hasC; rw [Bool.not_not]; exact this
  rcases hm with rfl | rfl | rfl | rfl | rfl | rfl | rfl | rfl | rfl | rfl | rfl | rfl
  · obtain rfl := or_yes e2
    exact and_t w x A n c q0 q1 q3 q4 q5 q6 (or_no e0) (or_no e1) (or_no e3) (or_no e4) (or_no e5) (H6 q6 (or_no e6))
  · exact and_none w x A n c q0 q1 q2 q3 q4 q5 q6 (or_no e0) (or_no e1) (H2 q2 (or_no e2)) (or_no e3) (or_no e4) (or_no e5) (H6 q6 (or_no e6))
  · obtain rfl := or_yes e3; obtain rfl := or_yes e4
    exact and_na w x A n c q0 q1 q2 q5 q6 (or_no e0) (or_no e1) (H2 q2 (or_no e2)) (or_no e5) (H6 q6 (or_no e6))
  · obtain rfl := or_yes e1
    exact and_d w x A n c q0 q2 q3 q4 q5 q6 (or_no e0) (H2 q2 (or_no e2)) (or_no e3) (or_no e4) (or_no e5) (H6 q6 (or_no e6))
  · obtain rfl := or_yes e3; obtain rfl := or_yes e4
    exact and_na w x A n c q0 q1 q2 q5 q6 (or_no e0) (or_no e1) (H2 q2 (or_no e2)) (or_no e5) (H6 q6 (or_no e6))
  · obtain rfl := or_yes e3; obtain rfl := or_yes e4
    exact and_na w x A n c q0 q1 q2 q5 q6 (or_no e0) (or_no e1) (H2 q2 (or_no e2)) (or_no e5) (H6 q6 (or_no e6))
  · obtain rfl := or_yes e3
    exact and_n w x A n c q0 q1 q2 q4 q5 q6 (or_no e0) (or_no e1) (H2 q2 (or_no e2)) (or_no e4) (or_no e5) (H6 q6 (or_no e6))
  · obtain rfl := or_yes e0
    exact and_p w x A n c q1 q2 q3 q4 q5 q6 (or_no e1) (H2 q2 (or_no e2)) (or_no e3) (or_no e4) (or_no e5) (H6 q6 (or_no e6))
  · obtain rfl := or_yes e0; obtain rfl := or_yes e1; obtain rfl := or_yes e2
    exact and_pdt w x A n c q3 q4 q5 q6 (or_no e3) (or_no e4) (or_no e5) (H6 q6 (or_no e6))
  · obtain rfl := or_yes e0; obtain rfl := or_yes e1; obtain rfl := or_yes e5
    exact and_pdr w x A n c q2 q3 q4 q6 (H2 q2 (or_no e2)) (or_no e3) (or_no e4) (H6 q6 (or_no e6))
  · obtain rfl := or_yes e0; obtain rfl := or_yes e1; obtain rfl := or_yes e5; obtain rfl := or_yes e6
    exact and_pdrc w x A n c q2 q3 q4 (H2 q2 (or_no e2)) (or_no e3) (or_no e4)
  · obtain rfl := or_yes e0
    exact and_p w x A n c q1 q2 q3 q4 q5 q6 (or_no e1) (H2 q2 (or_no e2)) (or_no e3) (or_no e4) (or_no e5) (H6 q6 (or_no e6))

set_option maxRecDepth 100000 in
set_option maxHeartbeats 1000000 in
theorem checkTrade_any (w : World) (x : Nt) (A : Option Addr) (n c : Nat) (b0 b1 b2 b3 b4 b5 b6 : Bool) (hx : Sm x.t) {r : Int} (hr : Hid (r = if b2 = true then chk x.t else 0)) :
    Calls Tryd.prog 29 #[.agg #[.int .i64 x.k, .int .i64 x.p, .int .i64 x.d, .int .i64 x.t.n, .string x.t.b, .string x.t.s, .string x.t.i, .int .i64 x.t.q, .int .i64 x.t.p, .string x.n, .int .i64 x.a, .slice A n c, .int .i64 x.hi, .int .u64 x.lo], .agg #[.bool b0, .bool b1, .bool b2, .bool b3, .bool b4, .bool b5, .bool b6]] w fun e w' => e = .returned (.int .i64 r) ∧ Below w.heap.size w w' := by
  have E1 := two_new2 w (.cells #[.int .i64 x.k, .int .i64 x.p, .int .i64 x.d, .int .i64 x.t.n, .string x.t.b, .string x.t.s, .string x.t.i, .int .i64 x.t.q, .int .i64 x.t.p, .string x.n, .int .i64 x.a, .slice A n c, .int .i64 x.hi, .int .u64 x.lo] 33) (.cells #[.bool b0, .bool b1, .bool b2, .bool b3, .bool b4, .bool b5, .bool b6] 62)
  have HB0 := Lib.hid E1.2.2
  have y2 := (blk7 E1.2.1).2.2.1
  cases b2
  · obtain rfl : r = 0 := hr.out
    clear E1
    go_enter Tryd.func29, Tryd.ntmps29
    go_wp2
    go_ret
    exact ⟨rfl, HB0.out⟩
  · have HC := Lib.hid fun W => check_any W x.t hx (show Hid (r = chk x.t) from hr)
    obtain ⟨⟨_, _, _, x3, x4, x5, x6⟩, x7, x8, _⟩ := blk14 E1.1
    clear E1
    go_enter Tryd.func29, Tryd.ntmps29
    go_upto_region 1 with fail
    generalize (w.alloc _).alloc _ = W0 at y2 x3 x4 x5 x6 x7 x8 HB0 ⊢
    go_wp2_with (go_at_call 56; (with_reducible refine (HC.out _).mono ?_); rintro e w1 ⟨rfl, hb⟩; have HB1 := Lib.hid (HB0.out.trans (hb.mono HB0.out.size)); clear hb)
    go_ret
    exact ⟨rfl, HB1.out⟩
def nameN (x : Nt) : Int := if x.k = 3 then Id.isinN (Id.sb x.n) else Id.memE (Id.sb x.n)
set_option maxRecDepth 100000 in
set_option maxHeartbeats 1000000 in
theorem checkName_any (w : World) (x : Nt) (A : Option Addr) (n c : Nat) (b0 b1 b2 b3 b4 b5 b6 : Bool) (hx : x.n.size ≤ 100000) {r : Int} (hr : Hid (r = if b3 = true then nameN x else 0)) :
    Calls Tryd.prog 30 #[.agg #[.int .i64 x.k, .int .i64 x.p, .int .i64 x.d, .int .i64 x.t.n, .string x.t.b, .string x.t.s, .string x.t.i, .int .i64 x.t.q, .int .i64 x.t.p, .string x.n, .int .i64 x.a, .slice A n c, .int .i64 x.hi, .int .u64 x.lo], .agg #[.bool b0, .bool b1, .bool b2, .bool b3, .bool b4, .bool b5, .bool b6]] w fun e w' => e = .returned (.int .i64 r) ∧ Below w.heap.size w w' := by
  have E1 := two_new2 w (.cells #[.int .i64 x.k, .int .i64 x.p, .int .i64 x.d, .int .i64 x.t.n, .string x.t.b, .string x.t.s, .string x.t.i, .int .i64 x.t.q, .int .i64 x.t.p, .string x.n, .int .i64 x.a, .slice A n c, .int .i64 x.hi, .int .u64 x.lo] 33) (.cells #[.bool b0, .bool b1, .bool b2, .bool b3, .bool b4, .bool b5, .bool b6] 62)
  have HB0 := Lib.hid E1.2.2
  have y3 := (blk7 E1.2.1).2.2.2.1
  obtain ⟨⟨x0, _⟩, _, _, x9, _⟩ := blk14 E1.1
  cases b3
  · obtain rfl : r = 0 := hr.out
    clear E1
    go_enter Tryd.func30, Tryd.ntmps30
    go_wp2
    go_ret
    exact ⟨rfl, HB0.out⟩
  · have HR : Hid (r = nameN x) := hr
    clear hr
    by_cases h3 : x.k = 3
    · have HC : Hid (∀ W, Calls Tryd.prog 57 #[.string x.n] W fun e w' => e = .returned (.int .i64 r) ∧ Below W.heap.size W w') := fun W => by
        rw [HR.out]; unfold nameN; rw [if_pos h3]; exact Id.isin_any W x.n hx
      have h3b : (x.k == 3) = true := by simpa using h3
      clear E1 h3 HR
      go_enter Tryd.func30, Tryd.ntmps30
      go_upto_region 1 with fail
      generalize (w.alloc _).alloc _ = W0 at y3 x0 x9 HB0 ⊢
      go_wp2_with (go_at_call 57; (with_reducible refine (HC.out _).mono ?_); rintro e w1 ⟨rfl, hb⟩; have HB1 := Lib.hid (HB0.out.trans (hb.mono HB0.out.size)); clear hb)
      go_ret
      exact ⟨rfl, HB1.out⟩
    · have HC : Hid (∀ W, Calls Tryd.prog 58 #[.string x.n] W fun e w' => e = .returned (.int .i64 r) ∧ Below W.heap.size W w') := fun W => by
        rw [HR.out]; unfold nameN; rw [if_neg h3]; exact Id.member_any W x.n hx
      have h3b : (x.k == 3) = false := by simpa using h3
      clear E1 h3 HR
      go_enter Tryd.func30, Tryd.ntmps30
      go_upto_region 1 with fail
      generalize (w.alloc _).alloc _ = W0 at y3 x0 x9 HB0 ⊢
      go_wp2_with (go_at_call 58; (with_reducible refine (HC.out _).mono ?_); rintro e w1 ⟨rfl, hb⟩; have HB1 := Lib.hid (HB0.out.trans (hb.mono HB0.out.size)); clear hb)
      go_ret
      exact ⟨rfl, HB1.out⟩
def amtB (x : Nt) : Bool := if x.k = 3 then isP x.a else (decide (1 ≤ x.a) && decide (x.a < 2147483648))
set_option maxRecDepth 100000 in
set_option maxHeartbeats 1000000 in
theorem isAmount_any (w : World) (x : Nt) (A : Option Addr) (n c : Nat) {r : Bool} (hr : Hid (r = amtB x)) :
    Calls Tryd.prog 31 #[.agg #[.int .i64 x.k, .int .i64 x.p, .int .i64 x.d, .int .i64 x.t.n, .string x.t.b, .string x.t.s, .string x.t.i, .int .i64 x.t.q, .int .i64 x.t.p, .string x.n, .int .i64 x.a, .slice A n c, .int .i64 x.hi, .int .u64 x.lo]] w fun e w' => e = .returned (.bool r) ∧ Below w.heap.size w w' := by
  have E1 := block_new w (.cells #[.int .i64 x.k, .int .i64 x.p, .int .i64 x.d, .int .i64 x.t.n, .string x.t.b, .string x.t.s, .string x.t.i, .int .i64 x.t.q, .int .i64 x.t.p, .string x.n, .int .i64 x.a, .slice A n c, .int .i64 x.hi, .int .u64 x.lo] 33)
  have HB0 : Hid (Below w.heap.size w (w.alloc (.cells #[.int .i64 x.k, .int .i64 x.p, .int .i64 x.d, .int .i64 x.t.n, .string x.t.b, .string x.t.s, .string x.t.i, .int .i64 x.t.q, .int .i64 x.t.p, .string x.n, .int .i64 x.a, .slice A n c, .int .i64 x.hi, .int .u64 x.lo] 33))) := (Below.refl _ _).alloc (Nat.le_refl _) _
  obtain ⟨⟨x0, _⟩, _, _, _, x10, _⟩ := blk14 E1
  by_cases h3 : x.k = 3
  · have HC := Lib.hid fun W => isPrice_any W x.a (show Hid (r = isP x.a) by show _ = _; rw [hr.out]; unfold amtB; rw [if_pos h3])
    have h3b : (x.k == 3) = true := by simpa using h3
    clear E1 h3 hr
    go_enter Tryd.func31, Tryd.ntmps31
    go_upto_region 1 with fail
    generalize w.alloc _ = W0 at x0 x10 HB0 ⊢
    go_wp2_with (go_at_call 59; (with_reducible refine (HC.out _).mono ?_); rintro e w1 ⟨rfl, rfl⟩)
    go_ret
    exact ⟨rfl, HB0.out⟩
  · have h3b : (x.k == 3) = false := by simpa using h3
    have HR : Hid (r = (decide (1 ≤ x.a) && decide (x.a < 2147483648))) := by show _ = _; rw [hr.out]; unfold amtB; rw [if_neg h3]
    obtain ⟨b1, h1⟩ : ∃ b, decide (1 ≤ x.a) = b := ⟨_, rfl⟩
    obtain ⟨b2, h2⟩ : ∃ b, decide (x.a < 2147483648) = b := ⟨_, rfl⟩
    rw [h1, h2] at HR
    clear E1 h3 hr
    cases b1
    · have g1 := of_decide_eq_false h1
      obtain rfl : r = false := HR.out
      go_enter Tryd.func31, Tryd.ntmps31
      go_upto_region 1 with fail
      generalize w.alloc _ = W0 at x0 x10 HB0 ⊢
      go_wp2
      go_ret
      exact ⟨rfl, HB0.out⟩
    · have g1 := of_decide_eq_true h1
      obtain rfl : r = b2 := HR.out
      go_enter Tryd.func31, Tryd.ntmps31
      go_upto_region 1 with fail
      generalize w.alloc _ = W0 at x0 x10 HB0 ⊢
      go_wp2
      go_ret
      exact ⟨rfl, HB0.out⟩
end Go.Proofs.YteahloddjekakaaDoor.Nt

namespace Go.Proofs.YteahloddjekakaaDoor.Nt
open Go.RowKit Td

/-- Has the note nothing that its kind doesn't ask for? -/
def fitB (m : Nat) (x : Nt) (n : Nat) : Bool := ((kp m || (x.p != 0)) == kp m) && (((kd m || (x.d != 0)) == kd m) && (((kt m || hasT x) == kt m) && (((kn m || !x.n.toList.isEmpty) == kn m) && (((ka m || (x.a != 0)) == ka m) && (((kr m || decide (0 < n)) == kr m) && (((kc m || hasC x) == kc m) && true))))))
def pOk (x : Nt) : Bool := decide (0 ≤ x.p) && decide (x.p < 3)
def dOk (x : Nt) : Bool := decide (1 ≤ x.d) && decide (x.d ≤ 500)
/-- The six errors of a note of the kind m. -/
def errL (m : Nat) (x : Nt) (l : List Rw) : List Int := [unl (!kp m || pOk x) 5, unl (!kd m || dOk x) 2, if kt m = true then chk x.t else 0, if kn m = true then nameN x else 0, unl (!ka m || amtB x) 2, rowsE x.k l]
/-- What is wrong with a note. -/
def chkN (x : Nt) (l : List Rw) : Int := if isK x.k = true then (if fitB x.k.toNat x l.length = true then orL (errL x.k.toNat x l) else 1) else 1
def SmN (x : Nt) (l : List Rw) : Prop := Sm x.t ∧ x.n.size ≤ 100000 ∧ l.length ≤ 1000 ∧ SmR l
theorem row6' (w : World) (a b c d e f : Int) (t : TypeId) : RowAt (w.alloc (.cells #[.int .i64 a, .int .i64 b, .int .i64 c, .int .i64 d, .int .i64 e, .int .i64 f] t)) w.heap.size [a, b, c, d, e, f] := by
  have h := block_new w (.cells #[.int .i64 a, .int .i64 b, .int .i64 c, .int .i64 d, .int .i64 e, .int .i64 f] t)
  intro j hj
  match j, hj with
  | 0, _ => rw [cell_of_row _ _ 0 _ _ _ h]; rfl
  | 1, _ => rw [cell_of_row _ _ 1 _ _ _ h]; rfl
  | 2, _ => rw [cell_of_row _ _ 2 _ _ _ h]; rfl
  | 3, _ => rw [cell_of_row _ _ 3 _ _ _ h]; rfl
  | 4, _ => rw [cell_of_row _ _ 4 _ _ _ h]; rfl
  | 5, _ => rw [cell_of_row _ _ 5 _ _ _ h]; rfl
  | n + 6, hj => simp at hj; omega
theorem ka_only (m : Nat) (h : ka m = true) : kp m = false ∧ kd m = false := by
  simp only [ka, Bool.or_eq_true, Bool.and_eq_true, decide_eq_true_eq] at h
  have hm : m = 3 ∨ m = 5 ∨ m = 6 := by omega
  rcases hm with rfl | rfl | rfl <;> decide
theorem six_le : (6 : Nat) ≤ 1000 := by decide


end Go.Proofs.YteahloddjekakaaDoor.Nt

namespace Go.Proofs.YteahloddjekakaaDoor.Nt
open Go.RowKit Td

/-- Has the note something that its kind doesn't ask for? -/
def offB (x : Nt) (n : Nat) : Bool := (((((((!askB x.k 112 && (x.p != 0)) || (!askB x.k 100 && (x.d != 0))) || (!askB x.k 116 && hasT x)) || (!askB x.k 110 && decide (0 < x.n.size))) || (!askB x.k 97 && (x.a != 0))) || (!askB x.k 114 && decide (0 < n))) || (!askB x.k 99 && ((x.hi != 0) || (x.lo != 0))))
/-- What the reference tells of a note: something too much; day, trade wrong; a name asked for; amount wrong. -/
def chkR (b t8 t10 g3 t18 : Bool) (tc : Int) (x : Nt) (l : List Rw) : Int := if b = true then 1 else if pOk x = false then 5 else if t8 = true then 2 else if t10 = true then tc else if (g3 && (nameN x != 0)) = true then nameN x else if t18 = true then 2 else rowsE x.k l
def chkQ (x : Nt) (n : Nat) (l : List Rw) : Int := chkR (offB x n) (askB x.k 100 && !dOk x) (askB x.k 116 && (chk x.t != 0)) (askB x.k 110) (askB x.k 97 && !amtB x) (chk x.t) x l
theorem ask_all (m : Nat) (h1 : 1 ≤ m) (h2 : m ≤ 12) : askB (m : Int) 112 = kp m ∧ askB (m : Int) 100 = kd m ∧ askB (m : Int) 116 = kt m ∧ askB (m : Int) 110 = kn m ∧ askB (m : Int) 97 = ka m ∧ askB (m : Int) 114 = kr m ∧ askB (m : Int) 99 = kc m := by
  have hm : m = 1 ∨ m = 2 ∨ m = 3 ∨ m = 4 ∨ m = 5 ∨ m = 6 ∨ m = 7 ∨ m = 8 ∨ m = 9 ∨ m = 10 ∨ m = 11 ∨ m = 12 := by omega
  rcases hm with rfl | rfl | rfl | rfl | rfl | rfl | rfl | rfl | rfl | rfl | rfl | rfl <;> exact ⟨by kernel_rfl, by kernel_rfl, by kernel_rfl, by kernel_rfl, by kernel_rfl, by kernel_rfl, by kernel_rfl⟩
theorem fit_one (g q : Bool) : ((g || q) == g) = !(!g && q) := by cases g <;> cases q <;> rfl
theorem seven (a b c d e f g : Bool) : (!a && (!b && (!c && (!d && (!e && (!f && (!g && true))))))) = !((((((a || b) || c) || d) || e) || f) || g) := by
  cases a <;> cases b <;> cases c <;> cases d <;> cases e <;> cases f <;> cases g <;> rfl
theorem loop_len (s : ByteArray) : ∀ (k i : Nat) (r : List UInt8), s.size - i = k → (ByteArray.toList.loop s i r).length = r.length + k
  | 0, i, r, h => by
    unfold ByteArray.toList.loop
    rw [if_neg (by omega), List.length_reverse]
    rfl
  | k + 1, i, r, h => by
    unfold ByteArray.toList.loop
    rw [if_pos (by omega), loop_len s k (i + 1) _ (by omega), List.length_cons]
    omega
theorem nam_size (s : ByteArray) : (!s.toList.isEmpty) = decide (0 < s.size) := by
  have h : s.toList.length = s.size := by
    have := loop_len s s.size 0 [] rfl
    rw [List.length_nil, Nat.zero_add] at this
    unfold ByteArray.toList
    exact this
  cases hl : s.toList with
  | nil =>
    rw [hl] at h
    have e : s.size = 0 := h.symm
    rw [e]; rfl
  | cons a r =>
    rw [hl] at h
    rw [decide_eq_true (by rw [← h, List.length_cons]; omega)]; rfl
theorem cash_two (a b : Int) : (!((a == 0) && ((b == 0) && true))) = ((a != 0) || (b != 0)) := by
  simp only [bne, Bool.and_true]
  cases (a == 0) <;> cases (b == 0) <;> rfl
theorem off_fit (m : Nat) (h1 : 1 ≤ m) (h2 : m ≤ 12) (x : Nt) (n : Nat) (hk : x.k = (m : Int)) : fitB m x n = !offB x n := by
  obtain ⟨a0, a1, a2, a3, a4, a5, a6⟩ := ask_all m h1 h2
  unfold fitB offB
  rw [hk, a0, a1, a2, a3, a4, a5, a6, fit_one, fit_one, fit_one, fit_one, fit_one, fit_one, fit_one, seven, nam_size]
  unfold hasC
  rw [cash_two]
theorem chkQ_eq (x : Nt) (l : List Rw) (hk : isK x.k = true) : chkQ x l.length l = chkN x l := by
  obtain ⟨m, hm, h1, h2⟩ := isK_yes hk
  have hof := off_fit m h1 h2 x l.length hm
  obtain ⟨a0, a1, a2, a3, a4, a5, a6⟩ := ask_all m h1 h2
  have hp : kp m = false → offB x l.length = false → pOk x = true := by
    intro hp ho
    have e : (!askB x.k 112 && (x.p != 0)) = false := by
      unfold offB at ho
      simp only [Bool.or_eq_false_iff] at ho
      exact ho.1.1.1.1.1.1
    rw [hm, a0, hp] at e
    have e2 : x.p = 0 := by simpa using e
    unfold pOk; rw [e2]; rfl
  unfold chkQ chkN
  rw [if_pos hk, hm, Int.toNat_natCast, a1, a2, a3, a4, hof]
  cases hob : offB x l.length
  · have hp := fun h => hp h hob
    unfold chkR errL
    clear a0 a1 a2 a3 a4 a5 a6 hof hob h1 h2 hm hk
    generalize kp m = g0 at *
    generalize kd m = g1 at *
    generalize kt m = g2 at *
    generalize kn m = g3 at *
    generalize ka m = g4 at *
    generalize pOk x = P at *
    generalize dOk x = D at *
    generalize amtB x = M at *
    generalize chk x.t = T at *
    generalize nameN x = N at *
    generalize rowsE x.k l = R at *
    cases P
    · have : g0 = true := by
        cases g0
        · exact absurd (hp rfl) (by decide)
        · rfl
      subst this
      rfl
    · have u : unl (!g0 || true) 5 = 0 := by cases g0 <;> rfl
      rw [u]
      clear u hp
      cases g1 <;> cases D <;> cases g2 <;> cases g3 <;> cases g4 <;> cases M <;> by_cases hT : T = 0 <;> by_cases hN : N = 0 <;> by_cases hR : R = 0 <;> simp [orL, unl, hT, hN, hR]
  · rfl
end Go.Proofs.YteahloddjekakaaDoor.Nt
