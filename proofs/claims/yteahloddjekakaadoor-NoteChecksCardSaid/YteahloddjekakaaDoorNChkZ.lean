/-
  The contract of Check. Conditions: the table of kinds lies as the program's text lays it; names of at most 100000 bytes, at most a thousand rows.
-/
import Derived.Test.YteahloddjekakaaDoorNAny
namespace Go.Proofs.YteahloddjekakaaDoor.Nt
open Go.RowKit Td

/-- Has the note nothing that its kind doesn't ask for? -/
def fitB (m : Nat) (x : Nt) (n : Nat) : Bool := ((kp m || (x.p != 0)) == kp m) && (((kd m || (x.d != 0)) == kd m) && (((kt m || hasT x) == kt m) && (((kn m || !x.n.toList.isEmpty) == kn m) && (((ka m || (x.a != 0)) == ka m) && (((kr m || decide (0 < n)) == kr m) && (((kc m || hasC x) == kc m) && true))))))
def pOk (x : Nt) : Bool := decide (0 ≤ x.p) && decide (x.p < 3)
def dOk (x : Nt) : Bool := decide (1 ≤ x.d) && decide (x.d ≤ 500)
/-- The six errors of a note of the kind m. -/
def errL (m : Nat) (x : Nt) (l : List Rw) : List Int := [unl (!kp m || pOk x) 5, unl (!kd m || dOk x) 2, if kt m = true then chk x.t else 0, if kn m = true then nameN x else 0, unl (!ka m || amtB x) 2, rowsE x.k l]
/-- What is wrong with a note. -/
def chkN (x : Nt) (l : List Rw) : Int := if isK x.k = true then (if fitB x.k.toNat x l.length = true then orL (errL x.k.toNat x l) else 1) else 1
def SmN (x : Nt) (l : List Rw) : Prop := Sm x.t ∧ x.n.size ≤ 100000 ∧ l.length ≤ 1000 ∧ SmR l
theorem row6' (w : World) (a b c d e f : Int) (t : TypeId) : RowAt (w.alloc (.cells #[.int .i64 a, .int .i64 b, .int .i64 c, .int .i64 d, .int .i64 e, .int .i64 f] t)) w.heap.size [a, b, c, d, e, f] := by
  have h := block_new w (.cells #[.int .i64 a, .int .i64 b, .int .i64 c, .int .i64 d, .int .i64 e, .int .i64 f] t)
  intro j hj
  match j, hj with
  | 0, _ => rw [cell_of_row _ _ 0 _ _ _ h]; rfl
  | 1, _ => rw [cell_of_row _ _ 1 _ _ _ h]; rfl
  | 2, _ => rw [cell_of_row _ _ 2 _ _ _ h]; rfl
  | 3, _ => rw [cell_of_row _ _ 3 _ _ _ h]; rfl
  | 4, _ => rw [cell_of_row _ _ 4 _ _ _ h]; rfl
  | 5, _ => rw [cell_of_row _ _ 5 _ _ _ h]; rfl
  | n + 6, hj => simp at hj; omega
theorem ka_only (m : Nat) (h : ka m = true) : kp m = false ∧ kd m = false := by
  simp only [ka, Bool.or_eq_true, Bool.and_eq_true, decide_eq_true_eq] at h
  have hm : m = 3 ∨ m = 5 ∨ m = 6 := by omega
  rcases hm with rfl | rfl | rfl <;> decide
theorem six_le : (6 : Nat) ≤ 1000 := by decide


end Go.Proofs.YteahloddjekakaaDoor.Nt
