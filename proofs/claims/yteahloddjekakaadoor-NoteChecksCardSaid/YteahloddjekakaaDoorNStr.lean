/-
  Structs that are compared, as one Bool: trades, what a note has once, wide numbers, parts. Conditions: none.
-/
import Derived.Test.YteahloddjekakaaDoorNRow
namespace Go.Proofs.YteahloddjekakaaDoor.Nt
open Go.RowKit Td

theorem eqF_nil (d : Nat) (xs ys : Array Value) (W : World) : (Op.eqFields d xs ys []).run Tryd.prog W = .ok true W := rfl
theorem eqF_cons {f : Field} {fs : List Field} {d : Nat} {xs ys : Array Value} {a b : Value} {q r : Bool} {W : World} (hn : f.name ≠ "_") (ha : (part f.type xs f.offset).run Tryd.prog W = .ok a W) (hb : (part f.type ys f.offset).run Tryd.prog W = .ok b W)
    (hq : (Op.equalIn d f.type a b).run Tryd.prog W = .ok q W) (hr : (Op.eqFields d xs ys fs).run Tryd.prog W = .ok r W) : (Op.eqFields d xs ys (f :: fs)).run Tryd.prog W = .ok (q && r) W := by
  unfold Op.eqFields
  rw [if_pos hn]
  simp only [Sem.run_bind, ha, hb, hq, Result.andThen_ok, Sem.run_ite, hr]
  cases q <;> simp
theorem eq_str {t : TypeId} {fs : Array Field} {d : Nat} {xs ys : Array Value} {r : Bool} {W : World} (ht : Tryd.prog.underlying t = some (.struct fs)) (hp : Tryd.prog.stoodInHeld t = false) (h : (Op.eqFields d xs ys fs.toList).run Tryd.prog W = .ok r W) :
    (Op.equalIn (d + 1) t (.agg xs) (.agg ys)).run Tryd.prog W = .ok r W := by
  have hf : Tryd.prog.fieldsOf t = fs := by simp [Program.fieldsOf, ht]
  rw [run_equalIn_agg W d t xs ys (by rw [hf]; exact ht) hp, hf]
  exact h
theorem eql_of {t : TypeId} {xs ys : Array Value} {r : Bool} {W : World} (h : (Op.equalIn 10000 t (.agg xs) (.agg ys)).run Tryd.prog W = .ok r W) : (binOp .eql t (.agg xs) (.agg ys)).run Tryd.prog W = .ok (.bool r) W := by
  rw [run_eql_struct, h]; rfl
theorem neq_of {t : TypeId} {xs ys : Array Value} {r : Bool} {W : World} (h : (Op.equalIn 10000 t (.agg xs) (.agg ys)).run Tryd.prog W = .ok r W) : (binOp .neq t (.agg xs) (.agg ys)).run Tryd.prog W = .ok (.bool !r) W := by
  rw [run_neq_struct, h]; rfl
theorem q_int (d : Nat) (a b : Int) (W : World) : (Op.equalIn (d + 1) 3 (.int .i64 a) (.int .i64 b)).run Tryd.prog W = .ok (a == b) W := run_equalIn_int W d _ _ _ a b Tryd.underlying3
theorem q_i64 (d : Nat) (a b : Int) (W : World) : (Op.equalIn (d + 1) 2 (.int .i64 a) (.int .i64 b)).run Tryd.prog W = .ok (a == b) W := run_equalIn_int W d _ _ _ a b Tryd.underlying2
theorem q_u64 (d : Nat) (a b : Int) (W : World) : (Op.equalIn (d + 1) 25 (.int .u64 a) (.int .u64 b)).run Tryd.prog W = .ok (a == b) W := run_equalIn_int W d _ _ _ a b Tryd.underlying25
theorem q_str (d : Nat) (a b : ByteArray) (W : World) : (Op.equalIn (d + 1) 9 (.string a) (.string b)).run Tryd.prog W = .ok (a.toList == b.toList) W := run_equalIn_string W d _ a b Tryd.underlying9
theorem q_bool (d : Nat) (a b : Bool) (W : World) : (Op.equalIn (d + 1) 4 (.bool a) (.bool b)).run Tryd.prog W = .ok (a == b) W := run_equalIn_bool' W d _ a b Tryd.underlying4

def eqT (x y : Tr) : Bool := (x.n == y.n) && ((x.b.toList == y.b.toList) && ((x.s.toList == y.s.toList) && ((x.i.toList == y.i.toList) && ((x.q == y.q) && ((x.p == y.p) && true)))))
theorem q_tr (d : Nat) (x y : Tr) (W : World) : (Op.equalIn (d + 2) 28 (.agg #[.int .i64 x.n, .string x.b, .string x.s, .string x.i, .int .i64 x.q, .int .i64 x.p]) (.agg #[.int .i64 y.n, .string y.b, .string y.s, .string y.i, .int .i64 y.q, .int .i64 y.p])).run Tryd.prog W = .ok (eqT x y) W :=
  eq_str Tryd.underlying28 (by kernel_rfl) (eqF_cons (by decide) (by kernel_rfl) (by kernel_rfl) (q_i64 _ _ _ _) (eqF_cons (by decide) (by kernel_rfl) (by kernel_rfl) (q_str _ _ _ _) (eqF_cons (by decide) (by kernel_rfl) (by kernel_rfl) (q_str _ _ _ _) (eqF_cons (by decide) (by kernel_rfl) (by kernel_rfl) (q_str _ _ _ _)
    (eqF_cons (by decide) (by kernel_rfl) (by kernel_rfl) (q_i64 _ _ _ _) (eqF_cons (by decide) (by kernel_rfl) (by kernel_rfl) (q_i64 _ _ _ _) (eqF_nil _ _ _ _)))))))
theorem q_rtr (d : Nat) (x y : Tr) (W : World) : (Op.equalIn (d + 2) 23 (.agg #[.int .i64 x.n, .string x.b, .string x.s, .string x.i, .int .i64 x.q, .int .i64 x.p]) (.agg #[.int .i64 y.n, .string y.b, .string y.s, .string y.i, .int .i64 y.q, .int .i64 y.p])).run Tryd.prog W = .ok (eqT x y) W :=
  eq_str Tryd.underlying23 (by kernel_rfl) (eqF_cons (by decide) (by kernel_rfl) (by kernel_rfl) (q_i64 _ _ _ _) (eqF_cons (by decide) (by kernel_rfl) (by kernel_rfl) (q_str _ _ _ _) (eqF_cons (by decide) (by kernel_rfl) (by kernel_rfl) (q_str _ _ _ _) (eqF_cons (by decide) (by kernel_rfl) (by kernel_rfl) (q_str _ _ _ _)
    (eqF_cons (by decide) (by kernel_rfl) (by kernel_rfl) (q_i64 _ _ _ _) (eqF_cons (by decide) (by kernel_rfl) (by kernel_rfl) (q_i64 _ _ _ _) (eqF_nil _ _ _ _)))))))
theorem q_wide (d : Nat) (h l h' l' : Int) (W : World) : (Op.equalIn (d + 2) 31 (.agg #[.int .i64 h, .int .u64 l]) (.agg #[.int .i64 h', .int .u64 l'])).run Tryd.prog W = .ok ((h == h') && ((l == l') && true)) W :=
  eq_str Tryd.underlying31 (by kernel_rfl) (eqF_cons (by decide) (by kernel_rfl) (by kernel_rfl) (q_i64 _ _ _ _) (eqF_cons (by decide) (by kernel_rfl) (by kernel_rfl) (q_u64 _ _ _ _) (eqF_nil _ _ _ _)))
/-- Are two notes' single parts the same? -/
def eqS (x y : Nt) : Bool := (x.k == y.k) && ((x.p == y.p) && ((x.d == y.d) && (eqT x.t y.t && ((x.n.toList == y.n.toList) && ((x.a == y.a) && (((x.hi == y.hi) && ((x.lo == y.lo) && true)) && true))))))
theorem q_single (d : Nat) (x y : Nt) (W : World) : (Op.equalIn (d + 3) 97 (.agg #[.int .i64 x.k, .int .i64 x.p, .int .i64 x.d, .int .i64 x.t.n, .string x.t.b, .string x.t.s, .string x.t.i, .int .i64 x.t.q, .int .i64 x.t.p, .string x.n, .int .i64 x.a, .int .i64 x.hi, .int .u64 x.lo]) (.agg #[.int .i64 y.k, .int .i64 y.p, .int .i64 y.d, .int .i64 y.t.n, .string y.t.b, .string y.t.s, .string y.t.i, .int .i64 y.t.q, .int .i64 y.t.p, .string y.n, .int .i64 y.a, .int .i64 y.hi, .int .u64 y.lo])).run Tryd.prog W = .ok (eqS x y) W :=
  eq_str Tryd.underlying97 (by kernel_rfl) (eqF_cons (by decide) (by kernel_rfl) (by kernel_rfl) (q_int _ _ _ _) (eqF_cons (by decide) (by kernel_rfl) (by kernel_rfl) (q_int _ _ _ _) (eqF_cons (by decide) (by kernel_rfl) (by kernel_rfl) (q_int _ _ _ _)
    (eqF_cons (a := .agg #[.int .i64 x.t.n, .string x.t.b, .string x.t.s, .string x.t.i, .int .i64 x.t.q, .int .i64 x.t.p]) (b := .agg #[.int .i64 y.t.n, .string y.t.b, .string y.t.s, .string y.t.i, .int .i64 y.t.q, .int .i64 y.t.p]) (by decide) (by kernel_rfl) (by kernel_rfl) (q_tr _ _ _ _) (eqF_cons (by decide) (by kernel_rfl) (by kernel_rfl) (q_str _ _ _ _) (eqF_cons (by decide) (by kernel_rfl) (by kernel_rfl) (q_i64 _ _ _ _)
      (eqF_cons (a := .agg #[.int .i64 x.hi, .int .u64 x.lo]) (b := .agg #[.int .i64 y.hi, .int .u64 y.lo]) (by decide) (by kernel_rfl) (by kernel_rfl) (q_wide _ _ _ _ _ _) (eqF_nil _ _ _ _))))))))
theorem q_parts (d : Nat) (a0 a1 a2 a3 a4 a5 a6 b0 b1 b2 b3 b4 b5 b6 : Bool) (W : World) : (Op.equalIn (d + 2) 62 (.agg #[.bool a0, .bool a1, .bool a2, .bool a3, .bool a4, .bool a5, .bool a6]) (.agg #[.bool b0, .bool b1, .bool b2, .bool b3, .bool b4, .bool b5, .bool b6])).run Tryd.prog W =
    .ok ((a0 == b0) && ((a1 == b1) && ((a2 == b2) && ((a3 == b3) && ((a4 == b4) && ((a5 == b5) && ((a6 == b6) && true))))))) W :=
  eq_str Tryd.underlying62 (by kernel_rfl) (eqF_cons (by decide) (by kernel_rfl) (by kernel_rfl) (q_bool _ _ _ _) (eqF_cons (by decide) (by kernel_rfl) (by kernel_rfl) (q_bool _ _ _ _) (eqF_cons (by decide) (by kernel_rfl) (by kernel_rfl) (q_bool _ _ _ _) (eqF_cons (by decide) (by kernel_rfl) (by kernel_rfl) (q_bool _ _ _ _)
    (eqF_cons (by decide) (by kernel_rfl) (by kernel_rfl) (q_bool _ _ _ _) (eqF_cons (by decide) (by kernel_rfl) (by kernel_rfl) (q_bool _ _ _ _) (eqF_cons (by decide) (by kernel_rfl) (by kernel_rfl) (q_bool _ _ _ _) (eqF_nil _ _ _ _))))))))
end Go.Proofs.YteahloddjekakaaDoor.Nt
