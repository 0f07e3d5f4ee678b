/-
  A trade that came in, opened; and a row that lists variables, with the world's shape. Conditions: none.
-/
import Derived.Test.YteahloddjekakaaDoorYBase
import Derived.Test.YteahloddjekakaaDoorRows
import Derived.ProofKit
import Derived.OpenShut
import Derived.ChangeOld
import Derived.Lib.SmallJoins
import Derived.ChangeMaps5
import Derived.HandedShaped
import Derived.Handed
import Derived.Lay
import Derived.LaidMore
namespace Go.Proofs.YteahloddjekakaaDoor.Td
open Go.ChangeShapes Go.WideShapes Go.ChangeAt Go.RowKit Go.Joins Go.Deep

set_option maxRecDepth 100000 in
/-- Six cells that read as a trade are one. -/
theorem trod_tr {H : Type} {enc : TypeId × Value → H} {w : World} {base : Nat} {spare : Nat → Bool} {held : Bool} {f0 f1 f2 f3 f4 f5 : Field} {fuel : Nat} {cs : List Value} {x : DataW H × List MemPlace} (he : Tryd.prog.underlying 23 = some (.struct #[f0, f1, f2, f3, f4, f5]))
    (o0 : f0.offset = 0) (o1 : f1.offset = 1) (o2 : f2.offset = 2) (o3 : f3.offset = 3) (o4 : f4.offset = 4) (o5 : f5.offset = 5) (t0 : f0.type = 2) (t1 : f1.type = 9) (t2 : f2.type = 9) (t3 : f3.type = 9) (t4 : f4.type = 2) (t5 : f5.type = 2)
    (h : DataW.trod enc Tryd.prog w base spare held fuel 23 cs = some x) : ∃ t : Tr, cs = [.int .i64 t.n, .string t.b, .string t.s, .string t.i, .int .i64 t.q, .int .i64 t.p] ∧ I64 t.n ∧ I64 t.q ∧ I64 t.p := by
  have cj : Tryd.prog.cellsOf 2 = 1 := by kernel_rfl
  have ct : Tryd.prog.cellsOf 9 = 1 := by kernel_rfl
  have cc : Tryd.prog.cellsOf 23 = 6 := by kernel_rfl
  obtain ⟨xs, k, hk, hxy, hl, hxl, hf⟩ := DataW.trod_struct he h
  rw [cc] at hl
  match xs, hxl, cs, hl with
  | [y0, y1, y2, y3, y4, y5], _, [v0, v1, v2, v3, v4, v5], _ =>
    have g0 := hf 0 f0 rfl
    have g1 := hf 1 f1 rfl
    have g2 := hf 2 f2 rfl
    have g3 := hf 3 f3 rfl
    have g4 := hf 4 f4 rfl
    have g5 := hf 5 f5 rfl
    simp [o0, o1, o2, o3, o4, o5, t0, t1, t2, t3, t4, t5, cj, ct] at g0 g1 g2 g3 g4 g5
    obtain ⟨z0, q0, _, w0⟩ := DataW.trod_int Tryd.underlying2 g0
    obtain ⟨z1, q1, _, _⟩ := DataW.trod_string Tryd.underlying9 g1
    obtain ⟨z2, q2, _, _⟩ := DataW.trod_string Tryd.underlying9 g2
    obtain ⟨z3, q3, _, _⟩ := DataW.trod_string Tryd.underlying9 g3
    obtain ⟨z4, q4, _, w4⟩ := DataW.trod_int Tryd.underlying2 g4
    obtain ⟨z5, q5, _, w5⟩ := DataW.trod_int Tryd.underlying2 g5
    simp at q0 q1 q2 q3 q4 q5
    subst q0 q1 q2 q3 q4 q5
    simp [Lit.wf, IntKind.min, IntKind.max, IntKind.signed, IntKind.bits] at w0 w4 w5
    exact ⟨⟨z0, z1, z2, z3, z4, z5⟩, rfl, ⟨by show _ ≤ z0; omega, by show z0 ≤ _; omega⟩, ⟨by show _ ≤ z4; omega, by show z4 ≤ _; omega⟩, ⟨by show _ ≤ z5; omega, by show z5 ≤ _; omega⟩⟩

set_option maxRecDepth 100000 in
/-- A trade by value that came in. -/
theorem open_tr {H : Type} {enc : TypeId × Value → H} {w : World} {base b0 : Nat} {spare : Nat → Bool} {held : Bool} {r : Reach} {v : Value} {d : DataW H} {p : List MemPlace}
    (hv : Value.okWide Tryd.prog w r b0 23 v) (h : DataW.Trod enc Tryd.prog w base spare held 23 v d p) : ∃ t : Tr, v = .agg #[.int .i64 t.n, .string t.b, .string t.s, .string t.i, .int .i64 t.q, .int .i64 t.p] ∧ I64 t.n ∧ I64 t.q ∧ I64 t.p := by
  obtain ⟨cs, rfl, hsz⟩ := okWide_struct Tryd.underlying23 hv
  obtain ⟨fuel, hf⟩ := h
  obtain ⟨t, ht, hk⟩ := trod_tr Tryd.underlying23 rfl rfl rfl rfl rfl rfl rfl rfl rfl rfl rfl rfl hf
  refine ⟨t, ?_, hk⟩
  have e : cs.toList = [.int .i64 t.n, .string t.b, .string t.s, .string t.i, .int .i64 t.q, .int .i64 t.p] := by simpa [Value.cells] using ht
  congr 1
  exact Array.toList_inj.1 e

end Go.Proofs.YteahloddjekakaaDoor.Td
