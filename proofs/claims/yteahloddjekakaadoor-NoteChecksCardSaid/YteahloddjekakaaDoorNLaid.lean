/-
  The table of kinds, out of the row's condition. Conditions: none.
-/
import Derived.Test.YteahloddjekakaaDoorNBase
import Derived.Test.YteahloddjekakaaDoorRows
import Derived.ProofKit
import Derived.OpenShut
import Derived.ChangeOld
import Derived.ChangeArms
import Derived.LaidMore
import Derived.MakeChecks
import Derived.Lib.LaidTab
namespace Go.Proofs.YteahloddjekakaaDoor.Nt
open Go.ChangeShapes Go.WideShapes Go.ChangeAt Go.RowKit

set_option maxRecDepth 100000 in
/-- A kind's row. -/
theorem kind_row {H : Type} {enc : TypeId × Value → H} {w : World} {base : Nat} {spare : Nat → Bool} {held : Bool} {fuel : Nat} {cs : List Value} {q : List MemPlace} {bs : List UInt8} {b0 b1 b2 b3 b4 b5 b6 : Bool} {f0 f1 g0 g1 g2 g3 g4 g5 g6 : Field}
    (he : Tryd.prog.underlying 63 = some (.struct #[f0, f1])) (hp : Tryd.prog.underlying 62 = some (.struct #[g0, g1, g2, g3, g4, g5, g6]))
    (o0 : f0.offset = 0) (o1 : f1.offset = 1) (t0 : f0.type = 9) (t1 : f1.type = 62)
    (p0 : g0.offset = 0) (p1 : g1.offset = 1) (p2 : g2.offset = 2) (p3 : g3.offset = 3) (p4 : g4.offset = 4) (p5 : g5.offset = 5) (p6 : g6.offset = 6)
    (u0 : g0.type = 4) (u1 : g1.type = 4) (u2 : g2.type = 4) (u3 : g3.type = 4) (u4 : g4.type = 4) (u5 : g5.type = 4) (u6 : g6.type = 4)
    (h : DataW.trod enc Tryd.prog w base spare held fuel 63 cs = some (.agg [.lit (.string bs), .agg [.lit (.bool b0), .lit (.bool b1), .lit (.bool b2), .lit (.bool b3), .lit (.bool b4), .lit (.bool b5), .lit (.bool b6)]], q)) :
    cs = [.string ⟨bs.toArray⟩, .bool b0, .bool b1, .bool b2, .bool b3, .bool b4, .bool b5, .bool b6] := by
  have ct : Tryd.prog.cellsOf 9 = 1 := by kernel_rfl
  have cb : Tryd.prog.cellsOf 4 = 1 := by kernel_rfl
  have cp : Tryd.prog.cellsOf 62 = 7 := by kernel_rfl
  have cc : Tryd.prog.cellsOf 63 = 8 := by kernel_rfl
  obtain ⟨xs, k, hk, hxy, hl, hxl, hf⟩ := DataW.trod_struct he h
  rw [cc] at hl
  match xs, hxl, cs, hl with
  | [y0, y1], _, [v0, v1, v2, v3, v4, v5, v6, v7], _ =>
    have e0 := hf 0 f0 rfl
    have e1 := hf 1 f1 rfl
    simp [o0, o1, t0, t1, ct, cp] at e0 e1
    simp only [List.map_cons, List.map_nil, Prod.mk.injEq, DataW.agg.injEq, List.cons.injEq, and_true] at hxy
    obtain ⟨⟨hy0, hy1⟩, _⟩ := hxy
    obtain ⟨z0, q0, r0, _⟩ := DataW.trod_string Tryd.underlying9 e0
    obtain ⟨ws, k2, _, hwy, _, hwl, hg⟩ := DataW.trod_struct hp e1
    match ws, hwl with
    | [a0, a1, a2, a3, a4, a5, a6], _ =>
      have d0 := hg 0 g0 rfl
      have d1 := hg 1 g1 rfl
      have d2 := hg 2 g2 rfl
      have d3 := hg 3 g3 rfl
      have d4 := hg 4 g4 rfl
      have d5 := hg 5 g5 rfl
      have d6 := hg 6 g6 rfl
      simp [p0, p1, p2, p3, p4, p5, p6, u0, u1, u2, u3, u4, u5, u6, cb] at d0 d1 d2 d3 d4 d5 d6
      obtain ⟨x0, m0, n0⟩ := DataW.trod_bool Tryd.underlying4 d0
      obtain ⟨x1, m1, n1⟩ := DataW.trod_bool Tryd.underlying4 d1
      obtain ⟨x2, m2, n2⟩ := DataW.trod_bool Tryd.underlying4 d2
      obtain ⟨x3, m3, n3⟩ := DataW.trod_bool Tryd.underlying4 d3
      obtain ⟨x4, m4, n4⟩ := DataW.trod_bool Tryd.underlying4 d4
      obtain ⟨x5, m5, n5⟩ := DataW.trod_bool Tryd.underlying4 d5
      obtain ⟨x6, m6, n6⟩ := DataW.trod_bool Tryd.underlying4 d6
      subst n0 n1 n2 n3 n4 n5 n6
      rw [hwy] at hy1
      simp at hy1 q0 m0 m1 m2 m3 m4 m5 m6
      obtain ⟨rfl, rfl, rfl, rfl, rfl, rfl, rfl⟩ := hy1
      subst q0 m0 m1 m2 m3 m4 m5 m6
      rw [r0] at hy0
      simp at hy0
      subst hy0
      rfl

/-- The datum of a kind's row. -/
def kDat (k : Nat) : DataW Unit := .agg [.lit (.string (kwB k).data.toList), .agg [.lit (.bool (kp k)), .lit (.bool (kd k)), .lit (.bool (kt k)), .lit (.bool (kn k)), .lit (.bool (ka k)), .lit (.bool (kr k)), .lit (.bool (kc k))]]
theorem kDats : (Rows.laid_clevis_note_kinds : DataW Unit) = .agg ((List.range 13).map kDat) := by kernel_rfl
set_option maxRecDepth 100000 in
theorem kin_of_laid (W : World) (h : laidMetH Tryd.prog [("clevis/note.kinds", Rows.laid_clevis_note_kinds)] W) : KinC W := by
  rw [MakeChecks.laidMetH_plain _ _ _ (by kernel_rfl)] at h
  obtain ⟨ps, ⟨g, t, cs, fuel, p, q, hg, ht, hvar, hd, _, _⟩, _⟩ := h
  have hg0 : Tryd.prog.globalNamed "clevis/note.kinds" = some 0 := by kernel_rfl
  obtain rfl := Option.some.inj (hg0.symm.trans hg)
  have ht0 : (Tryd.prog.globals[0]?).map (·.type) = some 64 := by kernel_rfl
  obtain rfl := Option.some.inj (ht0.symm.trans ht)
  have ce : Tryd.prog.cellsOf 63 = 8 := by kernel_rfl
  rw [kDats] at hd
  obtain ⟨xs, m, _, hxy, hl, hxl, hi⟩ := DataW.trod_array Tryd.underlying64 hd
  have hcell : ∀ j, W.cell? ⟨0, j, none⟩ = cs[j]? := fun j => World.var?_cell hg0 hvar j
  have hbl : 0 < W.heap.size := by
    have h0 : cs[0]?.isSome = true := by
      have : 0 < cs.size := by
        have hk := Tryd.underlying64
        have hc : Tryd.prog.cellsOf 64 = 104 := by kernel_rfl
        rw [hc] at hl
        simp at hl; omega
      simp [this]
    obtain ⟨v, hv⟩ := Option.isSome_iff_exists.1 h0
    exact World.block_lt_of_cell? _ _ ((hcell 0).trans hv)
  refine ⟨hbl, fun k hk => ?_⟩
  have hik := hi k (by omega)
  rw [ce] at hik
  have hxk : xs[k]?.map (·.1) = some (kDat k) := by
    simp only [Prod.mk.injEq, DataW.agg.injEq] at hxy
    have := hxy.1
    rw [← List.getElem?_map, ← this, List.getElem?_map, List.getElem?_range (by omega)]
    rfl
  obtain ⟨xk, hxk1, hxk2⟩ := Option.map_eq_some_iff.1 hxk
  rw [hxk1] at hik
  obtain ⟨x1, x2⟩ := xk
  simp only at hxk2
  subst hxk2
  have hrow := kind_row Tryd.underlying63 Tryd.underlying62 rfl rfl rfl rfl rfl rfl rfl rfl rfl rfl rfl rfl rfl rfl rfl rfl rfl rfl hik
  have hat : ∀ j, j < 8 → W.cell? ⟨0, k * 8 + j, none⟩ = ([.string ⟨(kwB k).data.toList.toArray⟩, .bool (kp k), .bool (kd k), .bool (kt k), .bool (kn k), .bool (ka k), .bool (kr k), .bool (kc k)] : List Value)[j]? := fun j hj => by
    rw [hcell, ← hrow, List.getElem?_take, if_pos hj, List.getElem?_drop]
    simp
  have h0 := hat 0 (by omega)
  exact ⟨by simpa using h0, hat 1 (by omega), hat 2 (by omega), hat 3 (by omega), hat 4 (by omega), hat 5 (by omega), hat 6 (by omega), hat 7 (by omega)⟩
end Go.Proofs.YteahloddjekakaaDoor.Nt
