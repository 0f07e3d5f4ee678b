/-
  A slice of the reference's rows that came in, opened. Conditions: none.
-/
import Derived.Test.YtflhpijcfiamgaaTOfl
import Derived.ProofKit
import Derived.OpenShut
import Derived.ChangeOld
import Derived.Lib.SmallJoins
import Derived.ChangeMaps5
import Derived.Deep.SlicePairs
namespace Go.Proofs.Ytflhpijcfiamgaa
open Go.ChangeShapes Go.WideShapes Go.ChangeAt Go.RowKit Go.Joins Go.Deep

theorem rrow_cellsOf : Try.prog.cellsOf 53 = 2 := by kernel_rfl
/-- What is told of the slice that came in: nil, or a row of rows. -/
def PairsRow (w : World) (a : Option Addr) (len cap : Nat) : Prop :=
  (a = none ∧ len = 0 ∧ cap = 0) ∨
  ∃ x, a = some x ∧ len ≤ cap ∧ ∀ i, i < cap → ∃ r : Int × Int, w.cell? (x.add (i * 2)) = some (.int .i64 r.1) ∧ w.cell? (x.add (i * 2 + 1)) = some (.int .i64 r.2)
theorem pairsIn_of {w : World} {A : Option Addr} {len cap : Nat} (h : PairsRow w A len cap) : ∃ rs, Tb.PairsIn w A len (min len 50) rs := by
  rcases h with ⟨rfl, rfl, rfl⟩ | ⟨x, rfl, hl, hcell⟩
  · exact ⟨[], rfl, rfl, fun h => absurd h (by decide)⟩
  · rcases Nat.eq_zero_or_pos (min len 50) with h0 | hp
    · exact ⟨[], rfl, by rw [h0]; rfl, fun h => by omega⟩
    obtain ⟨b, off, spot⟩ := x
    obtain ⟨r0, hc, _⟩ := hcell 0 (by omega)
    have hspot : spot = none := by simpa [Addr.add] using World.cell?_spot hc
    subst hspot
    have ea : ∀ j, (Addr.mk b off none).add j = ⟨b, off + j, none⟩ := fun j => by cases j <;> simp [Addr.add]
    have hf : ∀ i : Nat, ∃ r : Int × Int, i < cap → w.cell? ((Addr.mk b off none).add (i * 2)) = some (.int .i64 r.1) ∧ w.cell? ((Addr.mk b off none).add (i * 2 + 1)) = some (.int .i64 r.2) := fun i => by
      by_cases hi : i < cap
      · obtain ⟨r, hr⟩ := hcell i hi
        exact ⟨r, fun _ => hr⟩
      · exact ⟨(0, 0), fun h => absurd h hi⟩
    obtain ⟨f, hf⟩ := Classical.axiomOfChoice hf
    refine ⟨(List.range (min len 50)).map f, rfl, by simp, fun _ => ⟨b, off, rfl, ?_, fun i r hr => ?_⟩⟩
    · have := World.block_lt_of_cell? _ _ hc
      simpa [Addr.add] using this
    · rw [List.getElem?_map] at hr
      have hi : i < min len 50 := by
        have := List.getElem?_eq_some_iff.1 (show (List.range (min len 50))[i]? = some ((List.range (min len 50))[i]?.getD 0) by
          cases e : (List.range (min len 50))[i]? with
          | none => rw [e] at hr; simp at hr
          | some z => rfl)
        simpa using this.1
      rw [List.getElem?_range hi] at hr
      simp only [Option.map_some, Option.some.injEq] at hr
      subst hr
      have := hf i (by omega)
      rw [ea, ea] at this
      exact this

set_option maxRecDepth 100000 in
theorem open_rrows {H : Type} {enc : TypeId × Value → H} {w : World} {base : Nat} {spare : Nat → Bool} {held : Bool} {f0 f1 : Field} {fuel : Nat} {cs : List Value} {x : DataW H × List MemPlace} (he : Try.prog.underlying 53 = some (.struct #[f0, f1]))
    (o0 : f0.offset = 0) (o1 : f1.offset = 1) (t0 : f0.type = 3) (t1 : f1.type = 3) (hspare : ∀ b, spare b = true)
    (h : DataW.trod enc Try.prog w base spare held fuel 28 cs = some x) : ∃ a len cap, cs = [.slice a len cap] ∧ PairsRow w a len cap := by
  have ci : Try.prog.cellsOf 3 = 1 := by kernel_rfl
  rcases open_slice Try.underlying28 h with h0 | ⟨a, len, cap, m, n, D, Pl, rfl, hb, hl, hm, hmm, rfl, hx⟩
  · exact ⟨none, 0, 0, h0.1, .inl ⟨rfl, rfl, rfl⟩⟩
  · refine ⟨_, _, _, rfl, .inr ⟨a, rfl, hl, fun i hi => ?_⟩⟩
    rw [hspare, if_pos rfl] at hmm
    obtain ⟨cs', h1, h2⟩ := hx i (by omega)
    rw [rrow_cellsOf] at h1
    obtain ⟨_, hlen, hcell⟩ := World.cells?_some h1
    obtain ⟨xs, k, hk, hxy, _, hxl, hf⟩ := DataW.trod_struct he h2
    match xs, hxl, cs', hlen with
    | [y0, y1], _, [v0, v1], _ =>
      have g0 := hf 0 f0 rfl
      have g1 := hf 1 f1 rfl
      simp [o0, o1, t0, t1, ci] at g0 g1
      have e0 := hcell 0 (by omega)
      have e1 := hcell 1 (by omega)
      rw [add_add] at e0 e1
      obtain ⟨z0, q0, _, _⟩ := DataW.trod_int Try.underlying3 g0
      obtain ⟨z1, q1, _, _⟩ := DataW.trod_int Try.underlying3 g1
      simp at q0 q1
      subst q0 q1
      exact ⟨(z0, z1), by simpa using e0, by simpa using e1⟩
end Go.Proofs.Ytflhpijcfiamgaa
