/-
  PROVED: TablePlays answers true for every slice of calls, and leaves its argument as it was. Conditions: none beyond the parameter's own type.
-/
import Derived.Test.YtflhpijcfiamgaaTPlay
import Derived.ProofKit
import Derived.OpenShut
import Derived.ChangeOld
import Derived.Lib.SmallJoins
import Derived.ChangeMaps5
import Derived.Deep.SlicePairs
namespace Go.Proofs.Ytflhpijcfiamgaa
open Go.ChangeShapes Go.WideShapes Go.ChangeAt Go.RowKit Go.Joins Go.Deep

theorem ply_own : ownKnob Try.prog.godebug = none := by kernel_rfl
theorem ply_laidOut : laidOutB Try.prog = true := by kernel_rfl
theorem act_cellsOf : Try.prog.cellsOf 32 = 3 := by kernel_rfl

/-- What is told of the slice that came in: nil, or a row of calls. -/
def ActsRow (w : World) (a : Option Addr) (len cap : Nat) : Prop :=
  (a = none ∧ len = 0 ∧ cap = 0) ∨
  ∃ x, a = some x ∧ len ≤ cap ∧ ∀ i, i < cap → ∃ r : Tb.ActV, w.cell? (x.add (i * 3)) = some (.int .i64 r.1) ∧ w.cell? (x.add (i * 3 + 1)) = some (.int .i64 r.2.1) ∧ w.cell? (x.add (i * 3 + 2)) = some (.int .i64 r.2.2)

theorem law_plays_in (w : World) (A : Option Addr) (len cap : Nat) (h : ActsRow w A len cap) :
    Calls Try.prog 3 #[.slice A len cap] w fun e w' => e = .returned (.bool true) ∧ Below w.heap.size w w' := by
  rcases h with ⟨rfl, rfl, rfl⟩ | ⟨x, rfl, hl, hcell⟩
  · exact Tb.law_plays w none 0 0 0 rfl ⟨Nat.le_refl _, fun h => absurd h (by decide)⟩
  · refine Tb.law_plays w (some x) len cap (min len 60) rfl ⟨by omega, fun hp => ?_⟩
    obtain ⟨b, off, spot⟩ := x
    obtain ⟨r0, hc, _⟩ := hcell 0 (by omega)
    have hspot : spot = none := by simpa [Addr.add] using World.cell?_spot hc
    subst hspot
    have ea : ∀ j, (Addr.mk b off none).add j = ⟨b, off + j, none⟩ := fun j => by cases j <;> simp [Addr.add]
    refine ⟨b, off, rfl, ?_, fun i hi => ?_⟩
    · have := World.block_lt_of_cell? _ _ hc
      simpa [Addr.add] using this
    · obtain ⟨r, g0, g1, g2⟩ := hcell i (by omega)
      rw [ea] at g0 g1 g2
      exact ⟨r, g0, g1, g2⟩

set_option maxRecDepth 100000 in
theorem open_acts {H : Type} {enc : TypeId × Value → H} {w : World} {base : Nat} {spare : Nat → Bool} {held : Bool} {f0 f1 f2 : Field} {fuel : Nat} {cs : List Value} {x : DataW H × List MemPlace} (he : Try.prog.underlying 32 = some (.struct #[f0, f1, f2]))
    (o0 : f0.offset = 0) (o1 : f1.offset = 1) (o2 : f2.offset = 2) (t0 : f0.type = 3) (t1 : f1.type = 3) (t2 : f2.type = 3) (hspare : ∀ b, spare b = true)
    (h : DataW.trod enc Try.prog w base spare held fuel 22 cs = some x) : ∃ a len cap, cs = [.slice a len cap] ∧ ActsRow w a len cap := by
  have ci : Try.prog.cellsOf 3 = 1 := by kernel_rfl
  rcases open_slice Try.underlying22 h with h0 | ⟨a, len, cap, m, n, D, Pl, rfl, hb, hl, hm, hmm, rfl, hx⟩
  · exact ⟨none, 0, 0, h0.1, .inl ⟨rfl, rfl, rfl⟩⟩
  · refine ⟨_, _, _, rfl, .inr ⟨a, rfl, hl, fun i hi => ?_⟩⟩
    rw [hspare, if_pos rfl] at hmm
    obtain ⟨cs', h1, h2⟩ := hx i (by omega)
    rw [act_cellsOf] at h1
    obtain ⟨_, hlen, hcell⟩ := World.cells?_some h1
    obtain ⟨xs, k, hk, hxy, _, hxl, hf⟩ := DataW.trod_struct he h2
    match xs, hxl, cs', hlen with
    | [y0, y1, y2], _, [v0, v1, v2], _ =>
      have g0 := hf 0 f0 rfl
      have g1 := hf 1 f1 rfl
      have g2 := hf 2 f2 rfl
      simp [o0, o1, o2, t0, t1, t2, ci] at g0 g1 g2
      have e0 := hcell 0 (by omega)
      have e1 := hcell 1 (by omega)
      have e2 := hcell 2 (by omega)
      rw [add_add] at e0 e1 e2
      obtain ⟨z0, q0, _, _⟩ := DataW.trod_int Try.underlying3 g0
      obtain ⟨z1, q1, _, _⟩ := DataW.trod_int Try.underlying3 g1
      obtain ⟨z2, q2, _, _⟩ := DataW.trod_int Try.underlying3 g2
      simp at q0 q1 q2
      subst q0 q1 q2
      exact ⟨(z0, z1, z2), by simpa using e0, by simpa using e1, by simpa using e2⟩

set_option maxRecDepth 100000 in
theorem plays_lifted (os : Os) (started : os.Started) (H : Type) (enc : TypeId × Value → H) :
    ReturnsInHanded {} Try.checked os 3 .any (Rows.tablePlaysSpec.pre6 enc Try.prog Try.f3 Rows.tablePlaysRow.domain false) (Rows.tablePlaysSpec.post enc Try.prog Try.f3 false true false false) := by
  refine returnsInHanded_of_change (C := Try.checked) ply_own started (by kernel_rfl) Try.func3
    (ChangeSpec.witness6 (enc := enc) (C := Try.checked) false ⟨#[], #[.slice none 0 0], []⟩ 8 (by kernel_rfl) (by kernel_rfl) (by kernel_rfl) (by kernel_rfl)) ?_
  intro W base args ds gs before hval0 hW hcnd _
  have hval : ∀ (j : Nat) t v, Try.f3.params[j]? = some t → args[j]? = some v → Value.okWide Try.prog W .any base t v := hval0
  have hW' := hW
  obtain ⟨p, q, hA0, hV, rfl, hfz, hnd⟩ := hW
  have hA : DataW.TrodAll enc Try.prog W 0 (fun _ => true) true Try.f3.params.toList args.toList ds p := hA0
  rw [Try.params3] at hA hval
  obtain ⟨v0, d0, rfl, rfl, h0⟩ := trodAll_one hA
  obtain ⟨rfl, rfl⟩ := trodVars_none hV
  obtain ⟨A, len, cap, rfl⟩ := okWide_slice Try.underlying22 (hval 0 22 v0 rfl rfl)
  have k0 := h0
  have lt0 : ∀ x ∈ p, x.block < W.heap.size := by obtain ⟨m, hm⟩ := k0; exact DataW.trod_lt m _ _ _ hm
  have w2 : ActsRow W A len cap := by
    obtain ⟨fuel, hf⟩ := h0
    obtain ⟨a, l, c, hcs, hw⟩ := open_acts Try.underlying32 rfl rfl rfl rfl rfl rfl (fun _ => rfl) hf
    simp [Value.cells] at hcs
    obtain ⟨rfl, rfl, rfl⟩ := hcs
    exact hw
  clear hA0 hval0
  refine (law_plays_in W A len cap w2).mono fun e W' ⟨he, bel⟩ => ?_
  subst he
  exact ⟨_, rfl, _, _, _, [], _, [], hW', trodAll_mk1 (shut_bool Try.underlying4 _), (trodAll_cons_mk (Below.trod ply_laidOut (by kernel_rfl) (of_decide_eq_true (by kernel_rfl)) k0 bel lt0) trodAll_mk0), rfl, bel.frame _, fun h => by cases h⟩

/-- The given statement. -/
theorem tablePlays_holds : Rows.TablePlaysSaid :=
  OpenClaim.holds_of_wide 3 Try.f3 rfl rfl rfl rfl rfl rfl rfl ⟨rfl, rfl, rfl, rfl, rfl⟩ rfl rfl rfl rfl rfl (by kernel_rfl) Try.func3 (by kernel_rfl)
    (of_decide_eq_true (by kernel_rfl)) (by unfold Func.isWrapper; first | (rw [if_pos (by decide +kernel)]; kernel_rfl) | (rw [if_neg (by decide +kernel)]; exact ⟨rfl, rfl⟩))
    (fun os started H enc _ => plays_lifted os started H enc)
#print axioms tablePlays_holds
end Go.Proofs.Ytflhpijcfiamgaa
