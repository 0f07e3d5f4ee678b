/-
  Lists of numbers and of calls that came in. Conditions: none.
-/
import Derived.Test.YtaidihilhblhgaaWOxI
import Derived.ProofKit
import Derived.Deep.Grids
import Derived.Deep.Slices
import Derived.OpenShut
import Derived.ChangeOld
import Derived.ChangeMaps5
namespace Go.Proofs.Ytaidihilhblhgaa.Wi
open Go.ChangeShapes Go.WideShapes Go.ChangeAt Go.RowKit Go.Joins Go.Deep

/-- Numbers of 64 bits. -/
def i64s (l : List Int) : Prop := ∀ x ∈ l, -9223372036854775808 ≤ x ∧ x ≤ 9223372036854775807
theorem open_intsL {H : Type} {enc : TypeId × Value → H} {w : World} {held : Bool} {fuel : Nat} {cs : List Value} {x : DataW H × List MemPlace} (h : DataW.trod enc Try.prog w 0 (fun _ => true) held fuel 24 cs = some x) :
    ∃ A len cap l, cs = [.slice A len cap] ∧ I.At w (.slice A len cap) l ∧ i64s l := by
  rcases open_ints Try.underlying24 Try.underlying3 (by kernel_rfl) h with ⟨hcs, _⟩ | ⟨a, len, c, zs, hcs, _, hl, hm, hz, _, hcell, hwz⟩
  · exact ⟨none, 0, 0, [], hcs, ⟨none, 0, rfl, Nat.le_refl _, fun h => by cases h⟩, fun x hx => absurd hx (List.not_mem_nil)⟩
  · have hzl : len ≤ zs.length := by simp at hz; omega
    have hll : (zs.take len).length = len := by rw [List.length_take]; omega
    refine ⟨some a, len, c, zs.take len, hcs, ⟨some a, c, by rw [hll], by rw [hll]; omega, fun hp => ?_⟩, fun y hy => ?_⟩
    · rw [hll] at hp
      obtain ⟨b, off, spot⟩ := a
      have hc := hcell 0 (by omega)
      have hspot : spot = none := by simpa [Addr.add] using World.cell?_spot hc
      subst hspot
      refine ⟨b, off, rfl, ?_, fun i x hi => ?_⟩
      · have := World.block_lt_of_cell? _ _ hc
        simpa [Addr.add] using this
      · have hil : i < len := by have := (List.getElem?_eq_some_iff.1 hi).1; omega
        have := hcell i (by omega)
        rw [show (Addr.mk b off none).add i = ⟨b, off + i, none⟩ by unfold Addr.add; split <;> simp_all] at this
        rw [this]
        rw [List.getElem?_take, if_pos hil] at hi
        simp [List.getD, hi, I.el]
    · have := hwz y (List.mem_of_mem_take hy)
      simp [Lit.wf, IntKind.min, IntKind.max, IntKind.signed, IntKind.bits] at this
      omega
/-- A call that came in. -/
structure AcW where
  k : Int
  n : Int
  A : Option Addr
  nb : Nat
  cb : Nat
  l : List Int
/-- Calls in a slice. -/
def ActsW (w : World) (A : Option Addr) (n : Nat) (cs : List AcW) : Prop := cs.length = n ∧ ∀ (i : Nat) (a : AcW), cs[i]? = some a → (-9223372036854775808 ≤ a.n ∧ a.n ≤ 9223372036854775807) ∧ I.At w (.slice a.A a.nb a.cb) a.l ∧ ∃ g o, A = some ⟨g, o, none⟩ ∧ g < w.heap.size ∧ w.cell? ⟨g, o + i * 3, none⟩ = some (.int .i64 a.k) ∧ w.cell? ⟨g, o + (i * 3 + 1), none⟩ = some (.int .i64 a.n) ∧ w.cell? ⟨g, o + (i * 3 + 2), none⟩ = some (.slice a.A a.nb a.cb)
theorem act_cellsOf : Try.prog.cellsOf 31 = 3 := by kernel_rfl
theorem add_two (a : Addr) (i j : Nat) : (a.add i).add j = a.add (i + j) := by
  cases i <;> cases j <;> simp [Addr.add]
  omega
set_option maxRecDepth 100000 in
/-- Three cells that read as a call are one. -/
theorem trod_act {H : Type} {enc : TypeId × Value → H} {w : World} {held : Bool} {f0 f1 f2 : Field} {fuel : Nat} {cs : List Value} {x : DataW H × List MemPlace} (he : Try.prog.underlying 31 = some (.struct #[f0, f1, f2]))
    (o0 : f0.offset = 0) (o1 : f1.offset = 1) (o2 : f2.offset = 2) (t0 : f0.type = 3) (t1 : f1.type = 3) (t2 : f2.type = 24)
    (h : DataW.trod enc Try.prog w 0 (fun _ => true) held fuel 31 cs = some x) : ∃ a : AcW, cs = [.int .i64 a.k, .int .i64 a.n, .slice a.A a.nb a.cb] ∧ (-9223372036854775808 ≤ a.n ∧ a.n ≤ 9223372036854775807) ∧ I.At w (.slice a.A a.nb a.cb) a.l := by
  have ci : Try.prog.cellsOf 3 = 1 := by kernel_rfl
  have cb : Try.prog.cellsOf 24 = 1 := by kernel_rfl
  obtain ⟨xs, k, hk, hxy, hl, hxl, hf⟩ := DataW.trod_struct he h
  rw [act_cellsOf] at hl
  match xs, hxl, cs, hl with
  | [y0, y1, y2], _, [v0, v1, v2], _ =>
    have g0 := hf 0 f0 rfl
    have g1 := hf 1 f1 rfl
    have g2 := hf 2 f2 rfl
    simp [o0, o1, o2, t0, t1, t2, ci, cb] at g0 g1 g2
    obtain ⟨z0, q0, _, w0⟩ := DataW.trod_int Try.underlying3 g0
    obtain ⟨z1, q1, _, w1⟩ := DataW.trod_int Try.underlying3 g1
    obtain ⟨A, n, c, l, q2, q5, _⟩ := open_intsL g2
    simp at q0 q1 q2
    subst q0 q1 q2
    simp [Lit.wf, IntKind.min, IntKind.max, IntKind.signed, IntKind.bits] at w0 w1
    exact ⟨⟨z0, z1, A, n, c, l⟩, rfl, by show _ ≤ z1 ∧ z1 ≤ _; omega, q5⟩
theorem acts_of {w : World} {x : Addr} {l cap : Nat} (hl : l ≤ cap) (hc : ∀ i, i < cap → ∃ a : AcW, ((-9223372036854775808 ≤ a.n ∧ a.n ≤ 9223372036854775807) ∧ I.At w (.slice a.A a.nb a.cb) a.l) ∧ w.cell? (x.add (i * 3)) = some (.int .i64 a.k) ∧ w.cell? (x.add (i * 3 + 1)) = some (.int .i64 a.n) ∧ w.cell? (x.add (i * 3 + 2)) = some (.slice a.A a.nb a.cb)) :
    ∃ cs : List AcW, ActsW w (some x) l cs := by
  rcases Nat.eq_zero_or_pos l with h0 | hp
  · exact ⟨[], by rw [h0]; rfl, fun i a h => by simp at h⟩
  obtain ⟨b, off, spot⟩ := x
  obtain ⟨r0, _, h0, _⟩ := hc 0 (by omega)
  have hspot : spot = none := by simpa [Addr.add] using World.cell?_spot h0
  subst hspot
  have ea : ∀ j, (Addr.mk b off none).add j = ⟨b, off + j, none⟩ := fun j => by cases j <;> simp [Addr.add]
  have hf : ∀ i : Nat, ∃ a : AcW, i < cap → ((-9223372036854775808 ≤ a.n ∧ a.n ≤ 9223372036854775807) ∧ I.At w (.slice a.A a.nb a.cb) a.l) ∧ w.cell? ((Addr.mk b off none).add (i * 3)) = some (.int .i64 a.k) ∧ w.cell? ((Addr.mk b off none).add (i * 3 + 1)) = some (.int .i64 a.n) ∧ w.cell? ((Addr.mk b off none).add (i * 3 + 2)) = some (.slice a.A a.nb a.cb) := fun i => by
    by_cases hi : i < cap
    · obtain ⟨r, hr⟩ := hc i hi
      exact ⟨r, fun _ => hr⟩
    · exact ⟨⟨0, 0, none, 0, 0, []⟩, fun h => absurd h hi⟩
  obtain ⟨f, hf⟩ := Classical.axiomOfChoice hf
  refine ⟨(List.range l).map f, by simp, fun i a hi => ?_⟩
  have hil : i < l := by
    have := (List.getElem?_eq_some_iff.1 hi).1
    simpa using this
  rw [List.getElem?_map, List.getElem?_range hil] at hi
  simp only [Option.map_some, Option.some.injEq] at hi
  subst hi
  have h1 := hf i (by omega)
  rw [ea, ea, ea] at h1
  refine ⟨h1.1.1, h1.1.2, b, off, rfl, ?_, h1.2⟩
  have := World.block_lt_of_cell? _ _ h0
  simpa [Addr.add] using this
set_option maxRecDepth 100000 in
/-- Calls that came in. -/
theorem open_acts {H : Type} {enc : TypeId × Value → H} {w : World} {held : Bool} {fuel : Nat} {cs : List Value} {x : DataW H × List MemPlace} (h : DataW.trod enc Try.prog w 0 (fun _ => true) held fuel 22 cs = some x) :
    ∃ A len cap l, cs = [.slice A len cap] ∧ ActsW w A len l := by
  rcases open_slice Try.underlying22 h with h0 | ⟨a, len', cap', m, n, D, Pl, e, hb, hl, hm, hmm, _, hx⟩
  · exact ⟨none, 0, 0, [], h0.1, rfl, fun i a h => by simp at h⟩
  · rw [if_pos rfl] at hmm
    obtain ⟨l, hl'⟩ := acts_of (w := w) (x := a) (l := len') (cap := cap') hl (fun i hi => by
      obtain ⟨cs', h1, h2⟩ := hx i (by omega)
      rw [act_cellsOf] at h1
      obtain ⟨_, hcl, hcell⟩ := World.cells?_some h1
      obtain ⟨t, rfl, iq, ip⟩ := trod_act Try.underlying31 rfl rfl rfl rfl rfl rfl h2
      have e0 := hcell 0 (by simp)
      have e1 := hcell 1 (by simp)
      have e2 := hcell 2 (by simp)
      rw [add_two] at e0 e1 e2
      exact ⟨t, ⟨iq, ip⟩, by simpa using e0, by simpa using e1, by simpa using e2⟩)
    exact ⟨some a, len', cap', l, e, hl'⟩
end Go.Proofs.Ytaidihilhblhgaa.Wi
