/-
  A roster that came in, opened: a number, texts, members. Conditions: none.
-/
import Derived.Test.YtkoihpfgleboiaaRMake
import Derived.Test.YtkoihpfgleboiaaYOpen
import Derived.ProofKit
import Derived.OpenShut
import Derived.ChangeOld
import Derived.Lib.SmallJoins
import Derived.ChangeMaps5
import Derived.Deep.SlicePairs
import Derived.SliceStrings
import Derived.Carry
namespace Go.Proofs.Ytkoihpfgleboiaa.Ro
open Go.ChangeShapes Go.WideShapes Go.ChangeAt Go.RowKit Go.Joins Go.Deep

theorem srd_of {w : World} {x : Addr} {l : Nat} {zs : List ByteArray} (hl : l ≤ zs.length) (hc : ∀ i, i < zs.length → w.cell? (x.add i) = some (.string (zs.getD i ByteArray.empty))) : SRd w (some x) (zs.take l) := by
  rcases Nat.eq_zero_or_pos l with h0 | hp
  · exact .inl (by rw [h0]; rfl)
  obtain ⟨b, off, spot⟩ := x
  have h0 := hc 0 (by omega)
  have hspot : spot = none := by simpa [Addr.add] using World.cell?_spot h0
  subst hspot
  have ea : ∀ j, (Addr.mk b off none).add j = ⟨b, off + j, none⟩ := fun j => by cases j <;> simp [Addr.add]
  refine .inr ⟨b, off, rfl, ?_, fun i s hi => ?_⟩
  · have := World.block_lt_of_cell? _ _ h0
    simpa [Addr.add] using this
  · rw [List.getElem?_take] at hi
    split at hi
    · rename_i hil
      have := hc i (by omega)
      rw [ea] at this
      rw [this, List.getD_eq_getElem?_getD, hi]; rfl
    · cases hi
theorem mrd_of {w : World} {x : Addr} {l cap : Nat} (hl : l ≤ cap) (hc : ∀ i, i < cap → ∃ r : ByteArray × Int, w.cell? (x.add (i * 2)) = some (.string r.1) ∧ w.cell? (x.add (i * 2 + 1)) = some (.int .i64 r.2)) : ∃ ms : List (ByteArray × Int), ms.length = l ∧ MRd w (some x) ms := by
  rcases Nat.eq_zero_or_pos l with h0 | hp
  · exact ⟨[], by rw [h0]; rfl, .inl rfl⟩
  obtain ⟨b, off, spot⟩ := x
  obtain ⟨r0, h0, _⟩ := hc 0 (by omega)
  have hspot : spot = none := by simpa [Addr.add] using World.cell?_spot h0
  subst hspot
  have ea : ∀ j, (Addr.mk b off none).add j = ⟨b, off + j, none⟩ := fun j => by cases j <;> simp [Addr.add]
  have hf : ∀ i : Nat, ∃ r : ByteArray × Int, i < cap → w.cell? ((Addr.mk b off none).add (i * 2)) = some (.string r.1) ∧ w.cell? ((Addr.mk b off none).add (i * 2 + 1)) = some (.int .i64 r.2) := fun i => by
    by_cases hi : i < cap
    · obtain ⟨r, hr⟩ := hc i hi
      exact ⟨r, fun _ => hr⟩
    · exact ⟨(ByteArray.empty, 0), fun h => absurd h hi⟩
  obtain ⟨f, hf⟩ := Classical.axiomOfChoice hf
  refine ⟨(List.range l).map f, by simp, .inr ⟨b, off, rfl, ?_, fun i r hr => ?_⟩⟩
  · have := World.block_lt_of_cell? _ _ h0
    simpa [Addr.add] using this
  · have hi : i < l := by
      have := (List.getElem?_eq_some_iff.1 hr).1
      simpa using this
    rw [List.getElem?_map, List.getElem?_range hi] at hr
    simp only [Option.map_some, Option.some.injEq] at hr
    subst hr
    have := hf i (by omega)
    rw [ea, ea] at this
    exact ⟨this.1, by rw [Nat.add_assoc]; exact this.2⟩
theorem mem_cellsOf : Try.prog.cellsOf 63 = 2 := by kernel_rfl
theorem add_two (a : Addr) (i j : Nat) : (a.add i).add j = a.add (i + j) := by
  cases i <;> cases j <;> simp [Addr.add]
  omega

set_option maxRecDepth 100000 in
theorem open_mems {H : Type} {enc : TypeId × Value → H} {w : World} {base : Nat} {spare : Nat → Bool} {held : Bool} {f0 f1 : Field} {fuel : Nat} {cs : List Value} {x : DataW H × List MemPlace} (he : Try.prog.underlying 63 = some (.struct #[f0, f1]))
    (o0 : f0.offset = 0) (o1 : f1.offset = 1) (t0 : f0.type = 9) (t1 : f1.type = 3) (hspare : ∀ b, spare b = true)
    (h : DataW.trod enc Try.prog w base spare held fuel 23 cs = some x) : ∃ a ms cap, cs = [.slice a ms.length cap] ∧ MRd w a ms ∧ ms.length ≤ cap ∧ (a = none → cap = 0) := by
  have ci : Try.prog.cellsOf 3 = 1 := by kernel_rfl
  have ct : Try.prog.cellsOf 9 = 1 := by kernel_rfl
  rcases open_slice Try.underlying23 h with h0 | ⟨a, len, cap, m, n, D, Pl, rfl, hb, hl, hm, hmm, rfl, hx⟩
  · exact ⟨none, [], 0, h0.1, .inl rfl, by simp, fun _ => rfl⟩
  · obtain ⟨ms, hml, hms⟩ := mrd_of (w := w) (x := a) hl (fun i hi => by
      rw [hspare, if_pos rfl] at hmm
      obtain ⟨cs', h1, h2⟩ := hx i (by omega)
      rw [mem_cellsOf] at h1
      obtain ⟨_, hlen, hcell⟩ := World.cells?_some h1
      obtain ⟨xs, k, hk, hxy, _, hxl, hf⟩ := DataW.trod_struct he h2
      match xs, hxl, cs', hlen with
      | [y0, y1], _, [v0, v1], _ =>
        have g0 := hf 0 f0 rfl
        have g1 := hf 1 f1 rfl
        simp [o0, o1, t0, t1, ci, ct] at g0 g1
        have e0 := hcell 0 (by omega)
        have e1 := hcell 1 (by omega)
        rw [add_two] at e0 e1
        obtain ⟨z0, q0, _, _⟩ := DataW.trod_string Try.underlying9 g0
        obtain ⟨z1, q1, _, _⟩ := DataW.trod_int Try.underlying3 g1
        simp at q0 q1
        subst q0 q1
        exact ⟨(z0, z1), by simpa using e0, by simpa using e1⟩)
    exact ⟨some a, ms, cap, by rw [hml], hms, by omega, fun h => by cases h⟩

/-- What is told of a roster that came in. -/
def RosIn (w : World) (v : Value) : Prop := ∃ (n : Int) (A : Option Addr) (ss : List ByteArray) (c1 : Nat) (B : Option Addr) (ms : List (ByteArray × Int)) (c2 : Nat),
  v = .agg #[.int .i64 n, .slice A ss.length c1, .slice B ms.length c2] ∧ SRd w A ss ∧ MRd w B ms ∧ ss.length ≤ c1 ∧ ms.length ≤ c2 ∧ (A = none → c1 = 0) ∧ (B = none → c2 = 0)

set_option maxRecDepth 100000 in
theorem trod_ros {H : Type} {enc : TypeId × Value → H} {w : World} {base : Nat} {spare : Nat → Bool} {held : Bool} {f0 f1 f2 : Field} {fuel : Nat} {cs : List Value} {x : DataW H × List MemPlace} (he : Try.prog.underlying 25 = some (.struct #[f0, f1, f2]))
    (o0 : f0.offset = 0) (o1 : f1.offset = 1) (o2 : f2.offset = 2) (t0 : f0.type = 3) (t1 : f1.type = 22) (t2 : f2.type = 23) (hspare : ∀ b, spare b = true)
    (h : DataW.trod enc Try.prog w base spare held fuel 25 cs = some x) : RosIn w (.agg cs.toArray) := by
  have ci : Try.prog.cellsOf 3 = 1 := by kernel_rfl
  have ct : Try.prog.cellsOf 22 = 1 := by kernel_rfl
  have cm : Try.prog.cellsOf 23 = 1 := by kernel_rfl
  have cc : Try.prog.cellsOf 25 = 3 := by kernel_rfl
  obtain ⟨xs, k, hk, hxy, hl, hxl, hf⟩ := DataW.trod_struct he h
  rw [cc] at hl
  match xs, hxl, cs, hl with
  | [y0, y1, y2], _, [v0, v1, v2], _ =>
    have g0 := hf 0 f0 rfl
    have g1 := hf 1 f1 rfl
    have g2 := hf 2 f2 rfl
    simp [o0, o1, o2, t0, t1, t2, ci, ct, cm] at g0 g1 g2
    obtain ⟨n, q0, _, _⟩ := DataW.trod_int Try.underlying3 g0
    obtain ⟨B, ms, c2, q2, hms, hl2, hn2⟩ := open_mems Try.underlying63 rfl rfl rfl rfl hspare g2
    simp at q0 q2
    subst q0 q2
    rcases open_strings Try.underlying22 Try.underlying9 (by kernel_rfl) g1 with ⟨hcs, _⟩ | ⟨a, l, c, zs, hcs, _, hl1, hm1, hz, _, hcell, _⟩
    · simp at hcs
      subst hcs
      exact ⟨n, none, [], 0, B, ms, c2, rfl, .inl rfl, hms, by simp, hl2, fun _ => rfl, hn2⟩
    · simp at hcs
      subst hcs
      rw [hspare, if_pos rfl] at hz
      have hlt : (zs.take l).length = l := by rw [List.length_take]; omega
      exact ⟨n, some a, zs.take l, c, B, ms, c2, by rw [hlt], srd_of (by omega) hcell, hms, by omega, hl2, (fun h => by cases h), hn2⟩

set_option maxRecDepth 100000 in
/-- A roster by value that came in. -/
theorem open_ros {H : Type} {enc : TypeId × Value → H} {w : World} {base b0 : Nat} {spare : Nat → Bool} {held : Bool} {r : Reach} {v : Value} {d : DataW H} {p : List MemPlace} (hspare : ∀ b, spare b = true)
    (hv : Value.okWide Try.prog w r b0 25 v) (h : DataW.Trod enc Try.prog w base spare held 25 v d p) : RosIn w v := by
  obtain ⟨cs, rfl, hsz⟩ := okWide_struct Try.underlying25 hv
  obtain ⟨fuel, hf⟩ := h
  have := trod_ros Try.underlying25 rfl rfl rfl rfl rfl rfl hspare hf
  simpa [Value.cells] using this
end Go.Proofs.Ytkoihpfgleboiaa.Ro
