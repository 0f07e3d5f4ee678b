/-
  A note that came in, opened. Conditions: none.
-/
import Derived.Test.YteahloddjekakaaDoorNM3
import Derived.Test.YteahloddjekakaaDoorNM21
import Derived.Deep.SlicePairs
import Derived.Test.YteahloddjekakaaDoorRows
import Derived.ProofKit
import Derived.OpenShut
import Derived.ChangeOld
import Derived.ChangeArms
import Derived.LaidMore
import Derived.MakeChecks
import Derived.Lib.LaidTab
namespace Go.Proofs.YteahloddjekakaaDoor.Nt
open Go.ChangeShapes Go.WideShapes Go.ChangeAt Go.RowKit Go.Joins Go.Deep Td

theorem rows_of {w : World} {x : Addr} {l cap : Nat} (hl : l ≤ cap) (hc : ∀ i, i < cap → ∃ r : Rw, w.cell? (x.add (i * 2)) = some (.string r.1) ∧ w.cell? (x.add (i * 2 + 1)) = some (.int .i64 r.2)) : ∃ ms : List Rw, ms.length = l ∧ RR w (some x) ms := by
  rcases Nat.eq_zero_or_pos l with h0 | hp
  · exact ⟨[], by rw [h0]; rfl, .inl rfl⟩
  obtain ⟨b, off, spot⟩ := x
  obtain ⟨r0, h0, _⟩ := hc 0 (by omega)
  have hspot : spot = none := by simpa [Addr.add] using World.cell?_spot h0
  subst hspot
  have ea : ∀ j, (Addr.mk b off none).add j = ⟨b, off + j, none⟩ := fun j => by cases j <;> simp [Addr.add]
  have hf : ∀ i : Nat, ∃ r : Rw, i < cap → w.cell? ((Addr.mk b off none).add (i * 2)) = some (.string r.1) ∧ w.cell? ((Addr.mk b off none).add (i * 2 + 1)) = some (.int .i64 r.2) := fun i => by
    by_cases hi : i < cap
    · obtain ⟨r, hr⟩ := hc i hi
      exact ⟨r, fun _ => hr⟩
    · exact ⟨(ByteArray.empty, 0), fun h => absurd h hi⟩
  obtain ⟨f, hf⟩ := Classical.axiomOfChoice hf
  refine ⟨(List.range l).map f, by simp, .inr ⟨b, off, rfl, ?_, fun i r hr => ?_⟩⟩
  · have := World.block_lt_of_cell? _ _ h0
    simpa [Addr.add] using this
  · have hi : i < l := by
      have := (List.getElem?_eq_some_iff.1 hr).1
      simpa using this
    rw [List.getElem?_map, List.getElem?_range hi] at hr
    simp only [Option.map_some, Option.some.injEq] at hr
    subst hr
    have := hf i (by omega)
    rw [ea, ea] at this
    exact ⟨this.1, by rw [Nat.add_assoc]; exact this.2⟩
theorem row_cellsOf : Tryd.prog.cellsOf 57 = 2 := by kernel_rfl
theorem add_two (a : Addr) (i j : Nat) : (a.add i).add j = a.add (i + j) := by
  cases i <;> cases j <;> simp [Addr.add]
  omega
set_option maxRecDepth 100000 in
theorem open_rows {H : Type} {enc : TypeId × Value → H} {w : World} {base : Nat} {spare : Nat → Bool} {held : Bool} {f0 f1 : Field} {fuel : Nat} {cs : List Value} {x : DataW H × List MemPlace} (he : Tryd.prog.underlying 57 = some (.struct #[f0, f1]))
    (o0 : f0.offset = 0) (o1 : f1.offset = 1) (t0 : f0.type = 9) (t1 : f1.type = 2) (hspare : ∀ b, spare b = true)
    (h : DataW.trod enc Tryd.prog w base spare held fuel 24 cs = some x) : ∃ a ms cap, cs = [.slice a ms.length cap] ∧ RR w a ms := by
  have ci : Tryd.prog.cellsOf 2 = 1 := by kernel_rfl
  have ct : Tryd.prog.cellsOf 9 = 1 := by kernel_rfl
  rcases open_slice Tryd.underlying24 h with h0 | ⟨a, len, cap, m, n, D, Pl, rfl, hb, hl, hm, hmm, rfl, hx⟩
  · exact ⟨none, [], 0, h0.1, .inl rfl⟩
  · obtain ⟨ms, hml, hms⟩ := rows_of (w := w) (x := a) hl (fun i hi => by
      rw [hspare, if_pos rfl] at hmm
      obtain ⟨cs', h1, h2⟩ := hx i (by omega)
      rw [row_cellsOf] at h1
      obtain ⟨_, hlen, hcell⟩ := World.cells?_some h1
      obtain ⟨xs, k, hk, hxy, _, hxl, hf⟩ := DataW.trod_struct he h2
      match xs, hxl, cs', hlen with
      | [y0, y1], _, [v0, v1], _ =>
        have g0 := hf 0 f0 rfl
        have g1 := hf 1 f1 rfl
        simp [o0, o1, t0, t1, ci, ct] at g0 g1
        have e0 := hcell 0 (by omega)
        have e1 := hcell 1 (by omega)
        rw [add_two] at e0 e1
        obtain ⟨z0, q0, _, _⟩ := DataW.trod_string Tryd.underlying9 g0
        obtain ⟨z1, q1, _, _⟩ := DataW.trod_int Tryd.underlying2 g1
        simp at q0 q1
        subst q0 q1
        exact ⟨(z0, z1), by simpa using e0, by simpa using e1⟩)
    exact ⟨some a, ms, cap, by rw [hml], hms⟩

/-- What a note that came in may be. -/
def NOk (x : Nt) : Prop := Td.I64 x.k ∧ Td.I64 x.p ∧ Td.I64 x.d ∧ (Td.I64 x.t.n ∧ Td.I64 x.t.q ∧ Td.I64 x.t.p) ∧ Td.I64 x.a ∧ Td.I64 x.hi ∧ 0 ≤ x.lo ∧ x.lo < 18446744073709551616
set_option maxRecDepth 100000 in
set_option maxHeartbeats 1000000 in
theorem trod_note {H : Type} {enc : TypeId × Value → H} {w : World} {base : Nat} {spare : Nat → Bool} {held : Bool} {f0 f1 f2 f3 f4 f5 f6 f7 f8 : Field} {fuel : Nat} {cs : List Value} {x : DataW H × List MemPlace} (he : Tryd.prog.underlying 27 = some (.struct #[f0, f1, f2, f3, f4, f5, f6, f7, f8]))
    (o0 : f0.offset = 0) (o1 : f1.offset = 1) (o2 : f2.offset = 2) (o3 : f3.offset = 3) (o4 : f4.offset = 9) (o5 : f5.offset = 10) (o6 : f6.offset = 11) (o7 : f7.offset = 12) (o8 : f8.offset = 13)
    (t0 : f0.type = 3) (t1 : f1.type = 3) (t2 : f2.type = 3) (t3 : f3.type = 23) (t4 : f4.type = 9) (t5 : f5.type = 2) (t6 : f6.type = 24) (t7 : f7.type = 2) (t8 : f8.type = 25) (hspare : ∀ b, spare b = true)
    (h : DataW.trod enc Tryd.prog w base spare held fuel 27 cs = some x) : ∃ (z : Nt) (A : Option Addr) (l : List Rw) (c : Nat), Value.agg cs.toArray = .agg #[.int .i64 z.k, .int .i64 z.p, .int .i64 z.d, .int .i64 z.t.n, .string z.t.b, .string z.t.s, .string z.t.i, .int .i64 z.t.q, .int .i64 z.t.p, .string z.n, .int .i64 z.a, .slice A l.length c, .int .i64 z.hi, .int .u64 z.lo] ∧ RR w A l ∧ NOk z := by
  have cn : Tryd.prog.cellsOf 3 = 1 := by kernel_rfl
  have cj : Tryd.prog.cellsOf 2 = 1 := by kernel_rfl
  have ct : Tryd.prog.cellsOf 9 = 1 := by kernel_rfl
  have cu : Tryd.prog.cellsOf 25 = 1 := by kernel_rfl
  have cr : Tryd.prog.cellsOf 24 = 1 := by kernel_rfl
  have ctr : Tryd.prog.cellsOf 23 = 6 := by kernel_rfl
  have cc : Tryd.prog.cellsOf 27 = 14 := by kernel_rfl
  obtain ⟨xs, k, hk, hxy, hl, hxl, hf⟩ := DataW.trod_struct he h
  rw [cc] at hl
  match xs, hxl, cs, hl with
  | [y0, y1, y2, y3, y4, y5, y6, y7, y8], _, [v0, v1, v2, v3, v4, v5, v6, v7, v8, v9, v10, v11, v12, v13], _ =>
    have g0 := hf 0 f0 rfl
    have g1 := hf 1 f1 rfl
    have g2 := hf 2 f2 rfl
    have g3 := hf 3 f3 rfl
    have g4 := hf 4 f4 rfl
    have g5 := hf 5 f5 rfl
    have g6 := hf 6 f6 rfl
    have g7 := hf 7 f7 rfl
    have g8 := hf 8 f8 rfl
    simp [o0, o1, o2, o3, o4, o5, o6, o7, o8, t0, t1, t2, t3, t4, t5, t6, t7, t8, cn, cj, ct, cu, cr, ctr] at g0 g1 g2 g3 g4 g5 g6 g7 g8
    obtain ⟨z0, q0, _, w0⟩ := DataW.trod_int Tryd.underlying3 g0
    obtain ⟨z1, q1, _, w1⟩ := DataW.trod_int Tryd.underlying3 g1
    obtain ⟨z2, q2, _, w2⟩ := DataW.trod_int Tryd.underlying3 g2
    obtain ⟨tr, q3, n3, m3, r3⟩ := trod_tr Tryd.underlying23 rfl rfl rfl rfl rfl rfl rfl rfl rfl rfl rfl rfl g3
    obtain ⟨z4, q4, _, _⟩ := DataW.trod_string Tryd.underlying9 g4
    obtain ⟨z5, q5, _, w5⟩ := DataW.trod_int Tryd.underlying2 g5
    obtain ⟨A, l, c, q6, hr⟩ := open_rows Tryd.underlying57 rfl rfl rfl rfl hspare g6
    obtain ⟨z7, q7, _, w7⟩ := DataW.trod_int Tryd.underlying2 g7
    obtain ⟨z8, q8, _, w8⟩ := DataW.trod_int Tryd.underlying25 g8
    simp at q0 q1 q2 q3 q4 q5 q6 q7 q8
    obtain ⟨e3, e4, e5, e6, e7, e8⟩ := q3
    subst q0 q1 q2 q4 q5 q6 q7 q8 e3 e4 e5 e6 e7 e8
    simp [Lit.wf, IntKind.min, IntKind.max, IntKind.signed, IntKind.bits] at w0 w1 w2 w5 w7 w8
    exact ⟨⟨z0, z1, z2, tr, z4, z5, z7, z8⟩, A, l, c, rfl, hr, ⟨by show _ ≤ z0; omega, by show z0 ≤ _; omega⟩, ⟨by show _ ≤ z1; omega, by show z1 ≤ _; omega⟩, ⟨by show _ ≤ z2; omega, by show z2 ≤ _; omega⟩, ⟨n3, m3, r3⟩, ⟨by show _ ≤ z5; omega, by show z5 ≤ _; omega⟩, ⟨by show _ ≤ z7; omega, by show z7 ≤ _; omega⟩, by show 0 ≤ z8; omega, by show z8 < _; omega⟩
set_option maxRecDepth 100000 in
/-- A note by value that came in. -/
theorem open_note {H : Type} {enc : TypeId × Value → H} {w : World} {base b0 : Nat} {held : Bool} {r : Reach} {v : Value} {d : DataW H} {p : List MemPlace}
    (hv : Value.okWide Tryd.prog w r b0 27 v) (h : DataW.Trod enc Tryd.prog w base (fun _ => true) held 27 v d p) : ∃ (z : Nt) (A : Option Addr) (l : List Rw) (c : Nat), v = .agg #[.int .i64 z.k, .int .i64 z.p, .int .i64 z.d, .int .i64 z.t.n, .string z.t.b, .string z.t.s, .string z.t.i, .int .i64 z.t.q, .int .i64 z.t.p, .string z.n, .int .i64 z.a, .slice A l.length c, .int .i64 z.hi, .int .u64 z.lo] ∧ RR w A l ∧ NOk z := by
  obtain ⟨cs, rfl, hsz⟩ := okWide_struct Tryd.underlying27 hv
  obtain ⟨fuel, hf⟩ := h
  obtain ⟨z, A, l, c, ht, hk⟩ := trod_note Tryd.underlying27 rfl rfl rfl rfl rfl rfl rfl rfl rfl rfl rfl rfl rfl rfl rfl rfl rfl rfl (fun _ => rfl) hf
  refine ⟨z, A, l, c, ?_, hk⟩
  rw [← ht]
  congr 1
end Go.Proofs.YteahloddjekakaaDoor.Nt

namespace Go.Proofs.YteahloddjekakaaDoor.Nt
open Go.ChangeShapes Go.WideShapes Go.ChangeAt Go.RowKit Go.Joins Go.Deep Td

theorem rows_ofR {w : World} {x : Addr} {l cap : Nat} (hl : l ≤ cap) (hc : ∀ i, i < cap → ∃ r : Rw, w.cell? (x.add (i * 2)) = some (.string r.1) ∧ w.cell? (x.add (i * 2 + 1)) = some (.int .i64 r.2) ∧ Td.I64 r.2) : ∃ ms : List Rw, ms.length = l ∧ RR w (some x) ms ∧ ∀ m ∈ ms, Td.I64 m.2 := by
  rcases Nat.eq_zero_or_pos l with h0 | hp
  · exact ⟨[], by rw [h0]; rfl, .inl rfl, fun m hm => absurd hm List.not_mem_nil⟩
  obtain ⟨b, off, spot⟩ := x
  obtain ⟨r0, h0, _⟩ := hc 0 (by omega)
  have hspot : spot = none := by simpa [Addr.add] using World.cell?_spot h0
  subst hspot
  have ea : ∀ j, (Addr.mk b off none).add j = ⟨b, off + j, none⟩ := fun j => by cases j <;> simp [Addr.add]
  have hf : ∀ i : Nat, ∃ r : Rw, i < cap → w.cell? ((Addr.mk b off none).add (i * 2)) = some (.string r.1) ∧ w.cell? ((Addr.mk b off none).add (i * 2 + 1)) = some (.int .i64 r.2) ∧ Td.I64 r.2 := fun i => by
    by_cases hi : i < cap
    · obtain ⟨r, hr⟩ := hc i hi
      exact ⟨r, fun _ => hr⟩
    · exact ⟨(ByteArray.empty, 0), fun h => absurd h hi⟩
  obtain ⟨f, hf⟩ := Classical.axiomOfChoice hf
  refine ⟨(List.range l).map f, by simp, .inr ⟨b, off, rfl, ?_, fun i r hr => ?_⟩, fun m hm => ?_⟩
  · have := World.block_lt_of_cell? _ _ h0
    simpa [Addr.add] using this
  · have hi : i < l := by
      have := (List.getElem?_eq_some_iff.1 hr).1
      simpa using this
    rw [List.getElem?_map, List.getElem?_range hi] at hr
    simp only [Option.map_some, Option.some.injEq] at hr
    subst hr
    have := hf i (by omega)
    rw [ea, ea] at this
    exact ⟨this.1, by rw [Nat.add_assoc]; exact this.2.1⟩
  · obtain ⟨i, hi, rfl⟩ := List.mem_map.1 hm
    exact (hf i (by have := List.mem_range.1 hi; omega)).2.2
set_option maxRecDepth 100000 in
theorem open_rowsR {H : Type} {enc : TypeId × Value → H} {w : World} {base : Nat} {spare : Nat → Bool} {held : Bool} {f0 f1 : Field} {fuel : Nat} {cs : List Value} {x : DataW H × List MemPlace} (he : Tryd.prog.underlying 57 = some (.struct #[f0, f1]))
    (o0 : f0.offset = 0) (o1 : f1.offset = 1) (t0 : f0.type = 9) (t1 : f1.type = 2) (hspare : ∀ b, spare b = true)
    (h : DataW.trod enc Tryd.prog w base spare held fuel 24 cs = some x) : ∃ a ms cap, cs = [.slice a ms.length cap] ∧ RR w a ms ∧ ∀ m ∈ ms, Td.I64 m.2 := by
  have ci : Tryd.prog.cellsOf 2 = 1 := by kernel_rfl
  have ct : Tryd.prog.cellsOf 9 = 1 := by kernel_rfl
  rcases open_slice Tryd.underlying24 h with h0 | ⟨a, len, cap, m, n, D, Pl, rfl, hb, hl, hm, hmm, rfl, hx⟩
  · exact ⟨none, [], 0, h0.1, .inl rfl, fun m hm => absurd hm List.not_mem_nil⟩
  · obtain ⟨ms, hml, hms⟩ := rows_ofR (w := w) (x := a) hl (fun i hi => by
      rw [hspare, if_pos rfl] at hmm
      obtain ⟨cs', h1, h2⟩ := hx i (by omega)
      rw [row_cellsOf] at h1
      obtain ⟨_, hlen, hcell⟩ := World.cells?_some h1
      obtain ⟨xs, k, hk, hxy, _, hxl, hf⟩ := DataW.trod_struct he h2
      match xs, hxl, cs', hlen with
      | [y0, y1], _, [v0, v1], _ =>
        have g0 := hf 0 f0 rfl
        have g1 := hf 1 f1 rfl
        simp [o0, o1, t0, t1, ci, ct] at g0 g1
        have e0 := hcell 0 (by omega)
        have e1 := hcell 1 (by omega)
        rw [add_two] at e0 e1
        obtain ⟨z0, q0, _, _⟩ := DataW.trod_string Tryd.underlying9 g0
        obtain ⟨z1, q1, _, w1⟩ := DataW.trod_int Tryd.underlying2 g1
        simp at q0 q1
        subst q0 q1
        simp [Lit.wf, IntKind.min, IntKind.max, IntKind.signed, IntKind.bits] at w1
        exact ⟨(z0, z1), by simpa using e0, by simpa using e1, by show _ ≤ z1; omega, by show z1 ≤ _; omega⟩)
    exact ⟨some a, ms, cap, by rw [hml], hms⟩

set_option maxRecDepth 100000 in
set_option maxHeartbeats 1000000 in
theorem trod_noteR {H : Type} {enc : TypeId × Value → H} {w : World} {base : Nat} {spare : Nat → Bool} {held : Bool} {f0 f1 f2 f3 f4 f5 f6 f7 f8 : Field} {fuel : Nat} {cs : List Value} {x : DataW H × List MemPlace} (he : Tryd.prog.underlying 27 = some (.struct #[f0, f1, f2, f3, f4, f5, f6, f7, f8]))
    (o0 : f0.offset = 0) (o1 : f1.offset = 1) (o2 : f2.offset = 2) (o3 : f3.offset = 3) (o4 : f4.offset = 9) (o5 : f5.offset = 10) (o6 : f6.offset = 11) (o7 : f7.offset = 12) (o8 : f8.offset = 13)
    (t0 : f0.type = 3) (t1 : f1.type = 3) (t2 : f2.type = 3) (t3 : f3.type = 23) (t4 : f4.type = 9) (t5 : f5.type = 2) (t6 : f6.type = 24) (t7 : f7.type = 2) (t8 : f8.type = 25) (hspare : ∀ b, spare b = true)
    (h : DataW.trod enc Tryd.prog w base spare held fuel 27 cs = some x) : ∃ (z : Nt) (A : Option Addr) (l : List Rw) (c : Nat), Value.agg cs.toArray = .agg #[.int .i64 z.k, .int .i64 z.p, .int .i64 z.d, .int .i64 z.t.n, .string z.t.b, .string z.t.s, .string z.t.i, .int .i64 z.t.q, .int .i64 z.t.p, .string z.n, .int .i64 z.a, .slice A l.length c, .int .i64 z.hi, .int .u64 z.lo] ∧ RR w A l ∧ NOk z ∧ ∀ m ∈ l, Td.I64 m.2 := by
  have cn : Tryd.prog.cellsOf 3 = 1 := by kernel_rfl
  have cj : Tryd.prog.cellsOf 2 = 1 := by kernel_rfl
  have ct : Tryd.prog.cellsOf 9 = 1 := by kernel_rfl
  have cu : Tryd.prog.cellsOf 25 = 1 := by kernel_rfl
  have cr : Tryd.prog.cellsOf 24 = 1 := by kernel_rfl
  have ctr : Tryd.prog.cellsOf 23 = 6 := by kernel_rfl
  have cc : Tryd.prog.cellsOf 27 = 14 := by kernel_rfl
  obtain ⟨xs, k, hk, hxy, hl, hxl, hf⟩ := DataW.trod_struct he h
  rw [cc] at hl
  match xs, hxl, cs, hl with
  | [y0, y1, y2, y3, y4, y5, y6, y7, y8], _, [v0, v1, v2, v3, v4, v5, v6, v7, v8, v9, v10, v11, v12, v13], _ =>
    have g0 := hf 0 f0 rfl
    have g1 := hf 1 f1 rfl
    have g2 := hf 2 f2 rfl
    have g3 := hf 3 f3 rfl
    have g4 := hf 4 f4 rfl
    have g5 := hf 5 f5 rfl
    have g6 := hf 6 f6 rfl
    have g7 := hf 7 f7 rfl
    have g8 := hf 8 f8 rfl
    simp [o0, o1, o2, o3, o4, o5, o6, o7, o8, t0, t1, t2, t3, t4, t5, t6, t7, t8, cn, cj, ct, cu, cr, ctr] at g0 g1 g2 g3 g4 g5 g6 g7 g8
    obtain ⟨z0, q0, _, w0⟩ := DataW.trod_int Tryd.underlying3 g0
    obtain ⟨z1, q1, _, w1⟩ := DataW.trod_int Tryd.underlying3 g1
    obtain ⟨z2, q2, _, w2⟩ := DataW.trod_int Tryd.underlying3 g2
    obtain ⟨tr, q3, n3, m3, r3⟩ := trod_tr Tryd.underlying23 rfl rfl rfl rfl rfl rfl rfl rfl rfl rfl rfl rfl g3
    obtain ⟨z4, q4, _, _⟩ := DataW.trod_string Tryd.underlying9 g4
    obtain ⟨z5, q5, _, w5⟩ := DataW.trod_int Tryd.underlying2 g5
    obtain ⟨A, l, c, q6, hr, hrn⟩ := open_rowsR Tryd.underlying57 rfl rfl rfl rfl hspare g6
    obtain ⟨z7, q7, _, w7⟩ := DataW.trod_int Tryd.underlying2 g7
    obtain ⟨z8, q8, _, w8⟩ := DataW.trod_int Tryd.underlying25 g8
    simp at q0 q1 q2 q3 q4 q5 q6 q7 q8
    obtain ⟨e3, e4, e5, e6, e7, e8⟩ := q3
    subst q0 q1 q2 q4 q5 q6 q7 q8 e3 e4 e5 e6 e7 e8
    simp [Lit.wf, IntKind.min, IntKind.max, IntKind.signed, IntKind.bits] at w0 w1 w2 w5 w7 w8
    exact ⟨⟨z0, z1, z2, tr, z4, z5, z7, z8⟩, A, l, c, rfl, hr, ⟨⟨by show _ ≤ z0; omega, by show z0 ≤ _; omega⟩, ⟨by show _ ≤ z1; omega, by show z1 ≤ _; omega⟩, ⟨by show _ ≤ z2; omega, by show z2 ≤ _; omega⟩, ⟨n3, m3, r3⟩, ⟨by show _ ≤ z5; omega, by show z5 ≤ _; omega⟩, ⟨by show _ ≤ z7; omega, by show z7 ≤ _; omega⟩, by show 0 ≤ z8; omega, by show z8 < _; omega⟩, hrn⟩
set_option maxRecDepth 100000 in
/-- A note by value that came in. -/
theorem open_noteR {H : Type} {enc : TypeId × Value → H} {w : World} {base b0 : Nat} {held : Bool} {r : Reach} {v : Value} {d : DataW H} {p : List MemPlace}
    (hv : Value.okWide Tryd.prog w r b0 27 v) (h : DataW.Trod enc Tryd.prog w base (fun _ => true) held 27 v d p) : ∃ (z : Nt) (A : Option Addr) (l : List Rw) (c : Nat), v = .agg #[.int .i64 z.k, .int .i64 z.p, .int .i64 z.d, .int .i64 z.t.n, .string z.t.b, .string z.t.s, .string z.t.i, .int .i64 z.t.q, .int .i64 z.t.p, .string z.n, .int .i64 z.a, .slice A l.length c, .int .i64 z.hi, .int .u64 z.lo] ∧ RR w A l ∧ NOk z ∧ ∀ m ∈ l, Td.I64 m.2 := by
  obtain ⟨cs, rfl, hsz⟩ := okWide_struct Tryd.underlying27 hv
  obtain ⟨fuel, hf⟩ := h
  obtain ⟨z, A, l, c, ht, hk⟩ := trod_noteR Tryd.underlying27 rfl rfl rfl rfl rfl rfl rfl rfl rfl rfl rfl rfl rfl rfl rfl rfl rfl rfl (fun _ => rfl) hf
  refine ⟨z, A, l, c, ?_, hk⟩
  rw [← ht]
  congr 1
end Go.Proofs.YteahloddjekakaaDoor.Nt

namespace Go.Proofs.YteahloddjekakaaDoor.Nt
open Go.ChangeShapes Go.WideShapes Go.ChangeAt Go.RowKit

set_option maxRecDepth 100000 in
/-- A kind's row. -/
theorem kind_row {H : Type} {enc : TypeId × Value → H} {w : World} {base : Nat} {spare : Nat → Bool} {held : Bool} {fuel : Nat} {cs : List Value} {q : List MemPlace} {bs : List UInt8} {b0 b1 b2 b3 b4 b5 b6 : Bool} {f0 f1 g0 g1 g2 g3 g4 g5 g6 : Field}
    (he : Tryd.prog.underlying 63 = some (.struct #[f0, f1])) (hp : Tryd.prog.underlying 62 = some (.struct #[g0, g1, g2, g3, g4, g5, g6]))
    (o0 : f0.offset = 0) (o1 : f1.offset = 1) (t0 : f0.type = 9) (t1 : f1.type = 62)
    (p0 : g0.offset = 0) (p1 : g1.offset = 1) (p2 : g2.offset = 2) (p3 : g3.offset = 3) (p4 : g4.offset = 4) (p5 : g5.offset = 5) (p6 : g6.offset = 6)
    (u0 : g0.type = 4) (u1 : g1.type = 4) (u2 : g2.type = 4) (u3 : g3.type = 4) (u4 : g4.type = 4) (u5 : g5.type = 4) (u6 : g6.type = 4)
    (h : DataW.trod enc Tryd.prog w base spare held fuel 63 cs = some (.agg [.lit (.string bs), .agg [.lit (.bool b0), .lit (.bool b1), .lit (.bool b2), .lit (.bool b3), .lit (.bool b4), .lit (.bool b5), .lit (.bool b6)]], q)) :
    cs = [.string ⟨bs.toArray⟩, .bool b0, .bool b1, .bool b2, .bool b3, .bool b4, .bool b5, .bool b6] := by
  have ct : Tryd.prog.cellsOf 9 = 1 := by kernel_rfl
  have cb : Tryd.prog.cellsOf 4 = 1 := by kernel_rfl
  have cp : Tryd.prog.cellsOf 62 = 7 := by kernel_rfl
  have cc : Tryd.prog.cellsOf 63 = 8 := by kernel_rfl
  obtain ⟨xs, k, hk, hxy, hl, hxl, hf⟩ := DataW.trod_struct he h
  rw [cc] at hl
  match xs, hxl, cs, hl with
  | [y0, y1], _, [v0, v1, v2, v3, v4, v5, v6, v7], _ =>
    have e0 := hf 0 f0 rfl
    have e1 := hf 1 f1 rfl
    simp [o0, o1, t0, t1, ct, cp] at e0 e1
    simp only [List.map_cons, List.map_nil, Prod.mk.injEq, DataW.agg.injEq, List.cons.injEq, and_true] at hxy
    obtain ⟨⟨hy0, hy1⟩, _⟩ := hxy
    obtain ⟨z0, q0, r0, _⟩ := DataW.trod_string Tryd.underlying9 e0
    obtain ⟨ws, k2, _, hwy, _, hwl, hg⟩ := DataW.trod_struct hp e1
    match ws, hwl with
    | [a0, a1, a2, a3, a4, a5, a6], _ =>
      have d0 := hg 0 g0 rfl
      have d1 := hg 1 g1 rfl
      have d2 := hg 2 g2 rfl
      have d3 := hg 3 g3 rfl
      have d4 := hg 4 g4 rfl
      have d5 := hg 5 g5 rfl
      have d6 := hg 6 g6 rfl
      simp [p0, p1, p2, p3, p4, p5, p6, u0, u1, u2, u3, u4, u5, u6, cb] at d0 d1 d2 d3 d4 d5 d6
      obtain ⟨x0, m0, n0⟩ := DataW.trod_bool Tryd.underlying4 d0
      obtain ⟨x1, m1, n1⟩ := DataW.trod_bool Tryd.underlying4 d1
      obtain ⟨x2, m2, n2⟩ := DataW.trod_bool Tryd.underlying4 d2
      obtain ⟨x3, m3, n3⟩ := DataW.trod_bool Tryd.underlying4 d3
      obtain ⟨x4, m4, n4⟩ := DataW.trod_bool Tryd.underlying4 d4
      obtain ⟨x5, m5, n5⟩ := DataW.trod_bool Tryd.underlying4 d5
      obtain ⟨x6, m6, n6⟩ := DataW.trod_bool Tryd.underlying4 d6
      subst n0 n1 n2 n3 n4 n5 n6
      rw [hwy] at hy1
      simp at hy1 q0 m0 m1 m2 m3 m4 m5 m6
      obtain ⟨rfl, rfl, rfl, rfl, rfl, rfl, rfl⟩ := hy1
      subst q0 m0 m1 m2 m3 m4 m5 m6
      rw [r0] at hy0
      simp at hy0
      subst hy0
      rfl

/-- The datum of a kind's row. -/
def kDat (k : Nat) : DataW Unit := .agg [.lit (.string (kwB k).data.toList), .agg [.lit (.bool (kp k)), .lit (.bool (kd k)), .lit (.bool (kt k)), .lit (.bool (kn k)), .lit (.bool (ka k)), .lit (.bool (kr k)), .lit (.bool (kc k))]]
theorem kDats : (Rows.laid_clevis_note_kinds : DataW Unit) = .agg ((List.range 13).map kDat) := by kernel_rfl
set_option maxRecDepth 100000 in
theorem kin_of_laid (W : World) (h : laidMetH Tryd.prog [("clevis/note.kinds", Rows.laid_clevis_note_kinds)] W) : KinC W := by
  rw [MakeChecks.laidMetH_plain _ _ _ (by kernel_rfl)] at h
  obtain ⟨ps, ⟨g, t, cs, fuel, p, q, hg, ht, hvar, hd, _, _⟩, _⟩ := h
  have hg0 : Tryd.prog.globalNamed "clevis/note.kinds" = some 0 := by kernel_rfl
  obtain rfl := Option.some.inj (hg0.symm.trans hg)
  have ht0 : (Tryd.prog.globals[0]?).map (·.type) = some 64 := by kernel_rfl
  obtain rfl := Option.some.inj (ht0.symm.trans ht)
  have ce : Tryd.prog.cellsOf 63 = 8 := by kernel_rfl
  rw [kDats] at hd
  obtain ⟨xs, m, _, hxy, hl, hxl, hi⟩ := DataW.trod_array Tryd.underlying64 hd
  have hcell : ∀ j, W.cell? ⟨0, j, none⟩ = cs[j]? := fun j => World.var?_cell hg0 hvar j
  have hbl : 0 < W.heap.size := by
    have h0 : cs[0]?.isSome = true := by
      have : 0 < cs.size := by
        have hk := Tryd.underlying64
        have hc : Tryd.prog.cellsOf 64 = 104 := by kernel_rfl
        rw [hc] at hl
        simp at hl; omega
      simp [this]
    obtain ⟨v, hv⟩ := Option.isSome_iff_exists.1 h0
    exact World.block_lt_of_cell? _ _ ((hcell 0).trans hv)
  refine ⟨hbl, fun k hk => ?_⟩
  have hik := hi k (by omega)
  rw [ce] at hik
  have hxk : xs[k]?.map (·.1) = some (kDat k) := by
    simp only [Prod.mk.injEq, DataW.agg.injEq] at hxy
    have := hxy.1
    rw [← List.getElem?_map, ← this, List.getElem?_map, List.getElem?_range (by omega)]
    rfl
  obtain ⟨xk, hxk1, hxk2⟩ := Option.map_eq_some_iff.1 hxk
  rw [hxk1] at hik
  obtain ⟨x1, x2⟩ := xk
  simp only at hxk2
  subst hxk2
  have hrow := kind_row Tryd.underlying63 Tryd.underlying62 rfl rfl rfl rfl rfl rfl rfl rfl rfl rfl rfl rfl rfl rfl rfl rfl rfl rfl hik
  have hat : ∀ j, j < 8 → W.cell? ⟨0, k * 8 + j, none⟩ = ([.string ⟨(kwB k).data.toList.toArray⟩, .bool (kp k), .bool (kd k), .bool (kt k), .bool (kn k), .bool (ka k), .bool (kr k), .bool (kc k)] : List Value)[j]? := fun j hj => by
    rw [hcell, ← hrow, List.getElem?_take, if_pos hj, List.getElem?_drop]
    simp
  have h0 := hat 0 (by omega)
  exact ⟨by simpa using h0, hat 1 (by omega), hat 2 (by omega), hat 3 (by omega), hat 4 (by omega), hat 5 (by omega), hat 6 (by omega), hat 7 (by omega)⟩
end Go.Proofs.YteahloddjekakaaDoor.Nt

namespace Go.Proofs.YteahloddjekakaaDoor.Nt
open Go.RowKit Oc

set_option maxRecDepth 100000 in
set_option maxHeartbeats 2000000 in
theorem bsame_any (w : World) (u v : Value) (l m : List Int) (hu : BAt w u l) (hv : BAt w v m) (hn : l.length ≤ 2000000) (hm : m.length ≤ 2000000) :
    Calls Tryd.prog 19 #[u, v] w fun e w' => e = .returned (.bool (decide (l = m))) ∧ Below w.heap.size w w' := by
  obtain ⟨A, cap, rfl, k1, h1⟩ := hu
  obtain ⟨A', cap', rfl, k2, h2⟩ := hv
  obtain ⟨n, hn2⟩ : ∃ n, n = l.length := ⟨_, rfl⟩
  obtain ⟨n', hn3⟩ : ∃ n', n' = m.length := ⟨_, rfl⟩
  obtain ⟨q, hq⟩ : ∃ q, q = decide (l = m) := ⟨_, rfl⟩
  rw [← hn2] at h1 hn k1 ⊢
  rw [← hn3] at h2 hm k2 ⊢
  rw [← hq]
  have H1 := Lib.hid h1
  have H2 := Lib.hid h2
  have HQ := Lib.hid hq
  have HL := Lib.hid (And.intro hn2 hn3)
  have e0 : (0 : Int) ≤ (n : Int) := by omega
  clear h1 h2 hn2 hn3 hq
  by_cases hnn : n = n'
  · subst hnn
    go_enter Tryd.func19, Tryd.ntmps19
    go_wp2
    go_loopg [5] n (fun (gh : Nat) s5 wx => ∃ i : Nat, gh = n - i ∧ i ≤ n ∧ s5 = .int .i64 (i : Int) ∧ Below w.heap.size w wx ∧ Hid (∀ k, k < i → l.getD k 0 = m.getD k 0))
    case atStart => exact ⟨0, rfl, Nat.zero_le _, rfl, Below.refl _ _, fun k hk => absurd hk (Nat.not_lt_zero _)⟩
    case round =>
      obtain ⟨i, rfl, hi, rfl, hbel, HAll⟩ := hrel
      by_cases hlt : i < n
      · have t1 : (i : Int) < (n : Int) := by omega
        have t2 : (0 : Int) ≤ (i : Int) := by omega
        obtain ⟨g, o, rfl, lg, hc1⟩ := H1.out (by omega)
        obtain ⟨g', o', rfl, lg', hc3⟩ := H2.out (by omega)
        obtain ⟨r, hr⟩ : ∃ r, r = l.getD i 0 := ⟨_, rfl⟩
        obtain ⟨r', hr'⟩ : ∃ r', r' = m.getD i 0 := ⟨_, rfl⟩
        have c1 : wr.cell? ⟨g, o + i, none⟩ = some (.int .u8 r) := by rw [hr]; exact (hbel.cell (p := ⟨g, o + i, none⟩) lg).trans (hc1 i hlt)
        have c3 : wr.cell? ⟨g', o' + i, none⟩ = some (.int .u8 r') := by rw [hr']; exact (hbel.cell (p := ⟨g', o' + i, none⟩) lg').trans (hc3 i hlt)
        have HB := Lib.hid hbel
        have HR := Lib.hid (And.intro hr hr')
        clear hbel hr hr' hc1 hc3
        by_cases hrr : r = r'
        · have HRR := Lib.hid hrr
          subst hrr
          go_wp2_with fail
          go_quiet (fail)
          go_wp2
          go_roundg (n - (i + 1))
          case measure => omega
          case rel =>
            refine ⟨i + 1, rfl, hlt, by go_num, ⟨HB.out.os, HB.out.tape, HB.out.output, HB.out.size, HB.out.block⟩, fun k hk => ?_⟩
            by_cases hki : k = i
            · rw [hki, ← HR.out.1, ← HR.out.2]
            · exact HAll.out k (by omega)
        · have hq : q = false := by
            rw [HQ.out]
            refine decide_eq_false fun e => hrr ?_
            rw [HR.out.1, HR.out.2, e]
          have HQF := Lib.hid hq
          have hrb1 : (r == r') = false := by simpa using hrr
          have hrb2 : (r != r') = true := by simpa using hrr
          clear hq
          go_wp2_with fail
          go_quiet (fail)
          go_wp2
          go_ret
          exact ⟨by rw [HQF.out]; rfl, ⟨HB.out.os, HB.out.tape, HB.out.output, HB.out.size, HB.out.block⟩⟩
      · have hil : i = n := by omega
        subst hil
        have t1 : decide ((i : Int) < (i : Int)) = false := by simp
        have HB := Lib.hid hbel
        have hq : q = true := by
          rw [HQ.out]
          refine decide_eq_true (List.ext_getElem (by rw [← HL.out.1, ← HL.out.2]) fun k h3 h4 => ?_)
          have h5 := HAll.out k (by rw [HL.out.1]; exact h3)
          rw [List.getD_eq_getElem?_getD, List.getD_eq_getElem?_getD, List.getElem?_eq_getElem h3, List.getElem?_eq_getElem h4] at h5
          exact h5
        have HQT := Lib.hid hq
        clear hbel hq
        go_wp2
        go_ret
        exact ⟨by rw [HQT.out]; rfl, HB.out⟩
  · have hq : q = false := by
      rw [HQ.out]
      refine decide_eq_false fun e => hnn ?_
      rw [HL.out.1, HL.out.2, e]
    have hne : ¬ (n : Int) = (n' : Int) := by omega
    have HQF := Lib.hid hq
    clear hq
    go_enter Tryd.func19, Tryd.ntmps19
    go_wp2
    go_ret
    exact ⟨by rw [HQF.out]; rfl, Below.refl _ _⟩
end Go.Proofs.YteahloddjekakaaDoor.Nt
