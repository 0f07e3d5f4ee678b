/-
  A note that came in, opened. Conditions: none.
-/
import Derived.Test.YteahloddjekakaaDoorNRow
import Derived.Test.YteahloddjekakaaDoorYOpen
import Derived.Deep.SlicePairs
namespace Go.Proofs.YteahloddjekakaaDoor.Nt
open Go.ChangeShapes Go.WideShapes Go.ChangeAt Go.RowKit Go.Joins Go.Deep Td

theorem rows_of {w : World} {x : Addr} {l cap : Nat} (hl : l ≤ cap) (hc : ∀ i, i < cap → ∃ r : Rw, w.cell? (x.add (i * 2)) = some (.string r.1) ∧ w.cell? (x.add (i * 2 + 1)) = some (.int .i64 r.2)) : ∃ ms : List Rw, ms.length = l ∧ RR w (some x) ms := by
  rcases Nat.eq_zero_or_pos l with h0 | hp
  · exact ⟨[], by rw [h0]; rfl, .inl rfl⟩
  obtain ⟨b, off, spot⟩ := x
  obtain ⟨r0, h0, _⟩ := hc 0 (by omega)
  have hspot : spot = none := by simpa [Addr.add] using World.cell?_spot h0
  subst hspot
  have ea : ∀ j, (Addr.mk b off none).add j = ⟨b, off + j, none⟩ := fun j => by cases j <;> simp [Addr.add]
  have hf : ∀ i : Nat, ∃ r : Rw, i < cap → w.cell? ((Addr.mk b off none).add (i * 2)) = some (.string r.1) ∧ w.cell? ((Addr.mk b off none).add (i * 2 + 1)) = some (.int .i64 r.2) := fun i => by
    by_cases hi : i < cap
    · obtain ⟨r, hr⟩ := hc i hi
      exact ⟨r, fun _ => hr⟩
    · exact ⟨(ByteArray.empty, 0), fun h => absurd h hi⟩
  obtain ⟨f, hf⟩ := Classical.axiomOfChoice hf
  refine ⟨(List.range l).map f, by simp, .inr ⟨b, off, rfl, ?_, fun i r hr => ?_⟩⟩
  · have := World.block_lt_of_cell? _ _ h0
    simpa [Addr.add] using this
  · have hi : i < l := by
      have := (List.getElem?_eq_some_iff.1 hr).1
      simpa using this
    rw [List.getElem?_map, List.getElem?_range hi] at hr
    simp only [Option.map_some, Option.some.injEq] at hr
    subst hr
    have := hf i (by omega)
    rw [ea, ea] at this
    exact ⟨this.1, by rw [Nat.add_assoc]; exact this.2⟩
theorem row_cellsOf : Tryd.prog.cellsOf 57 = 2 := by kernel_rfl
theorem add_two (a : Addr) (i j : Nat) : (a.add i).add j = a.add (i + j) := by
  cases i <;> cases j <;> simp [Addr.add]
  omega
set_option maxRecDepth 100000 in
theorem open_rows {H : Type} {enc : TypeId × Value → H} {w : World} {base : Nat} {spare : Nat → Bool} {held : Bool} {f0 f1 : Field} {fuel : Nat} {cs : List Value} {x : DataW H × List MemPlace} (he : Tryd.prog.underlying 57 = some (.struct #[f0, f1]))
    (o0 : f0.offset = 0) (o1 : f1.offset = 1) (t0 : f0.type = 9) (t1 : f1.type = 2) (hspare : ∀ b, spare b = true)
    (h : DataW.trod enc Tryd.prog w base spare held fuel 24 cs = some x) : ∃ a ms cap, cs = [.slice a ms.length cap] ∧ RR w a ms := by
  have ci : Tryd.prog.cellsOf 2 = 1 := by kernel_rfl
  have ct : Tryd.prog.cellsOf 9 = 1 := by kernel_rfl
  rcases open_slice Tryd.underlying24 h with h0 | ⟨a, len, cap, m, n, D, Pl, rfl, hb, hl, hm, hmm, rfl, hx⟩
  · exact ⟨none, [], 0, h0.1, .inl rfl⟩
  · obtain ⟨ms, hml, hms⟩ := rows_of (w := w) (x := a) hl (fun i hi => by
      rw [hspare, if_pos rfl] at hmm
      obtain ⟨cs', h1, h2⟩ := hx i (by omega)
      rw [row_cellsOf] at h1
      obtain ⟨_, hlen, hcell⟩ := World.cells?_some h1
      obtain ⟨xs, k, hk, hxy, _, hxl, hf⟩ := DataW.trod_struct he h2
      match xs, hxl, cs', hlen with
      | [y0, y1], _, [v0, v1], _ =>
        have g0 := hf 0 f0 rfl
        have g1 := hf 1 f1 rfl
        simp [o0, o1, t0, t1, ci, ct] at g0 g1
        have e0 := hcell 0 (by omega)
        have e1 := hcell 1 (by omega)
        rw [add_two] at e0 e1
        obtain ⟨z0, q0, _, _⟩ := DataW.trod_string Tryd.underlying9 g0
        obtain ⟨z1, q1, _, _⟩ := DataW.trod_int Tryd.underlying2 g1
        simp at q0 q1
        subst q0 q1
        exact ⟨(z0, z1), by simpa using e0, by simpa using e1⟩)
    exact ⟨some a, ms, cap, by rw [hml], hms⟩

/-- What a note that came in may be. -/
def NOk (x : Nt) : Prop := I64 x.k ∧ I64 x.p ∧ I64 x.d ∧ (I64 x.t.n ∧ I64 x.t.q ∧ I64 x.t.p) ∧ I64 x.a ∧ I64 x.hi ∧ 0 ≤ x.lo ∧ x.lo < 18446744073709551616
set_option maxRecDepth 100000 in
set_option maxHeartbeats 1000000 in
theorem trod_note {H : Type} {enc : TypeId × Value → H} {w : World} {base : Nat} {spare : Nat → Bool} {held : Bool} {f0 f1 f2 f3 f4 f5 f6 f7 f8 : Field} {fuel : Nat} {cs : List Value} {x : DataW H × List MemPlace} (he : Tryd.prog.underlying 27 = some (.struct #[f0, f1, f2, f3, f4, f5, f6, f7, f8]))
    (o0 : f0.offset = 0) (o1 : f1.offset = 1) (o2 : f2.offset = 2) (o3 : f3.offset = 3) (o4 : f4.offset = 9) (o5 : f5.offset = 10) (o6 : f6.offset = 11) (o7 : f7.offset = 12) (o8 : f8.offset = 13)
    (t0 : f0.type = 3) (t1 : f1.type = 3) (t2 : f2.type = 3) (t3 : f3.type = 23) (t4 : f4.type = 9) (t5 : f5.type = 2) (t6 : f6.type = 24) (t7 : f7.type = 2) (t8 : f8.type = 25) (hspare : ∀ b, spare b = true)
    (h : DataW.trod enc Tryd.prog w base spare held fuel 27 cs = some x) : ∃ (z : Nt) (A : Option Addr) (l : List Rw) (c : Nat), Value.agg cs.toArray = .agg #[.int .i64 z.k, .int .i64 z.p, .int .i64 z.d, .int .i64 z.t.n, .string z.t.b, .string z.t.s, .string z.t.i, .int .i64 z.t.q, .int .i64 z.t.p, .string z.n, .int .i64 z.a, .slice A l.length c, .int .i64 z.hi, .int .u64 z.lo] ∧ RR w A l ∧ NOk z := by
  have cn : Tryd.prog.cellsOf 3 = 1 := by kernel_rfl
  have cj : Tryd.prog.cellsOf 2 = 1 := by kernel_rfl
  have ct : Tryd.prog.cellsOf 9 = 1 := by kernel_rfl
  have cu : Tryd.prog.cellsOf 25 = 1 := by kernel_rfl
  have cr : Tryd.prog.cellsOf 24 = 1 := by kernel_rfl
  have ctr : Tryd.prog.cellsOf 23 = 6 := by kernel_rfl
  have cc : Tryd.prog.cellsOf 27 = 14 := by kernel_rfl
  obtain ⟨xs, k, hk, hxy, hl, hxl, hf⟩ := DataW.trod_struct he h
  rw [cc] at hl
  match xs, hxl, cs, hl with
  | [y0, y1, y2, y3, y4, y5, y6, y7, y8], _, [v0, v1, v2, v3, v4, v5, v6, v7, v8, v9, v10, v11, v12, v13], _ =>
    have g0 := hf 0 f0 rfl
    have g1 := hf 1 f1 rfl
    have g2 := hf 2 f2 rfl
    have g3 := hf 3 f3 rfl
    have g4 := hf 4 f4 rfl
    have g5 := hf 5 f5 rfl
    have g6 := hf 6 f6 rfl
    have g7 := hf 7 f7 rfl
    have g8 := hf 8 f8 rfl
    simp [o0, o1, o2, o3, o4, o5, o6, o7, o8, t0, t1, t2, t3, t4, t5, t6, t7, t8, cn, cj, ct, cu, cr, ctr] at g0 g1 g2 g3 g4 g5 g6 g7 g8
    obtain ⟨z0, q0, _, w0⟩ := DataW.trod_int Tryd.underlying3 g0
    obtain ⟨z1, q1, _, w1⟩ := DataW.trod_int Tryd.underlying3 g1
    obtain ⟨z2, q2, _, w2⟩ := DataW.trod_int Tryd.underlying3 g2
    obtain ⟨tr, q3, n3, m3, r3⟩ := trod_tr Tryd.underlying23 rfl rfl rfl rfl rfl rfl rfl rfl rfl rfl rfl rfl g3
    obtain ⟨z4, q4, _, _⟩ := DataW.trod_string Tryd.underlying9 g4
    obtain ⟨z5, q5, _, w5⟩ := DataW.trod_int Tryd.underlying2 g5
    obtain ⟨A, l, c, q6, hr⟩ := open_rows Tryd.underlying57 rfl rfl rfl rfl hspare g6
    obtain ⟨z7, q7, _, w7⟩ := DataW.trod_int Tryd.underlying2 g7
    obtain ⟨z8, q8, _, w8⟩ := DataW.trod_int Tryd.underlying25 g8
    simp at q0 q1 q2 q3 q4 q5 q6 q7 q8
    obtain ⟨e3, e4, e5, e6, e7, e8⟩ := q3
    subst q0 q1 q2 q4 q5 q6 q7 q8 e3 e4 e5 e6 e7 e8
    simp [Lit.wf, IntKind.min, IntKind.max, IntKind.signed, IntKind.bits] at w0 w1 w2 w5 w7 w8
    exact ⟨⟨z0, z1, z2, tr, z4, z5, z7, z8⟩, A, l, c, rfl, hr, ⟨by show _ ≤ z0; omega, by show z0 ≤ _; omega⟩, ⟨by show _ ≤ z1; omega, by show z1 ≤ _; omega⟩, ⟨by show _ ≤ z2; omega, by show z2 ≤ _; omega⟩, ⟨n3, m3, r3⟩, ⟨by show _ ≤ z5; omega, by show z5 ≤ _; omega⟩, ⟨by show _ ≤ z7; omega, by show z7 ≤ _; omega⟩, by show 0 ≤ z8; omega, by show z8 < _; omega⟩
set_option maxRecDepth 100000 in
/-- A note by value that came in. -/
theorem open_note {H : Type} {enc : TypeId × Value → H} {w : World} {base b0 : Nat} {held : Bool} {r : Reach} {v : Value} {d : DataW H} {p : List MemPlace}
    (hv : Value.okWide Tryd.prog w r b0 27 v) (h : DataW.Trod enc Tryd.prog w base (fun _ => true) held 27 v d p) : ∃ (z : Nt) (A : Option Addr) (l : List Rw) (c : Nat), v = .agg #[.int .i64 z.k, .int .i64 z.p, .int .i64 z.d, .int .i64 z.t.n, .string z.t.b, .string z.t.s, .string z.t.i, .int .i64 z.t.q, .int .i64 z.t.p, .string z.n, .int .i64 z.a, .slice A l.length c, .int .i64 z.hi, .int .u64 z.lo] ∧ RR w A l ∧ NOk z := by
  obtain ⟨cs, rfl, hsz⟩ := okWide_struct Tryd.underlying27 hv
  obtain ⟨fuel, hf⟩ := h
  obtain ⟨z, A, l, c, ht, hk⟩ := trod_note Tryd.underlying27 rfl rfl rfl rfl rfl rfl rfl rfl rfl rfl rfl rfl rfl rfl rfl rfl rfl rfl (fun _ => rfl) hf
  refine ⟨z, A, l, c, ?_, hk⟩
  rw [← ht]
  congr 1
end Go.Proofs.YteahloddjekakaaDoor.Nt
