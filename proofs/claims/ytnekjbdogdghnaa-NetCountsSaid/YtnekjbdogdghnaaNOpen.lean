/-
  Bytes, slices of bytes and calls that came in. Conditions: none.
-/
import Derived.Test.YtnekjbdogdghnaaNKno
import Derived.ProofKit
import Derived.Deep.Grids
import Derived.Deep.Slices
import Derived.OpenShut
import Derived.ChangeOld
import Derived.Lib.SmallJoins
import Derived.ChangeMaps5
namespace Go.Proofs.Ytnekjbdogdghnaa.Ne
open Go.ChangeShapes Go.WideShapes Go.ChangeAt Go.RowKit Go.Joins Go.Deep
open Fr (BAt bok getD_take)

/-- A slice of bytes that came in holds bytes. -/
theorem open_bytes {H : Type} {enc : TypeId × Value → H} {w : World} {held : Bool} {fuel : Nat} {cs : List Value} {x : DataW H × List MemPlace} (h : DataW.trod enc Try.prog w 0 (fun _ => true) held fuel 37 cs = some x) :
    ∃ A len cap l, cs = [.slice A len cap] ∧ BAt w (.slice A len cap) l ∧ bok l := by
  rcases open_ints Try.underlying37 Try.underlying5 (by kernel_rfl) h with ⟨hcs, _⟩ | ⟨a, len, c, zs, hcs, _, hl, hm, hz, _, hcell, hwz⟩
  · exact ⟨none, 0, 0, [], hcs, Fr.BAt.nil w, fun x hx => absurd hx (List.not_mem_nil)⟩
  · have hzl : len ≤ zs.length := by simp at hz; omega
    have hll : (zs.take len).length = len := by rw [List.length_take]; omega
    refine ⟨some a, len, c, zs.take len, hcs, ⟨some a, c, by rw [hll], by rw [hll]; omega, fun hp => ?_⟩, fun y hy => ?_⟩
    · rw [hll] at hp ⊢
      obtain ⟨b, off, spot⟩ := a
      have hc := hcell 0 (by omega)
      have hspot : spot = none := by simpa [Addr.add] using World.cell?_spot hc
      subst hspot
      refine ⟨b, off, rfl, ?_, fun i hi => ?_⟩
      · have := World.block_lt_of_cell? _ _ hc
        simpa [Addr.add] using this
      · have := hcell i (by omega)
        rw [show (Addr.mk b off none).add i = ⟨b, off + i, none⟩ by unfold Addr.add; split <;> simp_all] at this
        rw [this, getD_take hi]
    · have := hwz y (List.mem_of_mem_take hy)
      simp [Lit.wf, IntKind.min, IntKind.max, IntKind.signed, IntKind.bits] at this
      omega
theorem rows_list {Q : Nat → List Int → Prop} (m : Nat) (h : ∀ i, i < m → ∃ p, Q i p) : ∃ ps : List (List Int), ps.length = m ∧ ∀ i p, ps[i]? = some p → Q i p := by
  induction m with
  | zero => exact ⟨[], rfl, fun i p hp => by simp at hp⟩
  | succ m ih =>
    obtain ⟨ps, h1, h2⟩ := ih (fun i hi => h i (by omega))
    obtain ⟨p, hp⟩ := h m (by omega)
    refine ⟨ps ++ [p], by simp [h1], fun i q hq => ?_⟩
    rcases Nat.lt_or_ge i ps.length with hi | hi
    · rw [List.getElem?_append_left hi] at hq
      exact h2 i q hq
    · rw [List.getElem?_append_right hi] at hq
      have hi0 : i - ps.length = 0 := by
        rcases Nat.eq_zero_or_pos (i - ps.length) with h0 | h0
        · exact h0
        · rw [List.getElem?_eq_none (by simp; omega)] at hq; cases hq
      rw [hi0] at hq
      have hqp : p = q := by simpa using hq
      subst hqp
      have : i = m := by omega
      subst this
      exact hp
theorem bytes_cellsOf : Try.prog.cellsOf 37 = 1 := by kernel_rfl
theorem free_old {w : World} {k : Nat} (h : k < w.heap.size) : Free w.heap.size w k := ⟨h, fun ⟨x, _⟩ => by omega⟩
theorem bf_old {w : World} {v : Value} {l : List Int} (h : BAt w v l) (hb : bok l) : BFr w.heap.size w v l := by
  obtain ⟨A, c, h1, h2, h3⟩ := h
  refine ⟨A, c, h1, h2, hb, fun hp => ?_⟩
  obtain ⟨g, o, h4, h5, h6⟩ := h3 hp
  exact ⟨g, o, h4, free_old h5, h6⟩
/-- Bytes that came in. -/
theorem open_bf {H : Type} {enc : TypeId × Value → H} {w : World} {held : Bool} {fuel : Nat} {cs : List Value} {x : DataW H × List MemPlace} (h : DataW.trod enc Try.prog w 0 (fun _ => true) held fuel 37 cs = some x) :
    ∃ A len cap l, cs = [.slice A len cap] ∧ BFr w.heap.size w (.slice A len cap) l := by
  obtain ⟨A, len, cap, l, h1, h2, h3⟩ := open_bytes h
  exact ⟨A, len, cap, l, h1, bf_old h2 h3⟩
/-- Slices of bytes that came in. -/
theorem open_bbf {H : Type} {enc : TypeId × Value → H} {w : World} {held : Bool} {fuel : Nat} {cs : List Value} {x : DataW H × List MemPlace} (h : DataW.trod enc Try.prog w 0 (fun _ => true) held fuel 33 cs = some x) :
    ∃ A len cap ls, cs = [.slice A len cap] ∧ SFr w.heap.size w (.slice A len cap) ls := by
  rcases open_slice Try.underlying33 h with h0 | ⟨a, len, cap, m, n, D, Pl, rfl, hb, hl, hm, hmm, rfl, hx⟩
  · exact ⟨none, 0, 0, [], h0.1, SFr.nil _ _⟩
  · rw [if_pos rfl] at hmm
    have hcell : ∀ i, i < len → ∃ l : List Int, ∃ u, w.cell? (a.add i) = some u ∧ BFr w.heap.size w u l := fun i hi => by
      obtain ⟨cs', h1, h2⟩ := hx i (by omega)
      rw [bytes_cellsOf, Nat.mul_one] at h1
      obtain ⟨_, hlen, hcell⟩ := World.cells?_some h1
      obtain ⟨A, n, c, l, h3, h4⟩ := open_bf h2
      subst h3
      have h6 := hcell 0 (by decide)
      have h7 : (a.add i).add 0 = a.add i := by unfold Addr.add; split <;> simp_all
      rw [h7] at h6
      exact ⟨l, _, h6, h4⟩
    obtain ⟨ls, h1, h2⟩ := rows_list len hcell
    subst h1
    refine ⟨some a, _, cap, ls, rfl, some a, cap, rfl, hl, fun hp => ?_⟩
    obtain ⟨b, off, spot⟩ := a
    obtain ⟨_, u, hc, _⟩ := hcell 0 hp
    have hspot : spot = none := by simpa [Addr.add] using World.cell?_spot hc
    subst hspot
    have hlt : b < w.heap.size := by
      have := World.block_lt_of_cell? _ _ hc
      simpa [Addr.add] using this
    refine ⟨b, off, rfl, free_old hlt, fun i l hi => ?_⟩
    obtain ⟨u, h3, h4⟩ := h2 i l hi
    rw [show (Addr.mk b off none).add i = ⟨b, off + i, none⟩ by unfold Addr.add; split <;> simp_all] at h3
    exact ⟨u, h3, h4⟩
/-- A call that came in: its kind, its CCP, its place, its byte, its slices of bytes. -/
structure AcP where
  k : Int
  d : Int
  a : Int
  b : Int
  A : Option Addr
  nb : Nat
  cb : Nat
  ls : List (List Int)
/-- What is known of it. -/
def AcOk (w : World) (a : AcP) : Prop := (0 ≤ a.b ∧ a.b < 256) ∧ SFr w.heap.size w (.slice a.A a.nb a.cb) a.ls
/-- Its five cells, from x on. -/
def AcAt (w : World) (c : Nat → Option Value) (a : AcP) : Prop := AcOk w a ∧ c 0 = some (.int .i64 a.k) ∧ c 1 = some (.int .i64 a.d) ∧ c 2 = some (.int .i64 a.a) ∧ c 3 = some (.int .u8 a.b) ∧ c 4 = some (.slice a.A a.nb a.cb)
/-- Calls in a slice. -/
def ActsW (w : World) (A : Option Addr) (n : Nat) (cs : List AcP) : Prop := cs.length = n ∧ ∀ (i : Nat) (a : AcP), cs[i]? = some a → ∃ g o, A = some ⟨g, o, none⟩ ∧ g < w.heap.size ∧ AcAt w (fun j => w.cell? ⟨g, o + i * 5 + j, none⟩) a
theorem act_cellsOf : Try.prog.cellsOf 35 = 5 := by kernel_rfl
theorem add_two (a : Addr) (i j : Nat) : (a.add i).add j = a.add (i + j) := by
  cases i <;> cases j <;> simp [Addr.add]
  omega
set_option maxRecDepth 100000 in
/-- Five cells that read as a call are one. -/
theorem trod_act {H : Type} {enc : TypeId × Value → H} {w : World} {held : Bool} {f0 f1 f2 f3 f4 : Field} {fuel : Nat} {cs : List Value} {x : DataW H × List MemPlace} (he : Try.prog.underlying 35 = some (.struct #[f0, f1, f2, f3, f4]))
    (o0 : f0.offset = 0) (o1 : f1.offset = 1) (o2 : f2.offset = 2) (o3 : f3.offset = 3) (o4 : f4.offset = 4) (t0 : f0.type = 3) (t1 : f1.type = 3) (t2 : f2.type = 3) (t3 : f3.type = 5) (t4 : f4.type = 33)
    (h : DataW.trod enc Try.prog w 0 (fun _ => true) held fuel 35 cs = some x) : ∃ a : AcP, cs = [.int .i64 a.k, .int .i64 a.d, .int .i64 a.a, .int .u8 a.b, .slice a.A a.nb a.cb] ∧ AcOk w a := by
  have ci : Try.prog.cellsOf 3 = 1 := by kernel_rfl
  have c8 : Try.prog.cellsOf 5 = 1 := by kernel_rfl
  have cb : Try.prog.cellsOf 33 = 1 := by kernel_rfl
  obtain ⟨xs, k, hk, hxy, hl, hxl, hf⟩ := DataW.trod_struct he h
  rw [act_cellsOf] at hl
  match xs, hxl, cs, hl with
  | [y0, y1, y2, y3, y4], _, [v0, v1, v2, v3, v4], _ =>
    have g0 := hf 0 f0 rfl
    have g1 := hf 1 f1 rfl
    have g2 := hf 2 f2 rfl
    have g3 := hf 3 f3 rfl
    have g4 := hf 4 f4 rfl
    simp [o0, o1, o2, o3, o4, t0, t1, t2, t3, t4, ci, cb, c8] at g0 g1 g2 g3 g4
    obtain ⟨z0, q0, _, _⟩ := DataW.trod_int Try.underlying3 g0
    obtain ⟨z1, q1, _, _⟩ := DataW.trod_int Try.underlying3 g1
    obtain ⟨z2, q2, _, _⟩ := DataW.trod_int Try.underlying3 g2
    obtain ⟨z3, q3, _, w3⟩ := DataW.trod_int Try.underlying5 g3
    obtain ⟨A, n, c, ls, q4, q5⟩ := open_bbf g4
    simp at q0 q1 q2 q3 q4
    subst q0 q1 q2 q3 q4
    simp [Lit.wf, IntKind.min, IntKind.max, IntKind.signed, IntKind.bits] at w3
    exact ⟨⟨z0, z1, z2, z3, A, n, c, ls⟩, rfl, by show 0 ≤ z3 ∧ z3 < _; omega, q5⟩
theorem acts_of {w : World} {x : Addr} {l cap : Nat} (hl : l ≤ cap) (hc : ∀ i, i < cap → ∃ a : AcP, AcAt w (fun j => w.cell? (x.add (i * 5 + j))) a) : ∃ cs : List AcP, ActsW w (some x) l cs := by
  rcases Nat.eq_zero_or_pos l with h0 | hp
  · exact ⟨[], by rw [h0]; rfl, fun i a h => by simp at h⟩
  obtain ⟨b, off, spot⟩ := x
  obtain ⟨r0, _, h0, _⟩ := hc 0 (by omega)
  have hspot : spot = none := by simpa [Addr.add] using World.cell?_spot h0
  subst hspot
  have ea : ∀ j, (Addr.mk b off none).add j = ⟨b, off + j, none⟩ := fun j => by cases j <;> simp [Addr.add]
  have hf : ∀ i : Nat, ∃ a : AcP, i < cap → AcAt w (fun j => w.cell? ((Addr.mk b off none).add (i * 5 + j))) a := fun i => by
    by_cases hi : i < cap
    · obtain ⟨r, hr⟩ := hc i hi
      exact ⟨r, fun _ => hr⟩
    · exact ⟨⟨0, 0, 0, 0, none, 0, 0, []⟩, fun h => absurd h hi⟩
  obtain ⟨f, hf⟩ := Classical.axiomOfChoice hf
  refine ⟨(List.range l).map f, by simp, fun i a hi => ?_⟩
  have hil : i < l := by
    have := (List.getElem?_eq_some_iff.1 hi).1
    simpa using this
  rw [List.getElem?_map, List.getElem?_range hil] at hi
  simp only [Option.map_some, Option.some.injEq] at hi
  subst hi
  have h1 := hf i (by omega)
  have hlt : b < w.heap.size := by
    have := World.block_lt_of_cell? _ _ h0
    simpa [Addr.add] using this
  refine ⟨b, off, rfl, hlt, ?_⟩
  have e : (fun j => w.cell? ((Addr.mk b off none).add (i * 5 + j))) = fun j => w.cell? ⟨b, off + i * 5 + j, none⟩ := by
    funext j; rw [ea, Nat.add_assoc]
  rw [e] at h1
  exact h1
set_option maxRecDepth 100000 in
/-- Calls that came in. -/
theorem open_acts {H : Type} {enc : TypeId × Value → H} {w : World} {held : Bool} {fuel : Nat} {cs : List Value} {x : DataW H × List MemPlace} (h : DataW.trod enc Try.prog w 0 (fun _ => true) held fuel 22 cs = some x) :
    ∃ A len cap l, cs = [.slice A len cap] ∧ ActsW w A len l := by
  rcases open_slice Try.underlying22 h with h0 | ⟨a, len', cap', m, n, D, Pl, e, hb, hl, hm, hmm, _, hx⟩
  · exact ⟨none, 0, 0, [], h0.1, rfl, fun i a h => by simp at h⟩
  · rw [if_pos rfl] at hmm
    obtain ⟨l, hl'⟩ := acts_of (w := w) (x := a) (l := len') (cap := cap') hl (fun i hi => by
      obtain ⟨cs', h1, h2⟩ := hx i (by omega)
      rw [act_cellsOf] at h1
      obtain ⟨_, hcl, hcell⟩ := World.cells?_some h1
      obtain ⟨t, rfl, ok⟩ := trod_act Try.underlying35 rfl rfl rfl rfl rfl rfl rfl rfl rfl rfl h2
      have e0 := hcell 0 (by simp)
      have e1 := hcell 1 (by simp)
      have e2 := hcell 2 (by simp)
      have e3 := hcell 3 (by simp)
      have e4 := hcell 4 (by simp)
      rw [add_two] at e0 e1 e2 e3 e4
      exact ⟨t, ok, by simpa using e0, by simpa using e1, by simpa using e2, by simpa using e3, by simpa using e4⟩)
    exact ⟨some a, len', cap', l, e, hl'⟩
end Go.Proofs.Ytnekjbdogdghnaa.Ne
