/-
  Packets, slices of bytes and calls that came in. Conditions: none.
-/
import Derived.Test.YtganokcmcdkdgaaGreatPZ6
import Derived.ProofKit
import Derived.Deep.Grids
import Derived.Deep.Slices
import Derived.OpenShut
import Derived.ChangeOld
import Derived.Lib.SmallJoins
import Derived.ChangeMaps5
namespace Go.Proofs.YtganokcmcdkdgaaGreat.Pi
open Go.ChangeShapes Go.WideShapes Go.ChangeAt Go.RowKit Go.Joins Go.Deep Fr

/-- A slice of bytes that came in holds bytes. -/
theorem open_bytes {H : Type} {enc : TypeId × Value → H} {w : World} {held : Bool} {fuel : Nat} {cs : List Value} {x : DataW H × List MemPlace} (h : DataW.trod enc Tryz.prog w 0 (fun _ => true) held fuel 22 cs = some x) :
    ∃ A len cap l, cs = [.slice A len cap] ∧ BAt w (.slice A len cap) l ∧ bok l := by
  rcases open_ints Tryz.underlying22 Tryz.underlying5 (by kernel_rfl) h with ⟨hcs, _⟩ | ⟨a, len, c, zs, hcs, _, hl, hm, hz, _, hcell, hwz⟩
  · exact ⟨none, 0, 0, [], hcs, BAt.nil w, fun x hx => absurd hx (List.not_mem_nil)⟩
  · have hzl : len ≤ zs.length := by simp at hz; omega
    have hll : (zs.take len).length = len := by rw [List.length_take]; omega
    refine ⟨some a, len, c, zs.take len, hcs, ⟨some a, c, by rw [hll], by rw [hll]; omega, fun hp => ?_⟩, fun y hy => ?_⟩
    · rw [hll] at hp ⊢
      obtain ⟨b, off, spot⟩ := a
      have hc := hcell 0 (by omega)
      have hspot : spot = none := by simpa [Addr.add] using World.cell?_spot hc
      subst hspot
      refine ⟨b, off, rfl, ?_, fun i hi => ?_⟩
      · have := World.block_lt_of_cell? _ _ hc
        simpa [Addr.add] using this
      · have := hcell i (by omega)
        rw [show (Addr.mk b off none).add i = ⟨b, off + i, none⟩ by unfold Addr.add; split <;> simp_all] at this
        rw [this, getD_take hi]
    · have := hwz y (List.mem_of_mem_take hy)
      simp [Lit.wf, IntKind.min, IntKind.max, IntKind.signed, IntKind.bits] at this
      omega
theorem rows_list {Q : Nat → List Int → Prop} (m : Nat) (h : ∀ i, i < m → ∃ p, Q i p) : ∃ ps : List (List Int), ps.length = m ∧ ∀ i p, ps[i]? = some p → Q i p := by
  induction m with
  | zero => exact ⟨[], rfl, fun i p hp => by simp at hp⟩
  | succ m ih =>
    obtain ⟨ps, h1, h2⟩ := ih (fun i hi => h i (by omega))
    obtain ⟨p, hp⟩ := h m (by omega)
    refine ⟨ps ++ [p], by simp [h1], fun i q hq => ?_⟩
    rcases Nat.lt_or_ge i ps.length with hi | hi
    · rw [List.getElem?_append_left hi] at hq
      exact h2 i q hq
    · rw [List.getElem?_append_right hi] at hq
      have hi0 : i - ps.length = 0 := by
        rcases Nat.eq_zero_or_pos (i - ps.length) with h0 | h0
        · exact h0
        · rw [List.getElem?_eq_none (by simp; omega)] at hq; cases hq
      rw [hi0] at hq
      have hqp : p = q := by simpa using hq
      subst hqp
      have : i = m := by omega
      subst this
      exact hp
theorem bytes_cellsOf : Tryz.prog.cellsOf 22 = 1 := by kernel_rfl
theorem bf_old {w : World} {v : Value} {l : List Int} (h : BAt w v l) (hb : bok l) : BF w.heap.size w v l := ⟨h, hb, fun a n c e hp => by
  obtain ⟨A, cap, e2, _, h3⟩ := h
  rw [e] at e2
  cases e2
  obtain ⟨g, o, h4, h5, _⟩ := h3 hp
  cases h4
  exact ⟨h5, .inl h5⟩⟩
/-- Bytes that came in. -/
theorem open_bf {H : Type} {enc : TypeId × Value → H} {w : World} {held : Bool} {fuel : Nat} {cs : List Value} {x : DataW H × List MemPlace} (h : DataW.trod enc Tryz.prog w 0 (fun _ => true) held fuel 22 cs = some x) :
    ∃ A len cap l, cs = [.slice A len cap] ∧ BF w.heap.size w (.slice A len cap) l := by
  obtain ⟨A, len, cap, l, h1, h2, h3⟩ := open_bytes h
  exact ⟨A, len, cap, l, h1, bf_old h2 h3⟩
/-- Slices of bytes that came in. -/
theorem open_bbf {H : Type} {enc : TypeId × Value → H} {w : World} {held : Bool} {fuel : Nat} {cs : List Value} {x : DataW H × List MemPlace} (h : DataW.trod enc Tryz.prog w 0 (fun _ => true) held fuel 115 cs = some x) :
    ∃ A len cap ls, cs = [.slice A len cap] ∧ BBF w.heap.size w (.slice A len cap) ls := by
  rcases open_slice Tryz.underlying115 h with h0 | ⟨a, len, cap, m, n, D, Pl, rfl, hb, hl, hm, hmm, rfl, hx⟩
  · exact ⟨none, 0, 0, [], h0.1, BBF.nil _ _⟩
  · rw [if_pos rfl] at hmm
    have hcell : ∀ i, i < len → ∃ l : List Int, ∃ u, w.cell? (a.add i) = some u ∧ BF w.heap.size w u l := fun i hi => by
      obtain ⟨cs', h1, h2⟩ := hx i (by omega)
      rw [bytes_cellsOf, Nat.mul_one] at h1
      obtain ⟨_, hlen, hcell⟩ := World.cells?_some h1
      obtain ⟨A, n, c, l, h3, h4⟩ := open_bf h2
      subst h3
      have h6 := hcell 0 (by decide)
      have h7 : (a.add i).add 0 = a.add i := by unfold Addr.add; split <;> simp_all
      rw [h7] at h6
      exact ⟨l, _, h6, h4⟩
    obtain ⟨ls, h1, h2⟩ := rows_list len hcell
    subst h1
    refine ⟨some a, _, cap, ls, rfl, some a, cap, rfl, hl, fun hp => ?_⟩
    obtain ⟨b, off, spot⟩ := a
    obtain ⟨_, u, hc, _⟩ := hcell 0 hp
    have hspot : spot = none := by simpa [Addr.add] using World.cell?_spot hc
    subst hspot
    have hlt : b < w.heap.size := by
      have := World.block_lt_of_cell? _ _ hc
      simpa [Addr.add] using this
    refine ⟨b, off, rfl, hlt, .inl hlt, fun i l hi => ?_⟩
    obtain ⟨u, h3, h4⟩ := h2 i l hi
    rw [show (Addr.mk b off none).add i = ⟨b, off + i, none⟩ by unfold Addr.add; split <;> simp_all] at h3
    exact ⟨u, h3, h4⟩
/-- A packet that came in. -/
structure Pk where
  k : Int
  f : Int
  t : Int
  n : Int
  A : Option Addr
  q : Nat
  c : Nat
  l : List Int
def PkOk (w : World) (x : Pk) : Prop := x.n ≤ 9223372036854775807 ∧ BF w.heap.size w (.slice x.A x.q x.c) x.l
theorem pkt_cellsOf : Tryz.prog.cellsOf 24 = 5 := by kernel_rfl
set_option maxRecDepth 100000 in
theorem trod_pkt {H : Type} {enc : TypeId × Value → H} {w : World} {held : Bool} {f0 f1 f2 f3 f4 : Field} {fuel : Nat} {cs : List Value} {x : DataW H × List MemPlace} (he : Tryz.prog.underlying 24 = some (.struct #[f0, f1, f2, f3, f4]))
    (o0 : f0.offset = 0) (o1 : f1.offset = 1) (o2 : f2.offset = 2) (o3 : f3.offset = 3) (o4 : f4.offset = 4) (t0 : f0.type = 3) (t1 : f1.type = 3) (t2 : f2.type = 3) (t3 : f3.type = 3) (t4 : f4.type = 22)
    (h : DataW.trod enc Tryz.prog w 0 (fun _ => true) held fuel 24 cs = some x) : ∃ a : Pk, cs = [.int .i64 a.k, .int .i64 a.f, .int .i64 a.t, .int .i64 a.n, .slice a.A a.q a.c] ∧ PkOk w a := by
  have ci : Tryz.prog.cellsOf 3 = 1 := by kernel_rfl
  obtain ⟨xs, k, hk, hxy, hl, hxl, hf⟩ := DataW.trod_struct he h
  rw [pkt_cellsOf] at hl
  match xs, hxl, cs, hl with
  | [y0, y1, y2, y3, y4], _, [v0, v1, v2, v3, v4], _ =>
    have g0 := hf 0 f0 rfl
    have g1 := hf 1 f1 rfl
    have g2 := hf 2 f2 rfl
    have g3 := hf 3 f3 rfl
    have g4 := hf 4 f4 rfl
    simp [o0, o1, o2, o3, o4, t0, t1, t2, t3, t4, ci, bytes_cellsOf] at g0 g1 g2 g3 g4
    obtain ⟨z0, q0, _, _⟩ := DataW.trod_int Tryz.underlying3 g0
    obtain ⟨z1, q1, _, _⟩ := DataW.trod_int Tryz.underlying3 g1
    obtain ⟨z2, q2, _, _⟩ := DataW.trod_int Tryz.underlying3 g2
    obtain ⟨z3, q3, _, w3⟩ := DataW.trod_int Tryz.underlying3 g3
    obtain ⟨A, n, c, l, q4, q5⟩ := open_bf g4
    simp at q0 q1 q2 q3 q4
    subst q0 q1 q2 q3 q4
    simp [Lit.wf, IntKind.min, IntKind.max, IntKind.signed, IntKind.bits] at w3
    exact ⟨⟨z0, z1, z2, z3, A, n, c, l⟩, rfl, by show z3 ≤ _; omega, q5⟩
set_option maxRecDepth 100000 in
/-- A packet by value that came in. -/
theorem open_pkt {H : Type} {enc : TypeId × Value → H} {w : World} {b0 : Nat} {held : Bool} {r : Reach} {v : Value} {d : DataW H} {p : List MemPlace}
    (hv : Value.okWide Tryz.prog w r b0 24 v) (h : DataW.Trod enc Tryz.prog w 0 (fun _ => true) held 24 v d p) : ∃ a : Pk, v = .agg #[.int .i64 a.k, .int .i64 a.f, .int .i64 a.t, .int .i64 a.n, .slice a.A a.q a.c] ∧ PkOk w a := by
  obtain ⟨cs, rfl, hsz⟩ := okWide_struct Tryz.underlying24 hv
  obtain ⟨fuel, hf⟩ := h
  obtain ⟨a, ht, hk⟩ := trod_pkt Tryz.underlying24 rfl rfl rfl rfl rfl rfl rfl rfl rfl rfl hf
  refine ⟨a, ?_, hk⟩
  congr 1
  exact Array.toList_inj.1 ht
end Go.Proofs.YtganokcmcdkdgaaGreat.Pi
