/-
  The contract of the law's To. Conditions: texts as long as a text may be; at most a thousand rows in memory.
-/
import Derived.Test.YteahloddjekakaaDoorNM3
import Derived.Test.YteahloddjekakaaDoorNAnd
import Derived.Test.YteahloddjekakaaDoorNM8
import Derived.Test.YteahloddjekakaaDoorOBase
import Derived.StillTailTactics
import Derived.Test.YteahloddjekakaaDoorNEqu
import Derived.Deep.RegionHeld3
import Derived.Deep.AppendLies
namespace Go.Proofs.YteahloddjekakaaDoor.Nt
open Go.RowKit Td

theorem t13_drew {w : World} {p0 p1 p2 p3 p4 p5 p6 p7 p8 p9 p10 p11 p12 : Addr} {v0 v1 v2 v3 v4 v5 v6 v7 v8 v9 v10 v11 v12 : Value} (h : w.cell? p0 = some v0 ∧ w.cell? p1 = some v1 ∧ w.cell? p2 = some v2 ∧ w.cell? p3 = some v3 ∧ w.cell? p4 = some v4 ∧ w.cell? p5 = some v5 ∧ w.cell? p6 = some v6 ∧ w.cell? p7 = some v7 ∧ w.cell? p8 = some v8 ∧ w.cell? p9 = some v9 ∧ w.cell? p10 = some v10 ∧ w.cell? p11 = some v11 ∧ w.cell? p12 = some v12) : w.drew.cell? p0 = some v0 ∧ w.drew.cell? p1 = some v1 ∧ w.drew.cell? p2 = some v2 ∧ w.drew.cell? p3 = some v3 ∧ w.drew.cell? p4 = some v4 ∧ w.drew.cell? p5 = some v5 ∧ w.drew.cell? p6 = some v6 ∧ w.drew.cell? p7 = some v7 ∧ w.drew.cell? p8 = some v8 ∧ w.drew.cell? p9 = some v9 ∧ w.drew.cell? p10 = some v10 ∧ w.drew.cell? p11 = some v11 ∧ w.drew.cell? p12 = some v12 := h
theorem t13_alloc {w : World} {p0 p1 p2 p3 p4 p5 p6 p7 p8 p9 p10 p11 p12 : Addr} {v0 v1 v2 v3 v4 v5 v6 v7 v8 v9 v10 v11 v12 : Value} (h : w.cell? p0 = some v0 ∧ w.cell? p1 = some v1 ∧ w.cell? p2 = some v2 ∧ w.cell? p3 = some v3 ∧ w.cell? p4 = some v4 ∧ w.cell? p5 = some v5 ∧ w.cell? p6 = some v6 ∧ w.cell? p7 = some v7 ∧ w.cell? p8 = some v8 ∧ w.cell? p9 = some v9 ∧ w.cell? p10 = some v10 ∧ w.cell? p11 = some v11 ∧ w.cell? p12 = some v12) (o : Obj) : (w.alloc o).cell? p0 = some v0 ∧ (w.alloc o).cell? p1 = some v1 ∧ (w.alloc o).cell? p2 = some v2 ∧ (w.alloc o).cell? p3 = some v3 ∧ (w.alloc o).cell? p4 = some v4 ∧ (w.alloc o).cell? p5 = some v5 ∧ (w.alloc o).cell? p6 = some v6 ∧ (w.alloc o).cell? p7 = some v7 ∧ (w.alloc o).cell? p8 = some v8 ∧ (w.alloc o).cell? p9 = some v9 ∧ (w.alloc o).cell? p10 = some v10 ∧ (w.alloc o).cell? p11 = some v11 ∧ (w.alloc o).cell? p12 = some v12 := by
  obtain ⟨h0, h1, h2, h3, h4, h5, h6, h7, h8, h9, h10, h11, h12⟩ := h
  exact ⟨Lib.cell?_alloc_some _ h0, Lib.cell?_alloc_some _ h1, Lib.cell?_alloc_some _ h2, Lib.cell?_alloc_some _ h3, Lib.cell?_alloc_some _ h4, Lib.cell?_alloc_some _ h5, Lib.cell?_alloc_some _ h6, Lib.cell?_alloc_some _ h7, Lib.cell?_alloc_some _ h8, Lib.cell?_alloc_some _ h9, Lib.cell?_alloc_some _ h10, Lib.cell?_alloc_some _ h11, Lib.cell?_alloc_some _ h12⟩
theorem st14_blk {W : World} {b : Nat} {y0 y1 y2 y3 y4 y5 y6 y7 y8 y9 y10 y11 y12 y13 : Value} {t : TypeId} (h : W.heap[b]? = some (.cells #[y0, y1, y2, y3, y4, y5, y6, y7, y8, y9, y10, y11, y12, y13] t (0, 0))) (x0 x1 x2 x3 x4 x5 x6 x7 x8 x9 x10 x11 x12 x13 : Value) :
    (((((((((((((((W).setCell ⟨b, 0, none⟩ x0).setCell ⟨b, 1, none⟩ x1).setCell ⟨b, 2, none⟩ x2).setCell ⟨b, 3, none⟩ x3).setCell ⟨b, 4, none⟩ x4).setCell ⟨b, 5, none⟩ x5).setCell ⟨b, 6, none⟩ x6).setCell ⟨b, 7, none⟩ x7).setCell ⟨b, 8, none⟩ x8).setCell ⟨b, 9, none⟩ x9).setCell ⟨b, 10, none⟩ x10).setCell ⟨b, 11, none⟩ x11).setCell ⟨b, 12, none⟩ x12).setCell ⟨b, 13, none⟩ x13).heap[b]? = some (.cells #[x0, x1, x2, x3, x4, x5, x6, x7, x8, x9, x10, x11, x12, x13] t (0, 0)) := by
  have hh := (Go.heap_setCell_same _ b 13 _ _ x13 (Go.heap_setCell_same _ b 12 _ _ x12 (Go.heap_setCell_same _ b 11 _ _ x11 (Go.heap_setCell_same _ b 10 _ _ x10 (Go.heap_setCell_same _ b 9 _ _ x9 (Go.heap_setCell_same _ b 8 _ _ x8 (Go.heap_setCell_same _ b 7 _ _ x7 (Go.heap_setCell_same _ b 6 _ _ x6 (Go.heap_setCell_same _ b 5 _ _ x5 (Go.heap_setCell_same _ b 4 _ _ x4 (Go.heap_setCell_same _ b 3 _ _ x3 (Go.heap_setCell_same _ b 2 _ _ x2 (Go.heap_setCell_same _ b 1 _ _ x1 (Go.heap_setCell_same _ b 0 _ _ x0 h))))))))))))))
  simpa only [List.setIfInBounds_toArray, List.set_cons_succ, List.set_cons_zero] using hh
theorem st14_below {B : Nat} {W w : World} {b : Nat} (h : Below B W w) (hB : B ≤ b) (x0 x1 x2 x3 x4 x5 x6 x7 x8 x9 x10 x11 x12 x13 : Value) : Below B W (((((((((((((((w).setCell ⟨b, 0, none⟩ x0).setCell ⟨b, 1, none⟩ x1).setCell ⟨b, 2, none⟩ x2).setCell ⟨b, 3, none⟩ x3).setCell ⟨b, 4, none⟩ x4).setCell ⟨b, 5, none⟩ x5).setCell ⟨b, 6, none⟩ x6).setCell ⟨b, 7, none⟩ x7).setCell ⟨b, 8, none⟩ x8).setCell ⟨b, 9, none⟩ x9).setCell ⟨b, 10, none⟩ x10).setCell ⟨b, 11, none⟩ x11).setCell ⟨b, 12, none⟩ x12).setCell ⟨b, 13, none⟩ x13) :=
  ((((((((((((((h.setCell (p := ⟨b, 0, none⟩) hB _).setCell (p := ⟨b, 1, none⟩) hB _).setCell (p := ⟨b, 2, none⟩) hB _).setCell (p := ⟨b, 3, none⟩) hB _).setCell (p := ⟨b, 4, none⟩) hB _).setCell (p := ⟨b, 5, none⟩) hB _).setCell (p := ⟨b, 6, none⟩) hB _).setCell (p := ⟨b, 7, none⟩) hB _).setCell (p := ⟨b, 8, none⟩) hB _).setCell (p := ⟨b, 9, none⟩) hB _).setCell (p := ⟨b, 10, none⟩) hB _).setCell (p := ⟨b, 11, none⟩) hB _).setCell (p := ⟨b, 12, none⟩) hB _).setCell (p := ⟨b, 13, none⟩) hB _)
theorem heap_at {W : World} {o : Obj} {k : Nat} (hk : k = W.heap.size) : (W.alloc o).heap[k]? = some o := by rw [hk]; exact block_new _ _
theorem below_step {W V : World} (h : Below W.heap.size W V) (o : Obj) : Below W.heap.size W (V.alloc o) := h.alloc h.size o
theorem heap_drew {W : World} {k : Nat} {r : Option Obj} (h : W.heap[k]? = r) : W.drew.heap[k]? = r := h
theorem infoP : (Tryd.prog.info? 58).map (fun i => (i.zero, i.size, i.bytes)) = some (some (.agg #[.string ByteArray.empty, .int .i64 0]), 2, 24) := by kernel_rfl
theorem infoF : (Tryd.prog.info? 57).map (fun i => (i.zero, i.size, i.bytes)) = some (some (.agg #[.string ByteArray.empty, .int .i64 0]), 2, 24) := by kernel_rfl
theorem own_ne {w : World} {base t size n : Nat} {v : Value} {xs : List Value} (h : w.ownsRow base t size v n xs) {b : Nat} (hb : b < base) : some b ≠ v.ownBlock := fun e => by have := (h.lt b e.symm).1; omega
theorem block_grown {w w' : World} {b : Nat} {x : Obj} {row : Option Nat} (h : w.heap[b]? = some x) (hg : w.grownBy w' row) (hne : some b ≠ row) : w'.heap[b]? = some x :=
  (hg.block b (Array.getElem?_eq_some_iff.1 h).1 hne).trans h
theorem grownBy_setCell' (w : World) (b j : Nat) (u : Value) : w.grownBy (w.setCell ⟨b, j, none⟩ u) (some b) := ⟨rfl, rfl, rfl, by simp [World.setCell], fun k _ hn => Below.heap_setCell _ _ _ _ (fun e => hn (by rw [e]))⟩
theorem heap_set11 {w : World} {b : Nat} {y0 y1 y2 y3 y4 y5 y6 y7 y8 y9 y10 y11 y12 y13 u : Value} {t : TypeId} (h : w.heap[b]? = some (.cells #[y0, y1, y2, y3, y4, y5, y6, y7, y8, y9, y10, y11, y12, y13] t (0, 0))) : (w.setCell ⟨b, 11, none⟩ u).heap[b]? = some (.cells #[y0, y1, y2, y3, y4, y5, y6, y7, y8, y9, y10, u, y12, y13] t (0, 0)) :=
  by simpa only [List.setIfInBounds_toArray, List.set_cons_succ, List.set_cons_zero] using Go.heap_setCell_same _ b 11 _ _ u h
/-- A note with short texts. -/
def cutN (x : Nt) : Nt := ⟨x.k, x.p, x.d, cutT x.t, cut40 x.n, x.a, x.hi, x.lo⟩
/-- Some rows with short names. -/
def cutR (l : List Rw) : List Rw := (l.take 40).map fun m => (cut40 m.1, m.2)
theorem cutR_len (l : List Rw) : (cutR l).length = min 40 l.length := by unfold cutR; rw [List.length_map, List.length_take]
theorem cutR_get {l : List Rw} {i : Nat} {m : Rw} (h : l[i]? = some m) (hi : i < 40) : (cutR l)[i]? = some (cut40 m.1, m.2) := by
  unfold cutR; rw [List.getElem?_map, List.getElem?_take, if_pos hi, h]; rfl
/-- What To has laid: its own note (y's parts and the rows v) in the block b. -/
def ToI (w wx : World) (b : Nat) (x y : Nt) (A : Option Addr) (n c : Nat) (ml : List Rw) (i : Nat) (v : Value) : Prop :=
  wx.heap[b]? = some (.cells #[.int .i64 y.k, .int .i64 y.p, .int .i64 y.d, .int .i64 y.t.n, .string y.t.b, .string y.t.s, .string y.t.i, .int .i64 y.t.q, .int .i64 y.t.p, .string y.n, .int .i64 y.a, v, .int .i64 y.hi, .int .u64 y.lo] 33 (0, 0)) ∧ wx.ownsRow (b + 1) 58 2 v i (rcl (ml.take i)) ∧ wx.heap[w.heap.size]? = some (.cells #[.int .i64 x.k, .int .i64 x.p, .int .i64 x.d, .int .i64 x.t.n, .string x.t.b, .string x.t.s, .string x.t.i, .int .i64 x.t.q, .int .i64 x.t.p, .string x.n, .int .i64 x.a, .slice A n c, .int .i64 x.hi, .int .u64 x.lo] 27 (0, 0)) ∧ (∃ z0 z1 z2 z3 z4 z5 z6 z7 z8 z9 z10 z11 z12 z13, wx.heap[w.heap.size + 1]? = some (.cells #[z0, z1, z2, z3, z4, z5, z6, z7, z8, z9, z10, z11, z12, z13] 33 (0, 0))) ∧ Below w.heap.size w wx ∧ w.heap.size + 2 ≤ b
theorem ToI.of {w W0 wx : World} {b : Nat} {x y : Nt} {A : Option Addr} {n c : Nat} {ml : List Rw} {z0 z1 z2 z3 z4 z5 z6 z7 z8 z9 z10 z11 z12 z13 : Value} (h0 : Below w.heap.size w W0) (h1 : W0.heap[w.heap.size]? = some (.cells #[.int .i64 x.k, .int .i64 x.p, .int .i64 x.d, .int .i64 x.t.n, .string x.t.b, .string x.t.s, .string x.t.i, .int .i64 x.t.q, .int .i64 x.t.p, .string x.n, .int .i64 x.a, .slice A n c, .int .i64 x.hi, .int .u64 x.lo] 27 (0, 0))) (h2 : W0.heap[w.heap.size + 1]? = some (.cells #[z0, z1, z2, z3, z4, z5, z6, z7, z8, z9, z10, z11, z12, z13] 33 (0, 0)))
    (hb : Below W0.heap.size W0 wx) (hB : W0.heap.size ≤ b) (hn : wx.heap[b]? = some (.cells #[.int .i64 y.k, .int .i64 y.p, .int .i64 y.d, .int .i64 y.t.n, .string y.t.b, .string y.t.s, .string y.t.i, .int .i64 y.t.q, .int .i64 y.t.p, .string y.n, .int .i64 y.a, (.slice none 0 0), .int .i64 y.hi, .int .u64 y.lo] 33 (0, 0))) : ToI w wx b x y A n c ml 0 (.slice none 0 0) :=
  ⟨hn, World.ownsRow_nil _ _ _ _, block_kept h1 hb, ⟨z0, z1, z2, z3, z4, z5, z6, z7, z8, z9, z10, z11, z12, z13, block_kept h2 hb⟩, h0.trans (hb.mono h0.size), by have := (Array.getElem?_eq_some_iff.1 h2).1; omega⟩
theorem ToI.kept {w wr wq : World} {b : Nat} {x y : Nt} {A : Option Addr} {n c : Nat} {ml : List Rw} {i : Nat} {v : Value} (H : ToI w wr b x y A n c ml i v) (h : Below wr.heap.size wr wq) : ToI w wq b x y A n c ml i v := by
  obtain ⟨hb, hrow, hx, ⟨z0, z1, z2, z3, z4, z5, z6, z7, z8, z9, z10, z11, z12, z13, hz⟩, hbel, hB⟩ := H
  exact ⟨block_kept hb h, Oc.ownsRow_kept hrow (fun g hg => h.block g (hrow.lt g hg).2), block_kept hx h, ⟨z0, z1, z2, z3, z4, z5, z6, z7, z8, z9, z10, z11, z12, z13, block_kept hz h⟩, hbel.trans (h.mono hbel.size), hB⟩
theorem toI_step {w wr w1 : World} {b : Nat} {x y : Nt} {A : Option Addr} {n c : Nat} {ml : List Rw} {i gg cp : Nat} {v : Value} {tm : ByteArray} {k : Int} (H : ToI w wr b x y A n c ml i v) (hm : ml[i]? = some (tm, k))
    (hown1 : w1.ownsRow (b + 1) 58 2 (.slice (some ⟨gg, 0, none⟩) (i + 1) cp) (i + 1) (rcl (ml.take i) ++ [.string tm, .int .i64 k])) (hgrow0 : ((wr.alloc (.cells #[.string tm, .int .i64 k] 58)).drew).grownBy w1 v.ownBlock) :
    ToI w (w1.setCell ⟨b, 11, none⟩ (.slice (some ⟨gg, 0, none⟩) (i + 1) cp)) b x y A n c ml (i + 1) (.slice (some ⟨gg, 0, none⟩) (i + 1) cp) := by
  have hgrow := Oc.grownBy_trans (Oc.grownBy_drew (wr.alloc (.cells #[.string tm, .int .i64 k] 58)) v.ownBlock) hgrow0
  obtain ⟨hb, hrow, hx, ⟨z0, z1, z2, z3, z4, z5, z6, z7, z8, z9, z10, z11, z12, z13, hz⟩, hbel, hB⟩ := H
  have hbs := (Array.getElem?_eq_some_iff.1 hb).1
  have hsz := hbel.size
  have hb1 : (wr.alloc (.cells #[.string tm, .int .i64 k] 58)).heap[b]? = _ := block_old hb _
  have hx1 : (wr.alloc (.cells #[.string tm, .int .i64 k] 58)).heap[w.heap.size]? = _ := block_old hx _
  have hz1 : (wr.alloc (.cells #[.string tm, .int .i64 k] 58)).heap[w.heap.size + 1]? = _ := block_old hz _
  refine ⟨heap_set11 (block_grown hb1 hgrow (own_ne hrow (by omega))), ?_, block_set (block_grown hx1 hgrow (own_ne hrow (by omega))) (show w.heap.size ≠ b by omega) _, ⟨z0, z1, z2, z3, z4, z5, z6, z7, z8, z9, z10, z11, z12, z13, block_set (block_grown hz1 hgrow (own_ne hrow (by omega))) (show w.heap.size + 1 ≠ b by omega) _⟩, ?_, hB⟩
  · have e : rcl (ml.take (i + 1)) = rcl (ml.take i) ++ [.string tm, .int .i64 k] := by
      rw [List.take_add_one, hm, rcl_append]; rfl
    rw [e]
    exact hown1.kept (grownBy_setCell' w1 b 11 (.slice (some ⟨gg, 0, none⟩) (i + 1) cp)) (.inr (own_ne hown1 (by omega)).symm)
  · exact ((hbel.alloc hsz _).grown hgrow (by simp; omega) (fun j hj => by have := (hrow.lt j hj).1; omega)).setCell (p := ⟨b, 11, none⟩) (by show w.heap.size ≤ b; omega) _
/-- A slice's block is of a type. -/
def Ty (w : World) (A : Option Addr) (t : TypeId) : Prop := ∀ g o, A = some ⟨g, o, none⟩ → ∃ cs, w.heap[g]? = some (.cells cs t (0, 0))
theorem Ty.below {w w' : World} {A : Option Addr} {t : TypeId} (h : Ty w A t) (hb : Below w.heap.size w w') : Ty w' A t := fun g o e => by
  obtain ⟨cs, hc⟩ := h g o e
  exact ⟨cs, block_kept hc hb⟩
/-- Rows that lie behind the result's block lie as they lay. -/
theorem toI_rows {w : World} {b k t : Nat} {A : Option Addr} {cap : Nat} {ml : List Rw} {z0 z1 z2 z3 z4 z5 z6 z7 z8 z9 z10 z11 z12 z13 : Value} (hrow : w.ownsRow (b + 1) t 2 (.slice A ml.length cap) ml.length (rcl ml)) (hrr : RR w A ml) (_hz : w.heap[k]? = some (.cells #[z0, z1, z2, z3, z4, z5, z6, z7, z8, z9, z10, z11, z12, z13] 33 (0, 0))) (hk : k ≤ b) (x0 x1 x2 x3 x4 x5 x6 x7 x8 x9 x10 x11 x12 x13 : Value) : RR (((((((((((((((w).setCell ⟨k, 0, none⟩ x0).setCell ⟨k, 1, none⟩ x1).setCell ⟨k, 2, none⟩ x2).setCell ⟨k, 3, none⟩ x3).setCell ⟨k, 4, none⟩ x4).setCell ⟨k, 5, none⟩ x5).setCell ⟨k, 6, none⟩ x6).setCell ⟨k, 7, none⟩ x7).setCell ⟨k, 8, none⟩ x8).setCell ⟨k, 9, none⟩ x9).setCell ⟨k, 10, none⟩ x10).setCell ⟨k, 11, none⟩ x11).setCell ⟨k, 12, none⟩ x12).setCell ⟨k, 13, none⟩ x13) A ml := by
  rcases hrr with h0 | ⟨g, o, e, hg, hc⟩
  · exact .inl h0
  · have hgk : g ≠ k := by
      have := hrow.lt g (by rw [e]; rfl)
      omega
    have hh : (((((((((((((((w).setCell ⟨k, 0, none⟩ x0).setCell ⟨k, 1, none⟩ x1).setCell ⟨k, 2, none⟩ x2).setCell ⟨k, 3, none⟩ x3).setCell ⟨k, 4, none⟩ x4).setCell ⟨k, 5, none⟩ x5).setCell ⟨k, 6, none⟩ x6).setCell ⟨k, 7, none⟩ x7).setCell ⟨k, 8, none⟩ x8).setCell ⟨k, 9, none⟩ x9).setCell ⟨k, 10, none⟩ x10).setCell ⟨k, 11, none⟩ x11).setCell ⟨k, 12, none⟩ x12).setCell ⟨k, 13, none⟩ x13).heap[g]? = w.heap[g]? := ((Below.heap_setCell _ _ _ _ hgk).trans ((Below.heap_setCell _ _ _ _ hgk).trans ((Below.heap_setCell _ _ _ _ hgk).trans ((Below.heap_setCell _ _ _ _ hgk).trans ((Below.heap_setCell _ _ _ _ hgk).trans ((Below.heap_setCell _ _ _ _ hgk).trans ((Below.heap_setCell _ _ _ _ hgk).trans ((Below.heap_setCell _ _ _ _ hgk).trans ((Below.heap_setCell _ _ _ _ hgk).trans ((Below.heap_setCell _ _ _ _ hgk).trans ((Below.heap_setCell _ _ _ _ hgk).trans ((Below.heap_setCell _ _ _ _ hgk).trans ((Below.heap_setCell _ _ _ _ hgk).trans (Below.heap_setCell _ _ _ _ hgk))))))))))))))
    refine .inr ⟨g, o, e, ?_, fun i m hi => ?_⟩
    · simpa [World.setCell] using hg
    · simp only [World.cell?, hh]
      exact hc i m hi
theorem toI_ty {w : World} {b k t : Nat} {A : Option Addr} {n cap : Nat} {xs : List Value} {z0 z1 z2 z3 z4 z5 z6 z7 z8 z9 z10 z11 z12 z13 : Value} (hrow : w.ownsRow (b + 1) t 2 (.slice A n cap) n xs) (_hz : w.heap[k]? = some (.cells #[z0, z1, z2, z3, z4, z5, z6, z7, z8, z9, z10, z11, z12, z13] 33 (0, 0))) (hk : k ≤ b) (x0 x1 x2 x3 x4 x5 x6 x7 x8 x9 x10 x11 x12 x13 : Value) : Ty (((((((((((((((w).setCell ⟨k, 0, none⟩ x0).setCell ⟨k, 1, none⟩ x1).setCell ⟨k, 2, none⟩ x2).setCell ⟨k, 3, none⟩ x3).setCell ⟨k, 4, none⟩ x4).setCell ⟨k, 5, none⟩ x5).setCell ⟨k, 6, none⟩ x6).setCell ⟨k, 7, none⟩ x7).setCell ⟨k, 8, none⟩ x8).setCell ⟨k, 9, none⟩ x9).setCell ⟨k, 10, none⟩ x10).setCell ⟨k, 11, none⟩ x11).setCell ⟨k, 12, none⟩ x12).setCell ⟨k, 13, none⟩ x13) A t := fun g o e => by
  rcases hrow.2 with ⟨h1, _⟩ | ⟨g', cap', cur, h1, hg, hh, _⟩
  · rw [e] at h1; cases h1
  · rw [e] at h1
    simp only [Value.slice.injEq, Option.some.injEq, Addr.mk.injEq] at h1
    obtain ⟨⟨rfl, _⟩, _⟩ := h1
    have hgk : g ≠ k := by omega
    exact ⟨cur, (((Below.heap_setCell _ _ _ _ hgk).trans ((Below.heap_setCell _ _ _ _ hgk).trans ((Below.heap_setCell _ _ _ _ hgk).trans ((Below.heap_setCell _ _ _ _ hgk).trans ((Below.heap_setCell _ _ _ _ hgk).trans ((Below.heap_setCell _ _ _ _ hgk).trans ((Below.heap_setCell _ _ _ _ hgk).trans ((Below.heap_setCell _ _ _ _ hgk).trans ((Below.heap_setCell _ _ _ _ hgk).trans ((Below.heap_setCell _ _ _ _ hgk).trans ((Below.heap_setCell _ _ _ _ hgk).trans ((Below.heap_setCell _ _ _ _ hgk).trans ((Below.heap_setCell _ _ _ _ hgk).trans (Below.heap_setCell _ _ _ _ hgk))))))))))))))).trans hh⟩
end Go.Proofs.YteahloddjekakaaDoor.Nt
