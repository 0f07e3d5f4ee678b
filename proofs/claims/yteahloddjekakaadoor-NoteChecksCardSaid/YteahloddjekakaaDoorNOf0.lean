/-
  The contract of the law's Of. Conditions: texts as long as a text may be; at most a thousand rows in memory.
-/
import Derived.Test.YteahloddjekakaaDoorNTo0
namespace Go.Proofs.YteahloddjekakaaDoor.Nt
open Go.RowKit Td

/-- What To has laid: its own note (y's parts and the rows v) in the block b. -/
def OfI (w wx : World) (b : Nat) (x y : Nt) (A : Option Addr) (n c : Nat) (ml : List Rw) (i : Nat) (v : Value) : Prop :=
  wx.heap[b]? = some (.cells #[.int .i64 y.k, .int .i64 y.p, .int .i64 y.d, .int .i64 y.t.n, .string y.t.b, .string y.t.s, .string y.t.i, .int .i64 y.t.q, .int .i64 y.t.p, .string y.n, .int .i64 y.a, v, .int .i64 y.hi, .int .u64 y.lo] 27 (0, 0)) ∧ wx.ownsRow (b + 1) 57 2 v i (rcl (ml.take i)) ∧ wx.heap[w.heap.size]? = some (.cells #[.int .i64 x.k, .int .i64 x.p, .int .i64 x.d, .int .i64 x.t.n, .string x.t.b, .string x.t.s, .string x.t.i, .int .i64 x.t.q, .int .i64 x.t.p, .string x.n, .int .i64 x.a, .slice A n c, .int .i64 x.hi, .int .u64 x.lo] 33 (0, 0)) ∧ (∃ z0 z1 z2 z3 z4 z5 z6 z7 z8 z9 z10 z11 z12 z13, wx.heap[w.heap.size + 1]? = some (.cells #[z0, z1, z2, z3, z4, z5, z6, z7, z8, z9, z10, z11, z12, z13] 27 (0, 0))) ∧ Below w.heap.size w wx ∧ w.heap.size + 2 ≤ b
theorem OfI.of {w W0 wx : World} {b : Nat} {x y : Nt} {A : Option Addr} {n c : Nat} {ml : List Rw} {z0 z1 z2 z3 z4 z5 z6 z7 z8 z9 z10 z11 z12 z13 : Value} (h0 : Below w.heap.size w W0) (h1 : W0.heap[w.heap.size]? = some (.cells #[.int .i64 x.k, .int .i64 x.p, .int .i64 x.d, .int .i64 x.t.n, .string x.t.b, .string x.t.s, .string x.t.i, .int .i64 x.t.q, .int .i64 x.t.p, .string x.n, .int .i64 x.a, .slice A n c, .int .i64 x.hi, .int .u64 x.lo] 33 (0, 0))) (h2 : W0.heap[w.heap.size + 1]? = some (.cells #[z0, z1, z2, z3, z4, z5, z6, z7, z8, z9, z10, z11, z12, z13] 27 (0, 0)))
    (hb : Below W0.heap.size W0 wx) (hB : W0.heap.size ≤ b) (hn : wx.heap[b]? = some (.cells #[.int .i64 y.k, .int .i64 y.p, .int .i64 y.d, .int .i64 y.t.n, .string y.t.b, .string y.t.s, .string y.t.i, .int .i64 y.t.q, .int .i64 y.t.p, .string y.n, .int .i64 y.a, (.slice none 0 0), .int .i64 y.hi, .int .u64 y.lo] 27 (0, 0))) : OfI w wx b x y A n c ml 0 (.slice none 0 0) :=
  ⟨hn, World.ownsRow_nil _ _ _ _, block_kept h1 hb, ⟨z0, z1, z2, z3, z4, z5, z6, z7, z8, z9, z10, z11, z12, z13, block_kept h2 hb⟩, h0.trans (hb.mono h0.size), by have := (Array.getElem?_eq_some_iff.1 h2).1; omega⟩
theorem OfI.kept {w wr wq : World} {b : Nat} {x y : Nt} {A : Option Addr} {n c : Nat} {ml : List Rw} {i : Nat} {v : Value} (H : OfI w wr b x y A n c ml i v) (h : Below wr.heap.size wr wq) : OfI w wq b x y A n c ml i v := by
  obtain ⟨hb, hrow, hx, ⟨z0, z1, z2, z3, z4, z5, z6, z7, z8, z9, z10, z11, z12, z13, hz⟩, hbel, hB⟩ := H
  exact ⟨block_kept hb h, Oc.ownsRow_kept hrow (fun g hg => h.block g (hrow.lt g hg).2), block_kept hx h, ⟨z0, z1, z2, z3, z4, z5, z6, z7, z8, z9, z10, z11, z12, z13, block_kept hz h⟩, hbel.trans (h.mono hbel.size), hB⟩
theorem ofI_step {w wr w1 : World} {b : Nat} {x y : Nt} {A : Option Addr} {n c : Nat} {ml : List Rw} {i gg cp : Nat} {v : Value} {tm : ByteArray} {k : Int} (H : OfI w wr b x y A n c ml i v) (hm : ml[i]? = some (tm, k))
    (hown1 : w1.ownsRow (b + 1) 57 2 (.slice (some ⟨gg, 0, none⟩) (i + 1) cp) (i + 1) (rcl (ml.take i) ++ [.string tm, .int .i64 k])) (hgrow0 : ((wr.alloc (.cells #[.string tm, .int .i64 k] 57)).drew).grownBy w1 v.ownBlock) :
    OfI w (w1.setCell ⟨b, 11, none⟩ (.slice (some ⟨gg, 0, none⟩) (i + 1) cp)) b x y A n c ml (i + 1) (.slice (some ⟨gg, 0, none⟩) (i + 1) cp) := by
  have hgrow := Oc.grownBy_trans (Oc.grownBy_drew (wr.alloc (.cells #[.string tm, .int .i64 k] 57)) v.ownBlock) hgrow0
  obtain ⟨hb, hrow, hx, ⟨z0, z1, z2, z3, z4, z5, z6, z7, z8, z9, z10, z11, z12, z13, hz⟩, hbel, hB⟩ := H
  have hbs := (Array.getElem?_eq_some_iff.1 hb).1
  have hsz := hbel.size
  have hb1 : (wr.alloc (.cells #[.string tm, .int .i64 k] 57)).heap[b]? = _ := block_old hb _
  have hx1 : (wr.alloc (.cells #[.string tm, .int .i64 k] 57)).heap[w.heap.size]? = _ := block_old hx _
  have hz1 : (wr.alloc (.cells #[.string tm, .int .i64 k] 57)).heap[w.heap.size + 1]? = _ := block_old hz _
  refine ⟨heap_set11 (block_grown hb1 hgrow (own_ne hrow (by omega))), ?_, block_set (block_grown hx1 hgrow (own_ne hrow (by omega))) (show w.heap.size ≠ b by omega) _, ⟨z0, z1, z2, z3, z4, z5, z6, z7, z8, z9, z10, z11, z12, z13, block_set (block_grown hz1 hgrow (own_ne hrow (by omega))) (show w.heap.size + 1 ≠ b by omega) _⟩, ?_, hB⟩
  · have e : rcl (ml.take (i + 1)) = rcl (ml.take i) ++ [.string tm, .int .i64 k] := by
      rw [List.take_add_one, hm, rcl_append]; rfl
    rw [e]
    exact hown1.kept (grownBy_setCell' w1 b 11 (.slice (some ⟨gg, 0, none⟩) (i + 1) cp)) (.inr (own_ne hown1 (by omega)).symm)
  · exact ((hbel.alloc hsz _).grown hgrow (by simp; omega) (fun j hj => by have := (hrow.lt j hj).1; omega)).setCell (p := ⟨b, 11, none⟩) (by show w.heap.size ≤ b; omega) _
/-- Rows that lie behind the result's block lie as they lay. -/
theorem ofI_rows {w : World} {b k t : Nat} {A : Option Addr} {cap : Nat} {ml : List Rw} {z0 z1 z2 z3 z4 z5 z6 z7 z8 z9 z10 z11 z12 z13 : Value} (hrow : w.ownsRow (b + 1) t 2 (.slice A ml.length cap) ml.length (rcl ml)) (hrr : RR w A ml) (_hz : w.heap[k]? = some (.cells #[z0, z1, z2, z3, z4, z5, z6, z7, z8, z9, z10, z11, z12, z13] 27 (0, 0))) (hk : k ≤ b) (x0 x1 x2 x3 x4 x5 x6 x7 x8 x9 x10 x11 x12 x13 : Value) : RR (((((((((((((((w).setCell ⟨k, 0, none⟩ x0).setCell ⟨k, 1, none⟩ x1).setCell ⟨k, 2, none⟩ x2).setCell ⟨k, 3, none⟩ x3).setCell ⟨k, 4, none⟩ x4).setCell ⟨k, 5, none⟩ x5).setCell ⟨k, 6, none⟩ x6).setCell ⟨k, 7, none⟩ x7).setCell ⟨k, 8, none⟩ x8).setCell ⟨k, 9, none⟩ x9).setCell ⟨k, 10, none⟩ x10).setCell ⟨k, 11, none⟩ x11).setCell ⟨k, 12, none⟩ x12).setCell ⟨k, 13, none⟩ x13) A ml := by
  rcases hrr with h0 | ⟨g, o, e, hg, hc⟩
  · exact .inl h0
  · have hgk : g ≠ k := by
      have := hrow.lt g (by rw [e]; rfl)
      omega
    have hh : (((((((((((((((w).setCell ⟨k, 0, none⟩ x0).setCell ⟨k, 1, none⟩ x1).setCell ⟨k, 2, none⟩ x2).setCell ⟨k, 3, none⟩ x3).setCell ⟨k, 4, none⟩ x4).setCell ⟨k, 5, none⟩ x5).setCell ⟨k, 6, none⟩ x6).setCell ⟨k, 7, none⟩ x7).setCell ⟨k, 8, none⟩ x8).setCell ⟨k, 9, none⟩ x9).setCell ⟨k, 10, none⟩ x10).setCell ⟨k, 11, none⟩ x11).setCell ⟨k, 12, none⟩ x12).setCell ⟨k, 13, none⟩ x13).heap[g]? = w.heap[g]? := ((Below.heap_setCell _ _ _ _ hgk).trans ((Below.heap_setCell _ _ _ _ hgk).trans ((Below.heap_setCell _ _ _ _ hgk).trans ((Below.heap_setCell _ _ _ _ hgk).trans ((Below.heap_setCell _ _ _ _ hgk).trans ((Below.heap_setCell _ _ _ _ hgk).trans ((Below.heap_setCell _ _ _ _ hgk).trans ((Below.heap_setCell _ _ _ _ hgk).trans ((Below.heap_setCell _ _ _ _ hgk).trans ((Below.heap_setCell _ _ _ _ hgk).trans ((Below.heap_setCell _ _ _ _ hgk).trans ((Below.heap_setCell _ _ _ _ hgk).trans ((Below.heap_setCell _ _ _ _ hgk).trans (Below.heap_setCell _ _ _ _ hgk))))))))))))))
    refine .inr ⟨g, o, e, ?_, fun i m hi => ?_⟩
    · simpa [World.setCell] using hg
    · simp only [World.cell?, hh]
      exact hc i m hi
theorem ofI_ty {w : World} {b k t : Nat} {A : Option Addr} {n cap : Nat} {xs : List Value} {z0 z1 z2 z3 z4 z5 z6 z7 z8 z9 z10 z11 z12 z13 : Value} (hrow : w.ownsRow (b + 1) t 2 (.slice A n cap) n xs) (_hz : w.heap[k]? = some (.cells #[z0, z1, z2, z3, z4, z5, z6, z7, z8, z9, z10, z11, z12, z13] 27 (0, 0))) (hk : k ≤ b) (x0 x1 x2 x3 x4 x5 x6 x7 x8 x9 x10 x11 x12 x13 : Value) : Ty (((((((((((((((w).setCell ⟨k, 0, none⟩ x0).setCell ⟨k, 1, none⟩ x1).setCell ⟨k, 2, none⟩ x2).setCell ⟨k, 3, none⟩ x3).setCell ⟨k, 4, none⟩ x4).setCell ⟨k, 5, none⟩ x5).setCell ⟨k, 6, none⟩ x6).setCell ⟨k, 7, none⟩ x7).setCell ⟨k, 8, none⟩ x8).setCell ⟨k, 9, none⟩ x9).setCell ⟨k, 10, none⟩ x10).setCell ⟨k, 11, none⟩ x11).setCell ⟨k, 12, none⟩ x12).setCell ⟨k, 13, none⟩ x13) A t := fun g o e => by
  rcases hrow.2 with ⟨h1, _⟩ | ⟨g', cap', cur, h1, hg, hh, _⟩
  · rw [e] at h1; cases h1
  · rw [e] at h1
    simp only [Value.slice.injEq, Option.some.injEq, Addr.mk.injEq] at h1
    obtain ⟨⟨rfl, _⟩, _⟩ := h1
    have hgk : g ≠ k := by omega
    exact ⟨cur, (((Below.heap_setCell _ _ _ _ hgk).trans ((Below.heap_setCell _ _ _ _ hgk).trans ((Below.heap_setCell _ _ _ _ hgk).trans ((Below.heap_setCell _ _ _ _ hgk).trans ((Below.heap_setCell _ _ _ _ hgk).trans ((Below.heap_setCell _ _ _ _ hgk).trans ((Below.heap_setCell _ _ _ _ hgk).trans ((Below.heap_setCell _ _ _ _ hgk).trans ((Below.heap_setCell _ _ _ _ hgk).trans ((Below.heap_setCell _ _ _ _ hgk).trans ((Below.heap_setCell _ _ _ _ hgk).trans ((Below.heap_setCell _ _ _ _ hgk).trans ((Below.heap_setCell _ _ _ _ hgk).trans (Below.heap_setCell _ _ _ _ hgk))))))))))))))).trans hh⟩
end Go.Proofs.YteahloddjekakaaDoor.Nt
