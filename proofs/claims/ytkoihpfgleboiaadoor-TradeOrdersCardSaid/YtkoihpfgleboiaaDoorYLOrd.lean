/-
  The law TradeOrders answers true: its walk. Conditions: the library's variable internal/bytealg.MaxLen holds a number.
-/
import Derived.Test.YtkoihpfgleboiaaDoorYKno
import Derived.Test.YtkoihpfgleboiaaDoorYTo
import Derived.Test.YtkoihpfgleboiaaDoorYOrd
import Derived.Deep.CutRange
import Derived.Test.YtkoihpfgleboiaaDoorYQuiet
import Derived.BigRegion
namespace Go.Proofs.YtkoihpfgleboiaaDoor.Td
open Go.RowKit

theorem blk18 {w : World} {b : Nat} {v0 v1 v2 v3 v4 v5 v6 v7 v8 v9 v10 v11 v12 v13 v14 v15 v16 v17 : Value} {t : TypeId} (h : w.heap[b]? = some (.cells #[v0, v1, v2, v3, v4, v5, v6, v7, v8, v9, v10, v11, v12, v13, v14, v15, v16, v17] t (0, 0))) :
    w.cell? ⟨b, 0, none⟩ = some v0 ∧ w.cell? ⟨b, 1, none⟩ = some v1 ∧ w.cell? ⟨b, 2, none⟩ = some v2 ∧ w.cell? ⟨b, 3, none⟩ = some v3 ∧ w.cell? ⟨b, 4, none⟩ = some v4 ∧ w.cell? ⟨b, 5, none⟩ = some v5 ∧ w.cell? ⟨b, 6, none⟩ = some v6 ∧ w.cell? ⟨b, 7, none⟩ = some v7 ∧ w.cell? ⟨b, 8, none⟩ = some v8 ∧ w.cell? ⟨b, 9, none⟩ = some v9 ∧ w.cell? ⟨b, 10, none⟩ = some v10 ∧ w.cell? ⟨b, 11, none⟩ = some v11 ∧ w.cell? ⟨b, 12, none⟩ = some v12 ∧ w.cell? ⟨b, 13, none⟩ = some v13 ∧ w.cell? ⟨b, 14, none⟩ = some v14 ∧ w.cell? ⟨b, 15, none⟩ = some v15 ∧ w.cell? ⟨b, 16, none⟩ = some v16 ∧ w.cell? ⟨b, 17, none⟩ = some v17 :=
  ⟨by rw [cell_of_row w b 0 _ _ _ h]; rfl, by rw [cell_of_row w b 1 _ _ _ h]; rfl, by rw [cell_of_row w b 2 _ _ _ h]; rfl, by rw [cell_of_row w b 3 _ _ _ h]; rfl, by rw [cell_of_row w b 4 _ _ _ h]; rfl, by rw [cell_of_row w b 5 _ _ _ h]; rfl, by rw [cell_of_row w b 6 _ _ _ h]; rfl, by rw [cell_of_row w b 7 _ _ _ h]; rfl, by rw [cell_of_row w b 8 _ _ _ h]; rfl, by rw [cell_of_row w b 9 _ _ _ h]; rfl, by rw [cell_of_row w b 10 _ _ _ h]; rfl, by rw [cell_of_row w b 11 _ _ _ h]; rfl, by rw [cell_of_row w b 12 _ _ _ h]; rfl, by rw [cell_of_row w b 13 _ _ _ h]; rfl, by rw [cell_of_row w b 14 _ _ _ h]; rfl, by rw [cell_of_row w b 15 _ _ _ h]; rfl, by rw [cell_of_row w b 16 _ _ _ h]; rfl, by rw [cell_of_row w b 17 _ _ _ h]; rfl⟩
theorem bs_of {W V : World} (h : Below W.heap.size W V) : ∀ b o, b < W.heap.size → V.cell? ⟨b, o, none⟩ = W.cell? ⟨b, o, none⟩ := fun b o hb => h.cell (p := ⟨b, o, none⟩) hb
theorem heap_at' {W : World} {o : Obj} {k : Nat} (hk : k = W.heap.size) : (W.alloc o).heap[k]? = some o := by rw [hk]; exact block_new _ _
theorem heap_drew' {W : World} {k : Nat} {r : Option Obj} (h : W.heap[k]? = r) : W.drew.heap[k]? = r := h
theorem below_step' {W V : World} (h : Below W.heap.size W V) (o : Obj) : Below W.heap.size W (V.alloc o) := h.alloc h.size o
theorem three_new' (w : World) (o1 o2 o3 : Obj) :
    (((w.alloc o1).alloc o2).alloc o3).heap[w.heap.size]? = some o1 ∧ (((w.alloc o1).alloc o2).alloc o3).heap[w.heap.size + 1]? = some o2 ∧ (((w.alloc o1).alloc o2).alloc o3).heap[w.heap.size + 1 + 1]? = some o3 ∧ Below w.heap.size w (((w.alloc o1).alloc o2).alloc o3) := by
  obtain ⟨h1, h2, h3⟩ := two_new2 w o1 o2
  have e1 : ((w.alloc o1).alloc o2).heap.size = w.heap.size + 1 + 1 := by simp
  refine ⟨block_old h1 _, block_old h2 _, ?_, h3.alloc (by omega) _⟩
  rw [← e1]; exact block_new _ _

/-- So many stores, one behind the other. -/
def stChain (P : Program) (b : Nat) : Nat → List Value → World → Result Unit
  | _, [], W => .ok () W
  | o, [v], W => (store ⟨b, o, none⟩ v).run P W
  | o, v :: u :: r, W => ((store ⟨b, o, none⟩ v).run P W).andThen fun _ w' => stChain P b (o + 1) (u :: r) w'
theorem st_one (P : Program) {W : World} {b k : Nat} {v : Value} (hc : (W.cell? ⟨b, k, none⟩).isSome = true) (hf : W.frozen? ⟨b, k, none⟩ = false) (hv : v.oneCell' = true) : (store ⟨b, k, none⟩ v).run P W = .ok () (W.setCell ⟨b, k, none⟩ v) := by
  rw [run_store P W _ v _ hv]
  obtain ⟨u, hu⟩ := Option.isSome_iff_exists.1 hc
  rw [hu, hf]; rfl
theorem st_chain (P : Program) (b : Nat) : ∀ (vs : List Value) (o : Nat) (W : World), (∀ j, j < vs.length → (W.cell? ⟨b, o + j, none⟩).isSome = true ∧ W.frozen? ⟨b, o + j, none⟩ = false) → (∀ v ∈ vs, v.oneCell' = true) → stChain P b o vs W = .ok () (W.setCells b o vs)
  | [], _, _, _, _ => rfl
  | [v], o, W, h, hv => by
    have h0 := h 0 (by simp)
    rw [Nat.add_zero] at h0
    exact st_one P h0.1 h0.2 (hv v (by simp))
  | v :: u :: r, o, W, h, hv => by
    have h0 := h 0 (by simp)
    rw [Nat.add_zero] at h0
    show ((store ⟨b, o, none⟩ v).run P W).andThen _ = _
    rw [st_one P h0.1 h0.2 (hv v (by simp))]
    show stChain P b (o + 1) (u :: r) (W.setCell ⟨b, o, none⟩ v) = _
    rw [st_chain P b (u :: r) (o + 1) _ (fun j hj => ?_) (fun z hz => hv z (List.mem_cons_of_mem _ hz))]
    · rfl
    · have h2 := h (j + 1) (by simp at hj ⊢; omega)
      have e : o + (j + 1) = o + 1 + j := by omega
      rw [e] at h2
      have hne : (⟨b, o, none⟩ : Addr) ≠ ⟨b, o + 1 + j, none⟩ := fun k => by
        have := congrArg Addr.off k
        simp at this; omega
      rw [World.cell?_setCell_other _ _ _ _ hne]
      exact ⟨h2.1, by simpa using h2.2⟩
theorem upon_chain {P : Program} {o : Oper} {a : Act} {next : Act → World → Prop} {Q : Exit → Act → World → Prop} {b : Nat} {W : World} {n : Nat} (vs : List Value) (hn : vs.length = n) (ht : W.there b 0 n) (hv : ∀ v ∈ vs, v.oneCell' = true)
    (h : next (a.put o.dst undef) (W.setCells b 0 vs)) : Oper.upon P o a next Q ((stChain P b 0 vs W).andThen fun _ w' => .ok .skip w') := by
  rw [st_chain P b vs 0 W (fun j hj => by simpa using ht j (by omega)) hv]
  exact h
theorem upon_id {P : Program} {o : Oper} {a : Act} {next : Act → World → Prop} {Q : Exit → Act → World → Prop} {R : Result Next} (h : Oper.upon P o a next Q R) : Oper.upon P o a next Q R := h
theorem there_row {W : World} {b : Nat} {cs : Array Value} {t : TypeId} {n : Nat} (hn : cs.size = n) (h : W.heap[b]? = some (.cells cs t (0, 0))) : W.there b 0 n := by
  intro j hj
  rw [Nat.zero_add]
  refine ⟨?_, by simp [World.frozen?, h]⟩
  rw [cell_of_row W b j _ _ _ h]
  simp [hn, hj]
theorem below_sets {B : Nat} {W : World} {b : Nat} (hB : B ≤ b) : ∀ (vs : List Value) (o : Nat) (w : World), Below B W w → Below B W (w.setCells b o vs)
  | [], _, _, h => h
  | v :: r, o, _w, h => below_sets hB r (o + 1) _ (h.setCell (p := ⟨b, o, none⟩) hB v)
def setsFrom (cs : Array Value) : Nat → List Value → Array Value
  | _, [] => cs
  | o, v :: r => setsFrom (cs.setIfInBounds o v) (o + 1) r
theorem heap_sets {b : Nat} {t : TypeId} {fr : Nat × Nat} : ∀ (vs : List Value) (o : Nat) (w : World) (cs : Array Value), w.heap[b]? = some (.cells cs t fr) → (w.setCells b o vs).heap[b]? = some (.cells (setsFrom cs o vs) t fr)
  | [], _, _, _, h => h
  | v :: r, o, w, cs, h => heap_sets r (o + 1) _ _ (by
      simp only [World.setCell, Array.getElem?_modify, if_true]
      rw [h]; rfl)
/-- A trade's cells, by letters. -/
def SixV (y : Tr) (v0 v1 v2 v3 v4 v5 : Value) : Prop := v0 = .int .i64 y.n ∧ v1 = .string y.b ∧ v2 = .string y.s ∧ v3 = .string y.i ∧ v4 = .int .i64 y.q ∧ v5 = .int .i64 y.p
theorem one18 {x y z : Tr} {a0 a1 a2 a3 a4 a5 b0 b1 b2 b3 b4 b5 c0 c1 c2 c3 c4 c5 : Value} (ha : SixV x a0 a1 a2 a3 a4 a5) (hb : SixV y b0 b1 b2 b3 b4 b5) (hc : SixV z c0 c1 c2 c3 c4 c5) :
    ∀ v ∈ [a0, a1, a2, a3, a4, a5, b0, b1, b2, b3, b4, b5, c0, c1, c2, c3, c4, c5], v.oneCell' = true := by
  obtain ⟨rfl, rfl, rfl, rfl, rfl, rfl⟩ := ha
  obtain ⟨rfl, rfl, rfl, rfl, rfl, rfl⟩ := hb
  obtain ⟨rfl, rfl, rfl, rfl, rfl, rfl⟩ := hc
  intro v hv
  simp only [List.mem_cons, List.not_mem_nil, or_false] at hv
  rcases hv with rfl | rfl | rfl | rfl | rfl | rfl | rfl | rfl | rfl | rfl | rfl | rfl | rfl | rfl | rfl | rfl | rfl | rfl <;> rfl
theorem sets_list : ∀ (vs : List Value) (o : Nat) (cs : Array Value), cs.size = o + vs.length → (setsFrom cs o vs).toList = cs.toList.take o ++ vs
  | [], o, cs, h => by
    show cs.toList = _
    rw [List.take_of_length_le (by simp at h ⊢; omega), List.append_nil]
  | v :: r, o, cs, h => by
    have ho : o < cs.toList.length := by simp at h ⊢; omega
    show (setsFrom (cs.setIfInBounds o v) (o + 1) r).toList = _
    rw [sets_list r (o + 1) _ (by simp at h ⊢; omega), Array.toList_setIfInBounds, List.set_eq_take_append_cons_drop, if_pos ho]
    rw [List.take_append, List.length_take, Nat.min_eq_left (Nat.le_of_lt ho), List.take_take, Nat.min_eq_right (Nat.le_succ o), show o + 1 - o = 1 by omega]
    simp
theorem sets_all {vs : List Value} {cs : Array Value} (h : cs.size = vs.length) : setsFrom cs 0 vs = vs.toArray := by
  apply Array.toList_inj.1
  rw [sets_list vs 0 cs (by omega)]
  simp
/-- Three trades lie in one array; what was there lies as it lay. -/
def Arr3 (w W : World) (B : Nat) (x y z : Tr) : Prop := W.heap[B]? = some (.cells #[.int .i64 x.n, .string x.b, .string x.s, .string x.i, .int .i64 x.q, .int .i64 x.p, .int .i64 y.n, .string y.b, .string y.s, .string y.i, .int .i64 y.q, .int .i64 y.p, .int .i64 z.n, .string z.b, .string z.s, .string z.i, .int .i64 z.q, .int .i64 z.p] 44 (0, 0)) ∧ Below w.heap.size w W
/-- Behind the stores the three trades lie in the array. -/
theorem arr_end {w W0 V : World} {c : Nat} {cs : Array Value} {x y z : Tr} {a0 a1 a2 a3 a4 a5 b0 b1 b2 b3 b4 b5 c0 c1 c2 c3 c4 c5 : Value} (h0 : Below w.heap.size w W0) (h3 : Below W0.heap.size W0 V) (hc : W0.heap.size ≤ c) (hcs : cs.size = 18)
    (T : V.heap[c]? = some (.cells cs 44 (0, 0))) (ga : SixV x a0 a1 a2 a3 a4 a5) (gb : SixV y b0 b1 b2 b3 b4 b5) (gc : SixV z c0 c1 c2 c3 c4 c5) :
    Arr3 w (V.setCells c 0 [a0, a1, a2, a3, a4, a5, b0, b1, b2, b3, b4, b5, c0, c1, c2, c3, c4, c5]) c x y z := by
  obtain ⟨rfl, rfl, rfl, rfl, rfl, rfl⟩ := ga
  obtain ⟨rfl, rfl, rfl, rfl, rfl, rfl⟩ := gb
  obtain ⟨rfl, rfl, rfl, rfl, rfl, rfl⟩ := gc
  refine ⟨?_, h0.trans ((below_sets hc _ _ _ h3).mono h0.size)⟩
  rw [heap_sets _ 0 V cs T, sets_all (by rw [hcs]; rfl)]

theorem to_below (w : World) (x y : Tr) (hy : Hid (y = cutT x)) : Calls Tryd.prog 5 #[.agg #[.int .i64 x.n, .string x.b, .string x.s, .string x.i, .int .i64 x.q, .int .i64 x.p]] w fun e w' => ∃ v0 v1 v2 v3 v4 v5, e = .returned (.agg #[v0, v1, v2, v3, v4, v5]) ∧ Hid (SixV y v0 v1 v2 v3 v4 v5) ∧ Below w.heap.size w w' :=
  (to_exact w x y hy).mono fun e w' ⟨he, hw⟩ => ⟨_, _, _, _, _, _, he, ⟨rfl, rfl, rfl, rfl, rfl, rfl⟩, by rw [hw]; exact (below_step' (below_step' (Below.refl _ _) _) _).drew⟩
/-- Three trades lie in three blocks. -/
def Three (W : World) (p q r : Nat) (x y z : Tr) : Prop := W.heap[p]? = some (.cells #[.int .i64 x.n, .string x.b, .string x.s, .string x.i, .int .i64 x.q, .int .i64 x.p] 28 (0, 0)) ∧ W.heap[q]? = some (.cells #[.int .i64 y.n, .string y.b, .string y.s, .string y.i, .int .i64 y.q, .int .i64 y.p] 28 (0, 0)) ∧ W.heap[r]? = some (.cells #[.int .i64 z.n, .string z.b, .string z.s, .string z.i, .int .i64 z.q, .int .i64 z.p] 28 (0, 0))

/-- One of the three trades, by its place. -/
theorem arr_at {w W : World} {B : Nat} {x y z : Tr} (h : Arr3 w W B x y z) {i : Nat} (hi : i < 3) : ∃ t : Tr, W.cell? ⟨B, i * 6, none⟩ = some (.int .i64 t.n) ∧ W.cell? ⟨B, i * 6 + 1, none⟩ = some (.string t.b) ∧ W.cell? ⟨B, i * 6 + 2, none⟩ = some (.string t.s) ∧ W.cell? ⟨B, i * 6 + 3, none⟩ = some (.string t.i) ∧ W.cell? ⟨B, i * 6 + 4, none⟩ = some (.int .i64 t.q) ∧ W.cell? ⟨B, i * 6 + 5, none⟩ = some (.int .i64 t.p) := by
  obtain ⟨c0, c1, c2, c3, c4, c5, c6, c7, c8, c9, c10, c11, c12, c13, c14, c15, c16, c17⟩ := blk18 h.1
  match i, hi with
  | 0, _ => exact ⟨x, c0, c1, c2, c3, c4, c5⟩
  | 1, _ => exact ⟨y, c6, c7, c8, c9, c10, c11⟩
  | 2, _ => exact ⟨z, c12, c13, c14, c15, c16, c17⟩

set_option maxRecDepth 100000 in
set_option maxHeartbeats 40000000 in
theorem law_orders (w : World) (m : Int) (hm : w.cell? ⟨0, 0, none⟩ = some (.int .i64 m)) (a b c : Tr) :
    Calls Tryd.prog 4 #[.agg #[.int .i64 a.n, .string a.b, .string a.s, .string a.i, .int .i64 a.q, .int .i64 a.p], .agg #[.int .i64 b.n, .string b.b, .string b.s, .string b.i, .int .i64 b.q, .int .i64 b.p], .agg #[.int .i64 c.n, .string c.b, .string c.s, .string c.i, .int .i64 c.q, .int .i64 c.p]] w fun e w' => e = .returned (.bool true) ∧ Below w.heap.size w w' := by
  obtain ⟨x, hx⟩ : ∃ x, x = cutT a := ⟨_, rfl⟩
  obtain ⟨y, hy⟩ : ∃ y, y = cutT b := ⟨_, rfl⟩
  obtain ⟨z, hz⟩ : ∃ z, z = cutT c := ⟨_, rfl⟩
  have HX := Lib.hid hx
  have HY := Lib.hid hy
  have HZ := Lib.hid hz
  have HM := Lib.hid hm
  clear hx hy hz hm
  have E0 := three_new' w (.cells #[.int .i64 a.n, .string a.b, .string a.s, .string a.i, .int .i64 a.q, .int .i64 a.p] 30) (.cells #[.int .i64 b.n, .string b.b, .string b.s, .string b.i, .int .i64 b.q, .int .i64 b.p] 30) (.cells #[.int .i64 c.n, .string c.b, .string c.s, .string c.i, .int .i64 c.q, .int .i64 c.p] 30)
  go_enter Tryd.func4, Tryd.ntmps4
  go_upto_region 1 with fail
  obtain ⟨W0, hW0⟩ : ∃ W0, W0 = ((w.alloc (.cells #[.int .i64 a.n, .string a.b, .string a.s, .string a.i, .int .i64 a.q, .int .i64 a.p] 30)).alloc (.cells #[.int .i64 b.n, .string b.b, .string b.s, .string b.i, .int .i64 b.q, .int .i64 b.p] 30)).alloc (.cells #[.int .i64 c.n, .string c.b, .string c.s, .string c.i, .int .i64 c.q, .int .i64 c.p] 30) := ⟨_, rfl⟩
  rw [← hW0] at E0 ⊢
  clear hW0
  have l0 : w.heap.size < W0.heap.size := (Array.getElem?_eq_some_iff.1 E0.1).1
  have l1 : w.heap.size + 1 < W0.heap.size := (Array.getElem?_eq_some_iff.1 E0.2.1).1
  have l2 : w.heap.size + 1 + 1 < W0.heap.size := (Array.getElem?_eq_some_iff.1 E0.2.2.1).1
  obtain ⟨p0, p1, p2, p3, p4, p5⟩ := blk6 E0.1
  obtain ⟨q0, q1, q2, q3, q4, q5⟩ := blk6 E0.2.1
  obtain ⟨s0, s1, s2, s3, s4, s5⟩ := blk6 E0.2.2.1
  have HB0 := Lib.hid E0.2.2.2
  clear E0
  go_cut [7] from 12 (fun s7 wx => ∃ B, s7 = .pointer (some ⟨B, 0, none⟩) ∧ Hid (Arr3 w wx B x y z))
  case first =>
   have HBd : Hid (Below W0.heap.size W0 W0.drew) := (Below.refl _ _).drew
   have HBa : Hid (Below W0.heap.size W0 (W0.alloc (.cells #[.int .i64 0, .string { data := #[] }, .string { data := #[] }, .string { data := #[] }, .int .i64 0, .int .i64 0, .int .i64 0, .string { data := #[] }, .string { data := #[] }, .string { data := #[] }, .int .i64 0, .int .i64 0, .int .i64 0, .string { data := #[] }, .string { data := #[] }, .string { data := #[] }, .int .i64 0, .int .i64 0] 44)).drew) := (below_step' (Below.refl _ _) _).drew
   have Ta : Hid ((W0.alloc (.cells #[.int .i64 0, .string { data := #[] }, .string { data := #[] }, .string { data := #[] }, .int .i64 0, .int .i64 0, .int .i64 0, .string { data := #[] }, .string { data := #[] }, .string { data := #[] }, .int .i64 0, .int .i64 0, .int .i64 0, .string { data := #[] }, .string { data := #[] }, .string { data := #[] }, .int .i64 0, .int .i64 0] 44)).drew.heap[W0.heap.size]? = some (.cells #[.int .i64 0, .string { data := #[] }, .string { data := #[] }, .string { data := #[] }, .int .i64 0, .int .i64 0, .int .i64 0, .string { data := #[] }, .string { data := #[] }, .string { data := #[] }, .int .i64 0, .int .i64 0, .int .i64 0, .string { data := #[] }, .string { data := #[] }, .string { data := #[] }, .int .i64 0, .int .i64 0] 44 (0, 0))) := block_new W0 (.cells #[.int .i64 0, .string { data := #[] }, .string { data := #[] }, .string { data := #[] }, .int .i64 0, .int .i64 0, .int .i64 0, .string { data := #[] }, .string { data := #[] }, .string { data := #[] }, .int .i64 0, .int .i64 0, .int .i64 0, .string { data := #[] }, .string { data := #[] }, .string { data := #[] }, .int .i64 0, .int .i64 0] 44)
   have SSd := bs_of HBd.out
   go_region_held3 (fun w' => ∀ b o, b < W0.heap.size → w'.cell? ⟨b, o, none⟩ = W0.cell? ⟨b, o, none⟩) (first | (with_reducible assumption) | (with_reducible exact bs_of (below_sets NE.out _ _ _ HB3.out)) | (with_reducible exact bs_of (below_sets HB3.out.size _ _ _ (below_step' HB3.out _))) | (with_reducible exact bs_of (below_step' (Below.refl _ _) _)) | (with_reducible exact bs_of HBa.out) | (with_reducible exact bs_of (below_step' HB1.out _)) | (with_reducible exact bs_of (below_step' HB2.out _)) | (with_reducible exact bs_of (below_step' HB3.out _)))
    (first
      | (go_at_call 5; (with_reducible refine (to_below w2 c z HZ).mono ?_); rintro e w3 ⟨gc0, gc1, gc2, gc3, gc4, gc5, rfl, hgc, hb⟩; have HB3 := Lib.hid (HB2.out.trans (hb.mono HB2.out.size)); have SS3 := bs_of HB3.out; (try (have T3 := Lib.hid (block_kept T2.out hb))); clear hb)
      | (go_at_call 5; (with_reducible refine (to_below (w2.alloc (.cells #[.int .i64 0, .string { data := #[] }, .string { data := #[] }, .string { data := #[] }, .int .i64 0, .int .i64 0, .int .i64 0, .string { data := #[] }, .string { data := #[] }, .string { data := #[] }, .int .i64 0, .int .i64 0, .int .i64 0, .string { data := #[] }, .string { data := #[] }, .string { data := #[] }, .int .i64 0, .int .i64 0] 44)) c z HZ).mono ?_); rintro e w3 ⟨gc0, gc1, gc2, gc3, gc4, gc5, rfl, hgc, hb⟩; have NE : Hid (W0.heap.size ≤ w2.heap.size) := HB2.out.size; have T3 := Lib.hid (block_kept (block_new w2 (.cells #[.int .i64 0, .string { data := #[] }, .string { data := #[] }, .string { data := #[] }, .int .i64 0, .int .i64 0, .int .i64 0, .string { data := #[] }, .string { data := #[] }, .string { data := #[] }, .int .i64 0, .int .i64 0, .int .i64 0, .string { data := #[] }, .string { data := #[] }, .string { data := #[] }, .int .i64 0, .int .i64 0] 44)) hb); have HB3 := Lib.hid ((below_step' HB2.out (.cells #[.int .i64 0, .string { data := #[] }, .string { data := #[] }, .string { data := #[] }, .int .i64 0, .int .i64 0, .int .i64 0, .string { data := #[] }, .string { data := #[] }, .string { data := #[] }, .int .i64 0, .int .i64 0, .int .i64 0, .string { data := #[] }, .string { data := #[] }, .string { data := #[] }, .int .i64 0, .int .i64 0] 44)).trans (hb.mono ((below_step' HB2.out (.cells #[.int .i64 0, .string { data := #[] }, .string { data := #[] }, .string { data := #[] }, .int .i64 0, .int .i64 0, .int .i64 0, .string { data := #[] }, .string { data := #[] }, .string { data := #[] }, .int .i64 0, .int .i64 0, .int .i64 0, .string { data := #[] }, .string { data := #[] }, .string { data := #[] }, .int .i64 0, .int .i64 0] 44))).size)); have SS3 := bs_of HB3.out; clear hb)
      | (go_at_call 5; (with_reducible refine (to_below w1 b y HY).mono ?_); rintro e w2 ⟨gb0, gb1, gb2, gb3, gb4, gb5, rfl, hgb, hb⟩; have HB2 := Lib.hid (HB1.out.trans (hb.mono HB1.out.size)); have SS2 := bs_of HB2.out; (try (have T2 := Lib.hid (block_kept T1.out hb))); clear hb)
      | (go_at_call 5; (with_reducible refine (to_below (w1.alloc (.cells #[.int .i64 0, .string { data := #[] }, .string { data := #[] }, .string { data := #[] }, .int .i64 0, .int .i64 0, .int .i64 0, .string { data := #[] }, .string { data := #[] }, .string { data := #[] }, .int .i64 0, .int .i64 0, .int .i64 0, .string { data := #[] }, .string { data := #[] }, .string { data := #[] }, .int .i64 0, .int .i64 0] 44)) b y HY).mono ?_); rintro e w2 ⟨gb0, gb1, gb2, gb3, gb4, gb5, rfl, hgb, hb⟩; have NE : Hid (W0.heap.size ≤ w1.heap.size) := HB1.out.size; have T2 := Lib.hid (block_kept (block_new w1 (.cells #[.int .i64 0, .string { data := #[] }, .string { data := #[] }, .string { data := #[] }, .int .i64 0, .int .i64 0, .int .i64 0, .string { data := #[] }, .string { data := #[] }, .string { data := #[] }, .int .i64 0, .int .i64 0, .int .i64 0, .string { data := #[] }, .string { data := #[] }, .string { data := #[] }, .int .i64 0, .int .i64 0] 44)) hb); have HB2 := Lib.hid ((below_step' HB1.out (.cells #[.int .i64 0, .string { data := #[] }, .string { data := #[] }, .string { data := #[] }, .int .i64 0, .int .i64 0, .int .i64 0, .string { data := #[] }, .string { data := #[] }, .string { data := #[] }, .int .i64 0, .int .i64 0, .int .i64 0, .string { data := #[] }, .string { data := #[] }, .string { data := #[] }, .int .i64 0, .int .i64 0] 44)).trans (hb.mono ((below_step' HB1.out (.cells #[.int .i64 0, .string { data := #[] }, .string { data := #[] }, .string { data := #[] }, .int .i64 0, .int .i64 0, .int .i64 0, .string { data := #[] }, .string { data := #[] }, .string { data := #[] }, .int .i64 0, .int .i64 0, .int .i64 0, .string { data := #[] }, .string { data := #[] }, .string { data := #[] }, .int .i64 0, .int .i64 0] 44))).size)); have SS2 := bs_of HB2.out; clear hb)
      | (go_at_call 5; (with_reducible refine (to_below W0.drew a x HX).mono ?_); rintro e w1 ⟨ga0, ga1, ga2, ga3, ga4, ga5, rfl, hga, hb⟩; have HB1 := Lib.hid (HBd.out.trans (hb.mono HBd.out.size)); have SS1 := bs_of HB1.out; (try (have T1 := Lib.hid (block_kept T0.out hb))); clear hb)
      | (go_at_call 5; (with_reducible refine (to_below (W0.alloc (.cells #[.int .i64 0, .string { data := #[] }, .string { data := #[] }, .string { data := #[] }, .int .i64 0, .int .i64 0, .int .i64 0, .string { data := #[] }, .string { data := #[] }, .string { data := #[] }, .int .i64 0, .int .i64 0, .int .i64 0, .string { data := #[] }, .string { data := #[] }, .string { data := #[] }, .int .i64 0, .int .i64 0] 44)).drew a x HX).mono ?_); rintro e w1 ⟨ga0, ga1, ga2, ga3, ga4, ga5, rfl, hga, hb⟩; have NE : Hid (W0.heap.size ≤ W0.heap.size) := Nat.le_refl W0.heap.size; have T1 := Lib.hid (block_kept Ta.out hb); have HB1 := Lib.hid (HBa.out.trans (hb.mono (HBa.out).size)); have SS1 := bs_of HB1.out; clear hb)
      | ((with_reducible refine upon_id ?_); have HT := there_row (n := 18) rfl T3.out; refine upon_chain [ga0, ga1, ga2, ga3, ga4, ga5, gb0, gb1, gb2, gb3, gb4, gb5, gc0, gc1, gc2, gc3, gc4, gc5] rfl HT (one18 hga.out hgb.out hgc.out) ?_)
      | ((with_reducible refine upon_id ?_); have HT := there_row (n := 18) rfl (block_new w3 (.cells #[.int .i64 0, .string { data := #[] }, .string { data := #[] }, .string { data := #[] }, .int .i64 0, .int .i64 0, .int .i64 0, .string { data := #[] }, .string { data := #[] }, .string { data := #[] }, .int .i64 0, .int .i64 0, .int .i64 0, .string { data := #[] }, .string { data := #[] }, .string { data := #[] }, .int .i64 0, .int .i64 0] 44)); refine upon_chain [ga0, ga1, ga2, ga3, ga4, ga5, gb0, gb1, gb2, gb3, gb4, gb5, gc0, gc1, gc2, gc3, gc4, gc5] rfl HT (one18 hga.out hgb.out hgc.out) ?_))
   all_goals (go_wp2; go_meet)
   all_goals (case rel =>
     first
       | (have HT := T3.out; exact ⟨_, rfl, arr_end HB0.out HB3.out NE.out rfl HT hga.out hgb.out hgc.out⟩)
       | exact ⟨_, rfl, arr_end HB0.out (below_step' HB3.out _) HB3.out.size rfl (block_new w3 (.cells #[.int .i64 0, .string { data := #[] }, .string { data := #[] }, .string { data := #[] }, .int .i64 0, .int .i64 0, .int .i64 0, .string { data := #[] }, .string { data := #[] }, .string { data := #[] }, .int .i64 0, .int .i64 0, .int .i64 0, .string { data := #[] }, .string { data := #[] }, .string { data := #[] }, .int .i64 0, .int .i64 0] 44)) hga.out hgb.out hgc.out⟩)
  case rest =>
   obtain ⟨B, rfl, hk⟩ := hcut
   clear p0 p1 p2 p3 p4 p5 q0 q1 q2 q3 q4 q5 s0 s1 s2 s3 s4 s5 l0 l1 l2 HB0 HX HY HZ
   obtain ⟨W1, hW1⟩ : ∃ W1, W1 = wc := ⟨_, rfl⟩
   rw [← hW1] at hk ⊢
   clear hW1
   go_wp2
   go_loopg [8] 3 (fun (g : Nat) sv wx => ∃ i : Nat, g = 3 - i ∧ i ≤ 3 ∧ sv = .int .i64 (i : Int) ∧ Hid (Arr3 w wx B x y z))
   case atStart => exact ⟨0, rfl, by decide, rfl, hk⟩
   case round =>
    obtain ⟨i, rfl, hi, rfl, hinv⟩ := hrel
    have HBE := Lib.hid hinv.out.2
    by_cases h3 : i < 3
    · have lB : B < wr.heap.size := (Array.getElem?_eq_some_iff.1 hinv.out.1).1
      obtain ⟨i1, hi1⟩ : ∃ k, k = (i + 1) % 3 := ⟨_, rfl⟩
      obtain ⟨i2, hi2⟩ : ∃ k, k = (i + 2) % 3 := ⟨_, rfl⟩
      have g0 : (i : Int) < 3 := by omega
      have g1 : (i1 : Int) < 3 := by omega
      have g2 : (i2 : Int) < 3 := by omega
      have k0 : (0 : Int) ≤ (i : Int) := by omega
      have k1 : (0 : Int) ≤ (i1 : Int) := by omega
      have k2 : (0 : Int) ≤ (i2 : Int) := by omega
      have r1 : ((i : Int) + 1).tmod 3 = (i1 : Int) := by rw [Int.tmod_eq_emod_of_nonneg (by omega)]; omega
      have r2 : ((i : Int) + 2).tmod 3 = (i2 : Int) := by rw [Int.tmod_eq_emod_of_nonneg (by omega)]; omega
      obtain ⟨t0, c0, c1, c2, c3, c4, c5⟩ := arr_at hinv.out (show i < 3 by omega)
      obtain ⟨t1, d0, d1, d2, d3, d4, d5⟩ := arr_at hinv.out (show i1 < 3 by omega)
      obtain ⟨t2, e0, e1, e2, e3, e4, e5⟩ := arr_at hinv.out (show i2 < 3 by omega)
      have w1 : IntKind.i64.wrap ((i : Int) + 1) = (i : Int) + 1 := by rw [i64_wrap]; omega
      have w2 : IntKind.i64.wrap ((i : Int) + 2) = (i : Int) + 2 := by rw [i64_wrap]; omega
      have HIV := Lib.hid hinv.out
      clear hinv hi1 hi2
      go_upto_region 5 with fail
      go_cut [9, 10, 11] from 19 to 67 (fun s9 s10 s11 wx => ∃ (p q r : Nat) (x' y' z' : Tr), s9 = .pointer (some ⟨p, 0, none⟩) ∧ s10 = .pointer (some ⟨q, 0, none⟩) ∧ s11 = .pointer (some ⟨r, 0, none⟩) ∧ Hid (Three wx p q r x' y' z' ∧ Below wr.heap.size wr wx))
      case first =>
       have a1 : ∀ b o (o1 : Obj), b < wr.heap.size → (wr.alloc o1).cell? ⟨b, o, none⟩ = wr.cell? ⟨b, o, none⟩ := fun b o o1 h => bs_of (below_step' (Below.refl _ _) o1) b o h
       have a2 : ∀ b o (o1 o2 : Obj), b < wr.heap.size → ((wr.alloc o1).alloc o2).cell? ⟨b, o, none⟩ = wr.cell? ⟨b, o, none⟩ := fun b o o1 o2 h => bs_of (below_step' (below_step' (Below.refl _ _) o1) o2) b o h
       have a3 : ∀ b o (o1 o2 o3 : Obj), b < wr.heap.size → (((wr.alloc o1).alloc o2).alloc o3).cell? ⟨b, o, none⟩ = wr.cell? ⟨b, o, none⟩ := fun b o o1 o2 o3 h => bs_of (below_step' (below_step' (below_step' (Below.refl _ _) o1) o2) o3) b o h
       clear HIV HBE hk HM h3 hi
       go_big_region
       all_goals (go_wp2; go_meet)
       all_goals (case rel =>
        refine ⟨_, _, _, t0, t1, t2, rfl, rfl, rfl, ?_⟩
        show (_ ∧ _ ∧ _) ∧ _
        refine ⟨⟨?_, ?_, ?_⟩, ?_⟩
        · repeat (first | (with_reducible refine heap_drew' ?_) | (refine heap_at' ?_; simp; done) | (with_reducible refine block_old ?_ _))
        · repeat (first | (with_reducible refine heap_drew' ?_) | (refine heap_at' ?_; simp; done) | (with_reducible refine block_old ?_ _))
        · repeat (first | (with_reducible refine heap_drew' ?_) | (refine heap_at' ?_; simp; done) | (with_reducible refine block_old ?_ _))
        · repeat (first | (with_reducible exact Below.refl _ _) | (with_reducible refine Below.drew ?_) | (with_reducible refine below_step' ?_ _)))
      case rest =>
       obtain ⟨p, q, r, x', y', z', rfl, rfl, rfl, hk2⟩ := hcut
       clear c0 c1 c2 c3 c4 c5 d0 d1 d2 d3 d4 d5 e0 e1 e2 e3 e4 e5 r1 r2 w1 w2 g1 g2 k1 k2 lB
       obtain ⟨W2, hW2⟩ : ∃ W2, W2 = wc := ⟨_, rfl⟩
       rw [← hW2] at hk2 ⊢
       clear hW2
       go_upto_region 6 with fail
       have HWR := Lib.hid hk2.out.2
       obtain ⟨c1, h1⟩ : ∃ c, c = tcmp x' y' := ⟨_, rfl⟩
       obtain ⟨c2, h2⟩ : ∃ c, c = tcmp y' z' := ⟨_, rfl⟩
       obtain ⟨c3, h3'⟩ : ∃ c, c = tcmp x' z' := ⟨_, rfl⟩
       obtain ⟨d, h4⟩ : ∃ c, c = tcmp y' x' := ⟨_, rfl⟩
       have htr : Tri c1 c2 c3 := by rw [h1, h2, h3']; exact tcmp_tri _ _ _
       have hdc : d = -c1 := by rw [h4, h1]; exact tcmp_opp x' y'
       have hrg := tcmp_rng x' y'
       rw [← h1] at hrg
       have hwr : IntKind.i64.wrap (-d) = c1 := by rw [i64_wrap, hdc]; omega
       have CXY : Hid (∀ p : InW W2, Calls Tryd.prog 13 #[.agg #[.int .i64 x'.n, .string x'.b, .string x'.s, .string x'.i, .int .i64 x'.q, .int .i64 x'.p], .agg #[.int .i64 y'.n, .string y'.b, .string y'.s, .string y'.i, .int .i64 y'.q, .int .i64 y'.p]] p.val fun e w' => e = .returned (.int .i64 c1) ∧ ∃ q : InW W2, w' = q.val) := fun p => calls_in (compare_any p.val x' y' h1)
       have CYZ : Hid (∀ p : InW W2, Calls Tryd.prog 13 #[.agg #[.int .i64 y'.n, .string y'.b, .string y'.s, .string y'.i, .int .i64 y'.q, .int .i64 y'.p], .agg #[.int .i64 z'.n, .string z'.b, .string z'.s, .string z'.i, .int .i64 z'.q, .int .i64 z'.p]] p.val fun e w' => e = .returned (.int .i64 c2) ∧ ∃ q : InW W2, w' = q.val) := fun p => calls_in (compare_any p.val y' z' h2)
       have CXZ : Hid (∀ p : InW W2, Calls Tryd.prog 13 #[.agg #[.int .i64 x'.n, .string x'.b, .string x'.s, .string x'.i, .int .i64 x'.q, .int .i64 x'.p], .agg #[.int .i64 z'.n, .string z'.b, .string z'.s, .string z'.i, .int .i64 z'.q, .int .i64 z'.p]] p.val fun e w' => e = .returned (.int .i64 c3) ∧ ∃ q : InW W2, w' = q.val) := fun p => calls_in (compare_any p.val x' z' h3')
       have CYX : Hid (∀ p : InW W2, Calls Tryd.prog 13 #[.agg #[.int .i64 y'.n, .string y'.b, .string y'.s, .string y'.i, .int .i64 y'.q, .int .i64 y'.p], .agg #[.int .i64 x'.n, .string x'.b, .string x'.s, .string x'.i, .int .i64 x'.q, .int .i64 x'.p]] p.val fun e w' => e = .returned (.int .i64 d) ∧ ∃ q : InW W2, w' = q.val) := fun p => calls_in (compare_any p.val y' x' h4)
       have CXX : Hid (∀ p : InW W2, Calls Tryd.prog 13 #[.agg #[.int .i64 x'.n, .string x'.b, .string x'.s, .string x'.i, .int .i64 x'.q, .int .i64 x'.p], .agg #[.int .i64 x'.n, .string x'.b, .string x'.s, .string x'.i, .int .i64 x'.q, .int .i64 x'.p]] p.val fun e w' => e = .returned (.int .i64 0) ∧ ∃ q : InW W2, w' = q.val) := fun p => calls_in (compare_any p.val x' x' (tcmp_self x').symm)
       have PX := Lib.hid (blk6 hk2.out.1.1)
       have PY := Lib.hid (blk6 hk2.out.1.2.1)
       have PZ := Lib.hid (blk6 hk2.out.1.2.2)
       have x0 : ∀ v : InW W2, v.val.cell? ⟨p, 0, none⟩ = some (.int .i64 x'.n) := fun v => v.cell PX.out.1
       have x1 : ∀ v : InW W2, v.val.cell? ⟨p, 1, none⟩ = some (.string x'.b) := fun v => v.cell PX.out.2.1
       have x2 : ∀ v : InW W2, v.val.cell? ⟨p, 2, none⟩ = some (.string x'.s) := fun v => v.cell PX.out.2.2.1
       have x3 : ∀ v : InW W2, v.val.cell? ⟨p, 3, none⟩ = some (.string x'.i) := fun v => v.cell PX.out.2.2.2.1
       have x4 : ∀ v : InW W2, v.val.cell? ⟨p, 4, none⟩ = some (.int .i64 x'.q) := fun v => v.cell PX.out.2.2.2.2.1
       have x5 : ∀ v : InW W2, v.val.cell? ⟨p, 5, none⟩ = some (.int .i64 x'.p) := fun v => v.cell PX.out.2.2.2.2.2
       have y0 : ∀ v : InW W2, v.val.cell? ⟨q, 0, none⟩ = some (.int .i64 y'.n) := fun v => v.cell PY.out.1
       have y1 : ∀ v : InW W2, v.val.cell? ⟨q, 1, none⟩ = some (.string y'.b) := fun v => v.cell PY.out.2.1
       have y2 : ∀ v : InW W2, v.val.cell? ⟨q, 2, none⟩ = some (.string y'.s) := fun v => v.cell PY.out.2.2.1
       have y3 : ∀ v : InW W2, v.val.cell? ⟨q, 3, none⟩ = some (.string y'.i) := fun v => v.cell PY.out.2.2.2.1
       have y4 : ∀ v : InW W2, v.val.cell? ⟨q, 4, none⟩ = some (.int .i64 y'.q) := fun v => v.cell PY.out.2.2.2.2.1
       have y5 : ∀ v : InW W2, v.val.cell? ⟨q, 5, none⟩ = some (.int .i64 y'.p) := fun v => v.cell PY.out.2.2.2.2.2
       have z0 : ∀ v : InW W2, v.val.cell? ⟨r, 0, none⟩ = some (.int .i64 z'.n) := fun v => v.cell PZ.out.1
       have z1 : ∀ v : InW W2, v.val.cell? ⟨r, 1, none⟩ = some (.string z'.b) := fun v => v.cell PZ.out.2.1
       have z2 : ∀ v : InW W2, v.val.cell? ⟨r, 2, none⟩ = some (.string z'.s) := fun v => v.cell PZ.out.2.2.1
       have z3 : ∀ v : InW W2, v.val.cell? ⟨r, 3, none⟩ = some (.string z'.i) := fun v => v.cell PZ.out.2.2.2.1
       have z4 : ∀ v : InW W2, v.val.cell? ⟨r, 4, none⟩ = some (.int .i64 z'.q) := fun v => v.cell PZ.out.2.2.2.2.1
       have z5 : ∀ v : InW W2, v.val.cell? ⟨r, 5, none⟩ = some (.int .i64 z'.p) := fun v => v.cell PZ.out.2.2.2.2.2
       have htl : c1 ≤ 0 → c2 ≤ 0 → c3 ≤ 0 := fun a b => htr.le a b
       have HW2 := Lib.hid (block_kept HIV.out.1 HWR.out)
       clear h1 h2 h3' h4 htr hdc hrg PX PY PZ hk2
       have fin : ∀ v : InW W2, Hid (Arr3 w v.val B x y z) := fun v => ⟨block_kept HW2.out v.bel, HBE.out.trans ((HWR.out.trans (v.bel.mono HWR.out.size)).mono HBE.out.size)⟩
       have s1 : (c1 != c1) = false := by simp
       have s2 : ((0 : Int) != 0) = false := by decide
       by_cases e1 : c1 ≤ 0
       · by_cases e2 : c2 ≤ 0
         · have e3 := htl e1 e2
           have g3 : decide (0 < c3) = false := decide_eq_false (by omega)
           have g1 : decide (c1 ≤ 0) = true := decide_eq_true e1
           have g2 : decide (c2 ≤ 0) = true := decide_eq_true e2
           clear htl
           refine wp_region_below (W := W2) (by kernel_rfl) (by kernel_rfl) (Below.refl _ _) ?_
           repeat (go_big_quiet_step ((first | (go_at_call 13; (with_reducible exact CXY.out _)) | (go_at_call 13; (with_reducible exact CYZ.out _)) | (go_at_call 13; (with_reducible exact CXZ.out _)) | (go_at_call 13; (with_reducible exact CXX.out _)) | (go_at_call 13; (with_reducible exact CYX.out _)))))
           refine wpQuiet_nil ?_
           rintro _ ⟨v, rfl⟩
           clear x0 x1 x2 x3 x4 x5 y0 y1 y2 y3 y4 y5 z0 z1 z2 z3 z4 z5
           have FIN := fin v
           go_wp2
           go_roundg (3 - (i + 1))
           case measure => omega
           case rel => exact ⟨i + 1, rfl, by omega, by go_num, FIN.out⟩
         · have g1 : decide (c1 ≤ 0) = true := decide_eq_true e1
           have g2 : decide (c2 ≤ 0) = false := decide_eq_false e2
           clear htl
           refine wp_region_below (W := W2) (by kernel_rfl) (by kernel_rfl) (Below.refl _ _) ?_
           repeat (go_big_quiet_step ((first | (go_at_call 13; (with_reducible exact CXY.out _)) | (go_at_call 13; (with_reducible exact CYZ.out _)) | (go_at_call 13; (with_reducible exact CXZ.out _)) | (go_at_call 13; (with_reducible exact CXX.out _)) | (go_at_call 13; (with_reducible exact CYX.out _)))))
           refine wpQuiet_nil ?_
           rintro _ ⟨v, rfl⟩
           clear x0 x1 x2 x3 x4 x5 y0 y1 y2 y3 y4 y5 z0 z1 z2 z3 z4 z5
           have FIN := fin v
           go_wp2
           go_roundg (3 - (i + 1))
           case measure => omega
           case rel => exact ⟨i + 1, rfl, by omega, by go_num, FIN.out⟩
       · have g1 : decide (c1 ≤ 0) = false := decide_eq_false e1
         clear htl
         refine wp_region_below (W := W2) (by kernel_rfl) (by kernel_rfl) (Below.refl _ _) ?_
         repeat (go_big_quiet_step ((first | (go_at_call 13; (with_reducible exact CXY.out _)) | (go_at_call 13; (with_reducible exact CYZ.out _)) | (go_at_call 13; (with_reducible exact CXZ.out _)) | (go_at_call 13; (with_reducible exact CXX.out _)) | (go_at_call 13; (with_reducible exact CYX.out _)))))
         refine wpQuiet_nil ?_
         rintro _ ⟨v, rfl⟩
         clear x0 x1 x2 x3 x4 x5 y0 y1 y2 y3 y4 y5 z0 z1 z2 z3 z4 z5
         have FIN := fin v
         go_wp2
         go_roundg (3 - (i + 1))
         case measure => omega
         case rel => exact ⟨i + 1, rfl, by omega, by go_num, FIN.out⟩
    · obtain rfl : i = 3 := by omega
      have hm2 : wr.cell? ⟨0, 0, none⟩ = some (.int .i64 m) := (hinv.out.2.cell (World.block_lt_of_cell? _ _ HM.out)).trans HM.out
      have HKN := Lib.hid (known_any wr m hm2)
      clear hm2 hinv hk h3
      go_wp2_with (go_at_call 10; (with_reducible refine HKN.out.mono ?_); rintro e w9 ⟨rfl, hb⟩; have HB9 := Lib.hid (HBE.out.trans (hb.mono HBE.out.size)); clear hb)
      go_ret
      exact ⟨rfl, HB9.out⟩
end Go.Proofs.YtkoihpfgleboiaaDoor.Td
