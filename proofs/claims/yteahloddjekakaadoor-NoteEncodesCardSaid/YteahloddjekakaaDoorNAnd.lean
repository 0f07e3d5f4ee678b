/-
  The contract of parts' and. Conditions: parts of a kind.
-/
import Derived.Test.YteahloddjekakaaDoorNEqu
import Derived.Test.YteahloddjekakaaDoorNM5
namespace Go.Proofs.YteahloddjekakaaDoor.Nt
open Go.RowKit Td

/-- The trade of no parts. -/
def zT : Tr := ⟨0, { data := #[] }, { data := #[] }, { data := #[] }, 0, 0⟩
/-- What a note has. -/
def hasT (x : Nt) : Bool := !eqT x.t zT
def hasC (x : Nt) : Bool := !((x.hi == 0) && ((x.lo == 0) && true))
theorem or_no {q b : Bool} (h : q = (false || b)) : b = q := by rw [h]; rfl
theorem or_yes {q b : Bool} (h : q = (true || b)) : q = true := h
theorem st7_alloc (W : World) {c : Nat} (hc : c = W.heap.size) (y0 y1 y2 y3 y4 y5 y6 x0 x1 x2 x3 x4 x5 x6 : Value) (t : TypeId) :
    (((((((W.alloc (.cells #[y0, y1, y2, y3, y4, y5, y6] t)).setCell ⟨c, 0, none⟩ x0).setCell ⟨c, 1, none⟩ x1).setCell ⟨c, 2, none⟩ x2).setCell ⟨c, 3, none⟩ x3).setCell ⟨c, 4, none⟩ x4).setCell ⟨c, 5, none⟩ x5).setCell ⟨c, 6, none⟩ x6 = W.alloc (.cells #[x0, x1, x2, x3, x4, x5, x6] t) := by
  subst hc
  simp only [World.setCell_alloc_at, List.setIfInBounds_toArray, List.set_cons_succ, List.set_cons_zero]
theorem below7 {B : Nat} {W w : World} {b : Nat} (h : Below B W w) (hB : B ≤ b) (x0 x1 x2 x3 x4 x5 x6 : Value) :
    Below B W (((((((w.setCell ⟨b, 0, none⟩ x0).setCell ⟨b, 1, none⟩ x1).setCell ⟨b, 2, none⟩ x2).setCell ⟨b, 3, none⟩ x3).setCell ⟨b, 4, none⟩ x4).setCell ⟨b, 5, none⟩ x5).setCell ⟨b, 6, none⟩ x6) :=
  ((((((h.setCell (p := ⟨b, 0, none⟩) hB x0).setCell (p := ⟨b, 1, none⟩) hB x1).setCell (p := ⟨b, 2, none⟩) hB x2).setCell (p := ⟨b, 3, none⟩) hB x3).setCell (p := ⟨b, 4, none⟩) hB x4).setCell (p := ⟨b, 5, none⟩) hB x5).setCell (p := ⟨b, 6, none⟩) hB x6
/-- A second class: a world below, in which the last block is as it was laid. -/
theorem InW.bl {W : World} (p : InW W) {b : Nat} {o : Obj} (h : W.heap[b]? = some o) : p.val.heap[b]? = some o := block_kept h p.bel
set_option maxRecDepth 100000 in
set_option maxHeartbeats 4000000 in
theorem and_t (w : World) (x : Nt) (A : Option Addr) (n c : Nat) (q0 q1 q3 q4 q5 q6 : Bool) (e0 : (x.p != 0) = q0) (e1 : (x.d != 0) = q1) (e3 : (!x.n.toList.isEmpty) = q3) (e4 : (x.a != 0) = q4) (e5 : decide (0 < n) = q5) (e6 : (∀ W, (Op.equalIn 10000 31 (.agg #[.int .i64 x.hi, .int .u64 x.lo]) (.agg #[.int .i64 0, .int .u64 0])).run Tryd.prog W = .ok (!q6) W)) :
    Calls Tryd.prog 26 #[.agg #[.bool false, .bool false, .bool true, .bool false, .bool false, .bool false, .bool false], .agg #[.int .i64 x.k, .int .i64 x.p, .int .i64 x.d, .int .i64 x.t.n, .string x.t.b, .string x.t.s, .string x.t.i, .int .i64 x.t.q, .int .i64 x.t.p, .string x.n, .int .i64 x.a, .slice A n c, .int .i64 x.hi, .int .u64 x.lo]] w fun e w' => e = .returned (.agg #[.bool q0, .bool q1, .bool true, .bool q3, .bool q4, .bool q5, .bool q6]) ∧ Below w.heap.size w w' := by
  have E0 := two_new2 w (.cells #[.bool false, .bool false, .bool true, .bool false, .bool false, .bool false, .bool false] 62) (.cells #[.int .i64 x.k, .int .i64 x.p, .int .i64 x.d, .int .i64 x.t.n, .string x.t.b, .string x.t.s, .string x.t.i, .int .i64 x.t.q, .int .i64 x.t.p, .string x.n, .int .i64 x.a, .slice A n c, .int .i64 x.hi, .int .u64 x.lo] 33)
  have E1 : Below w.heap.size w (((w.alloc (.cells #[.bool false, .bool false, .bool true, .bool false, .bool false, .bool false, .bool false] 62)).alloc (.cells #[.int .i64 x.k, .int .i64 x.p, .int .i64 x.d, .int .i64 x.t.n, .string x.t.b, .string x.t.s, .string x.t.i, .int .i64 x.t.q, .int .i64 x.t.p, .string x.n, .int .i64 x.a, .slice A n c, .int .i64 x.hi, .int .u64 x.lo] 33)).alloc (.cells #[.bool false, .bool false, .bool false, .bool false, .bool false, .bool false, .bool false] 62)) := E0.2.2.alloc E0.2.2.size _
  have E2 := block_old E0.1 (.cells #[.bool false, .bool false, .bool false, .bool false, .bool false, .bool false, .bool false] 62)
  have E3 := block_old E0.2.1 (.cells #[.bool false, .bool false, .bool false, .bool false, .bool false, .bool false, .bool false] 62)
  have E4 := block_new ((w.alloc (.cells #[.bool false, .bool false, .bool true, .bool false, .bool false, .bool false, .bool false] 62)).alloc (.cells #[.int .i64 x.k, .int .i64 x.p, .int .i64 x.d, .int .i64 x.t.n, .string x.t.b, .string x.t.s, .string x.t.i, .int .i64 x.t.q, .int .i64 x.t.p, .string x.n, .int .i64 x.a, .slice A n c, .int .i64 x.hi, .int .u64 x.lo] 33)) (.cells #[.bool false, .bool false, .bool false, .bool false, .bool false, .bool false, .bool false] 62)
  have hsz : ((w.alloc (.cells #[.bool false, .bool false, .bool true, .bool false, .bool false, .bool false, .bool false] 62)).alloc (.cells #[.int .i64 x.k, .int .i64 x.p, .int .i64 x.d, .int .i64 x.t.n, .string x.t.b, .string x.t.s, .string x.t.i, .int .i64 x.t.q, .int .i64 x.t.p, .string x.n, .int .i64 x.a, .slice A n c, .int .i64 x.hi, .int .u64 x.lo] 33)).heap.size = w.heap.size + 2 := by simp
  rw [hsz] at E4
  clear hsz E0
  go_enter Tryd.func26, Tryd.ntmps26
  go_upto_region 1 with fail
  generalize ((w.alloc _).alloc _).alloc _ = W0 at E1 E2 E3 E4 ⊢
  have Y := blk7 E2
  have X := blk14 E3
  have y0 : ∀ p : InW W0, p.val.cell? ⟨w.heap.size, 0, none⟩ = some (.bool false) := fun p => p.cell Y.1
  have y1 : ∀ p : InW W0, p.val.cell? ⟨w.heap.size, 1, none⟩ = some (.bool false) := fun p => p.cell Y.2.1
  have y2 : ∀ p : InW W0, p.val.cell? ⟨w.heap.size, 2, none⟩ = some (.bool true) := fun p => p.cell Y.2.2.1
  have y3 : ∀ p : InW W0, p.val.cell? ⟨w.heap.size, 3, none⟩ = some (.bool false) := fun p => p.cell Y.2.2.2.1
  have y4 : ∀ p : InW W0, p.val.cell? ⟨w.heap.size, 4, none⟩ = some (.bool false) := fun p => p.cell Y.2.2.2.2.1
  have y5 : ∀ p : InW W0, p.val.cell? ⟨w.heap.size, 5, none⟩ = some (.bool false) := fun p => p.cell Y.2.2.2.2.2.1
  have y6 : ∀ p : InW W0, p.val.cell? ⟨w.heap.size, 6, none⟩ = some (.bool false) := fun p => p.cell Y.2.2.2.2.2.2
  have x0 : ∀ p : InW W0, p.val.cell? ⟨w.heap.size + 1, 0, none⟩ = some (.int .i64 x.k) := fun p => p.cell X.1.1
  have x1 : ∀ p : InW W0, p.val.cell? ⟨w.heap.size + 1, 1, none⟩ = some (.int .i64 x.p) := fun p => p.cell X.1.2.1
  have x2 : ∀ p : InW W0, p.val.cell? ⟨w.heap.size + 1, 2, none⟩ = some (.int .i64 x.d) := fun p => p.cell X.1.2.2.1
  have x3 : ∀ p : InW W0, p.val.cell? ⟨w.heap.size + 1, 3, none⟩ = some (.int .i64 x.t.n) := fun p => p.cell X.1.2.2.2.1
  have x4 : ∀ p : InW W0, p.val.cell? ⟨w.heap.size + 1, 4, none⟩ = some (.string x.t.b) := fun p => p.cell X.1.2.2.2.2.1
  have x5 : ∀ p : InW W0, p.val.cell? ⟨w.heap.size + 1, 5, none⟩ = some (.string x.t.s) := fun p => p.cell X.1.2.2.2.2.2.1
  have x6 : ∀ p : InW W0, p.val.cell? ⟨w.heap.size + 1, 6, none⟩ = some (.string x.t.i) := fun p => p.cell X.1.2.2.2.2.2.2
  have x7 : ∀ p : InW W0, p.val.cell? ⟨w.heap.size + 1, 7, none⟩ = some (.int .i64 x.t.q) := fun p => p.cell X.2.1
  have x8 : ∀ p : InW W0, p.val.cell? ⟨w.heap.size + 1, 8, none⟩ = some (.int .i64 x.t.p) := fun p => p.cell X.2.2.1
  have x9 : ∀ p : InW W0, p.val.cell? ⟨w.heap.size + 1, 9, none⟩ = some (.string x.n) := fun p => p.cell X.2.2.2.1
  have x10 : ∀ p : InW W0, p.val.cell? ⟨w.heap.size + 1, 10, none⟩ = some (.int .i64 x.a) := fun p => p.cell X.2.2.2.2.1
  have x11 : ∀ p : InW W0, p.val.cell? ⟨w.heap.size + 1, 11, none⟩ = some (.slice A n c) := fun p => p.cell X.2.2.2.2.2.1
  have x12 : ∀ p : InW W0, p.val.cell? ⟨w.heap.size + 1, 12, none⟩ = some (.int .i64 x.hi) := fun p => p.cell X.2.2.2.2.2.2.1
  have x13 : ∀ p : InW W0, p.val.cell? ⟨w.heap.size + 1, 13, none⟩ = some (.int .u64 x.lo) := fun p => p.cell X.2.2.2.2.2.2.2
  have HE4 := Lib.hid E4
  have HE1 := Lib.hid E1
  clear X Y E1 E2 E3 E4
  refine wp_region_quiet_tail (C := fun w' => ∃ p : InW W0, w' = p.val) 53 (by kernel_rfl) (by kernel_rfl) (by kernel_rfl) ⟨⟨W0.drew, (Below.refl _ _).drew⟩, rfl⟩ ?_
  simp only [List.take_succ_cons, List.take_zero, List.drop_succ_cons, List.drop_zero]
  repeat (go_big_quiet_step (fail))
  refine wpQuiet_nil ?_
  rintro _ ⟨⟨wq, hbq⟩, rfl⟩
  clear y0 y1 y2 y3 y4 y5 y6 x0 x1 x2 x3 x4 x5 x6 x7 x8 x9 x10 x11 x12 x13
  have hfz := fro14 (block_kept HE4.out hbq)
  obtain ⟨r0, r1, r2, r3, r4, r5, r6⟩ := blk7 (block_kept HE4.out hbq)
  go_wp2
  refine bodyPost_ret (v := .agg #[.bool q0, .bool q1, .bool true, .bool q3, .bool q4, .bool q5, .bool q6]) (by simp [results, Tryd.results26, go_sem, r0, r1, r2, r3, r4, r5, r6]) rfl ⟨rfl, below7 (HE1.out.trans (hbq.mono HE1.out.size)) (by omega) _ _ _ _ _ _ _⟩
set_option maxRecDepth 100000 in
set_option maxHeartbeats 4000000 in
theorem and_none (w : World) (x : Nt) (A : Option Addr) (n c : Nat) (q0 q1 q2 q3 q4 q5 q6 : Bool) (e0 : (x.p != 0) = q0) (e1 : (x.d != 0) = q1) (e2 : (∀ W, (Op.equalIn 10000 28 (.agg #[.int .i64 x.t.n, .string x.t.b, .string x.t.s, .string x.t.i, .int .i64 x.t.q, .int .i64 x.t.p]) (.agg #[.int .i64 0, .string { data := #[] }, .string { data := #[] }, .string { data := #[] }, .int .i64 0, .int .i64 0])).run Tryd.prog W = .ok (!q2) W)) (e3 : (!x.n.toList.isEmpty) = q3) (e4 : (x.a != 0) = q4) (e5 : decide (0 < n) = q5) (e6 : (∀ W, (Op.equalIn 10000 31 (.agg #[.int .i64 x.hi, .int .u64 x.lo]) (.agg #[.int .i64 0, .int .u64 0])).run Tryd.prog W = .ok (!q6) W)) :
    Calls Tryd.prog 26 #[.agg #[.bool false, .bool false, .bool false, .bool false, .bool false, .bool false, .bool false], .agg #[.int .i64 x.k, .int .i64 x.p, .int .i64 x.d, .int .i64 x.t.n, .string x.t.b, .string x.t.s, .string x.t.i, .int .i64 x.t.q, .int .i64 x.t.p, .string x.n, .int .i64 x.a, .slice A n c, .int .i64 x.hi, .int .u64 x.lo]] w fun e w' => e = .returned (.agg #[.bool q0, .bool q1, .bool q2, .bool q3, .bool q4, .bool q5, .bool q6]) ∧ Below w.heap.size w w' := by
  have E0 := two_new2 w (.cells #[.bool false, .bool false, .bool false, .bool false, .bool false, .bool false, .bool false] 62) (.cells #[.int .i64 x.k, .int .i64 x.p, .int .i64 x.d, .int .i64 x.t.n, .string x.t.b, .string x.t.s, .string x.t.i, .int .i64 x.t.q, .int .i64 x.t.p, .string x.n, .int .i64 x.a, .slice A n c, .int .i64 x.hi, .int .u64 x.lo] 33)
  have E1 : Below w.heap.size w (((w.alloc (.cells #[.bool false, .bool false, .bool false, .bool false, .bool false, .bool false, .bool false] 62)).alloc (.cells #[.int .i64 x.k, .int .i64 x.p, .int .i64 x.d, .int .i64 x.t.n, .string x.t.b, .string x.t.s, .string x.t.i, .int .i64 x.t.q, .int .i64 x.t.p, .string x.n, .int .i64 x.a, .slice A n c, .int .i64 x.hi, .int .u64 x.lo] 33)).alloc (.cells #[.bool false, .bool false, .bool false, .bool false, .bool false, .bool false, .bool false] 62)) := E0.2.2.alloc E0.2.2.size _
  have E2 := block_old E0.1 (.cells #[.bool false, .bool false, .bool false, .bool false, .bool false, .bool false, .bool false] 62)
  have E3 := block_old E0.2.1 (.cells #[.bool false, .bool false, .bool false, .bool false, .bool false, .bool false, .bool false] 62)
  have E4 := block_new ((w.alloc (.cells #[.bool false, .bool false, .bool false, .bool false, .bool false, .bool false, .bool false] 62)).alloc (.cells #[.int .i64 x.k, .int .i64 x.p, .int .i64 x.d, .int .i64 x.t.n, .string x.t.b, .string x.t.s, .string x.t.i, .int .i64 x.t.q, .int .i64 x.t.p, .string x.n, .int .i64 x.a, .slice A n c, .int .i64 x.hi, .int .u64 x.lo] 33)) (.cells #[.bool false, .bool false, .bool false, .bool false, .bool false, .bool false, .bool false] 62)
  have hsz : ((w.alloc (.cells #[.bool false, .bool false, .bool false, .bool false, .bool false, .bool false, .bool false] 62)).alloc (.cells #[.int .i64 x.k, .int .i64 x.p, .int .i64 x.d, .int .i64 x.t.n, .string x.t.b, .string x.t.s, .string x.t.i, .int .i64 x.t.q, .int .i64 x.t.p, .string x.n, .int .i64 x.a, .slice A n c, .int .i64 x.hi, .int .u64 x.lo] 33)).heap.size = w.heap.size + 2 := by simp
  rw [hsz] at E4
  clear hsz E0
  go_enter Tryd.func26, Tryd.ntmps26
  go_upto_region 1 with fail
  generalize ((w.alloc _).alloc _).alloc _ = W0 at E1 E2 E3 E4 ⊢
  have Y := blk7 E2
  have X := blk14 E3
  have y0 : ∀ p : InW W0, p.val.cell? ⟨w.heap.size, 0, none⟩ = some (.bool false) := fun p => p.cell Y.1
  have y1 : ∀ p : InW W0, p.val.cell? ⟨w.heap.size, 1, none⟩ = some (.bool false) := fun p => p.cell Y.2.1
  have y2 : ∀ p : InW W0, p.val.cell? ⟨w.heap.size, 2, none⟩ = some (.bool false) := fun p => p.cell Y.2.2.1
  have y3 : ∀ p : InW W0, p.val.cell? ⟨w.heap.size, 3, none⟩ = some (.bool false) := fun p => p.cell Y.2.2.2.1
  have y4 : ∀ p : InW W0, p.val.cell? ⟨w.heap.size, 4, none⟩ = some (.bool false) := fun p => p.cell Y.2.2.2.2.1
  have y5 : ∀ p : InW W0, p.val.cell? ⟨w.heap.size, 5, none⟩ = some (.bool false) := fun p => p.cell Y.2.2.2.2.2.1
  have y6 : ∀ p : InW W0, p.val.cell? ⟨w.heap.size, 6, none⟩ = some (.bool false) := fun p => p.cell Y.2.2.2.2.2.2
  have x0 : ∀ p : InW W0, p.val.cell? ⟨w.heap.size + 1, 0, none⟩ = some (.int .i64 x.k) := fun p => p.cell X.1.1
  have x1 : ∀ p : InW W0, p.val.cell? ⟨w.heap.size + 1, 1, none⟩ = some (.int .i64 x.p) := fun p => p.cell X.1.2.1
  have x2 : ∀ p : InW W0, p.val.cell? ⟨w.heap.size + 1, 2, none⟩ = some (.int .i64 x.d) := fun p => p.cell X.1.2.2.1
  have x3 : ∀ p : InW W0, p.val.cell? ⟨w.heap.size + 1, 3, none⟩ = some (.int .i64 x.t.n) := fun p => p.cell X.1.2.2.2.1
  have x4 : ∀ p : InW W0, p.val.cell? ⟨w.heap.size + 1, 4, none⟩ = some (.string x.t.b) := fun p => p.cell X.1.2.2.2.2.1
  have x5 : ∀ p : InW W0, p.val.cell? ⟨w.heap.size + 1, 5, none⟩ = some (.string x.t.s) := fun p => p.cell X.1.2.2.2.2.2.1
  have x6 : ∀ p : InW W0, p.val.cell? ⟨w.heap.size + 1, 6, none⟩ = some (.string x.t.i) := fun p => p.cell X.1.2.2.2.2.2.2
  have x7 : ∀ p : InW W0, p.val.cell? ⟨w.heap.size + 1, 7, none⟩ = some (.int .i64 x.t.q) := fun p => p.cell X.2.1
  have x8 : ∀ p : InW W0, p.val.cell? ⟨w.heap.size + 1, 8, none⟩ = some (.int .i64 x.t.p) := fun p => p.cell X.2.2.1
  have x9 : ∀ p : InW W0, p.val.cell? ⟨w.heap.size + 1, 9, none⟩ = some (.string x.n) := fun p => p.cell X.2.2.2.1
  have x10 : ∀ p : InW W0, p.val.cell? ⟨w.heap.size + 1, 10, none⟩ = some (.int .i64 x.a) := fun p => p.cell X.2.2.2.2.1
  have x11 : ∀ p : InW W0, p.val.cell? ⟨w.heap.size + 1, 11, none⟩ = some (.slice A n c) := fun p => p.cell X.2.2.2.2.2.1
  have x12 : ∀ p : InW W0, p.val.cell? ⟨w.heap.size + 1, 12, none⟩ = some (.int .i64 x.hi) := fun p => p.cell X.2.2.2.2.2.2.1
  have x13 : ∀ p : InW W0, p.val.cell? ⟨w.heap.size + 1, 13, none⟩ = some (.int .u64 x.lo) := fun p => p.cell X.2.2.2.2.2.2.2
  have HE4 := Lib.hid E4
  have HE1 := Lib.hid E1
  clear X Y E1 E2 E3 E4
  refine wp_region_quiet_tail (C := fun w' => ∃ p : InW W0, w' = p.val) 53 (by kernel_rfl) (by kernel_rfl) (by kernel_rfl) ⟨⟨W0.drew, (Below.refl _ _).drew⟩, rfl⟩ ?_
  simp only [List.take_succ_cons, List.take_zero, List.drop_succ_cons, List.drop_zero]
  repeat (go_big_quiet_step (fail))
  refine wpQuiet_nil ?_
  rintro _ ⟨⟨wq, hbq⟩, rfl⟩
  clear y0 y1 y2 y3 y4 y5 y6 x0 x1 x2 x3 x4 x5 x6 x7 x8 x9 x10 x11 x12 x13
  have hfz := fro14 (block_kept HE4.out hbq)
  obtain ⟨r0, r1, r2, r3, r4, r5, r6⟩ := blk7 (block_kept HE4.out hbq)
  go_wp2
  refine bodyPost_ret (v := .agg #[.bool q0, .bool q1, .bool q2, .bool q3, .bool q4, .bool q5, .bool q6]) (by simp [results, Tryd.results26, go_sem, r0, r1, r2, r3, r4, r5, r6]) rfl ⟨rfl, below7 (HE1.out.trans (hbq.mono HE1.out.size)) (by omega) _ _ _ _ _ _ _⟩
set_option maxRecDepth 100000 in
set_option maxHeartbeats 4000000 in
theorem and_na (w : World) (x : Nt) (A : Option Addr) (n c : Nat) (q0 q1 q2 q5 q6 : Bool) (e0 : (x.p != 0) = q0) (e1 : (x.d != 0) = q1) (e2 : (∀ W, (Op.equalIn 10000 28 (.agg #[.int .i64 x.t.n, .string x.t.b, .string x.t.s, .string x.t.i, .int .i64 x.t.q, .int .i64 x.t.p]) (.agg #[.int .i64 0, .string { data := #[] }, .string { data := #[] }, .string { data := #[] }, .int .i64 0, .int .i64 0])).run Tryd.prog W = .ok (!q2) W)) (e5 : decide (0 < n) = q5) (e6 : (∀ W, (Op.equalIn 10000 31 (.agg #[.int .i64 x.hi, .int .u64 x.lo]) (.agg #[.int .i64 0, .int .u64 0])).run Tryd.prog W = .ok (!q6) W)) :
    Calls Tryd.prog 26 #[.agg #[.bool false, .bool false, .bool false, .bool true, .bool true, .bool false, .bool false], .agg #[.int .i64 x.k, .int .i64 x.p, .int .i64 x.d, .int .i64 x.t.n, .string x.t.b, .string x.t.s, .string x.t.i, .int .i64 x.t.q, .int .i64 x.t.p, .string x.n, .int .i64 x.a, .slice A n c, .int .i64 x.hi, .int .u64 x.lo]] w fun e w' => e = .returned (.agg #[.bool q0, .bool q1, .bool q2, .bool true, .bool true, .bool q5, .bool q6]) ∧ Below w.heap.size w w' := by
  have E0 := two_new2 w (.cells #[.bool false, .bool false, .bool false, .bool true, .bool true, .bool false, .bool false] 62) (.cells #[.int .i64 x.k, .int .i64 x.p, .int .i64 x.d, .int .i64 x.t.n, .string x.t.b, .string x.t.s, .string x.t.i, .int .i64 x.t.q, .int .i64 x.t.p, .string x.n, .int .i64 x.a, .slice A n c, .int .i64 x.hi, .int .u64 x.lo] 33)
  have E1 : Below w.heap.size w (((w.alloc (.cells #[.bool false, .bool false, .bool false, .bool true, .bool true, .bool false, .bool false] 62)).alloc (.cells #[.int .i64 x.k, .int .i64 x.p, .int .i64 x.d, .int .i64 x.t.n, .string x.t.b, .string x.t.s, .string x.t.i, .int .i64 x.t.q, .int .i64 x.t.p, .string x.n, .int .i64 x.a, .slice A n c, .int .i64 x.hi, .int .u64 x.lo] 33)).alloc (.cells #[.bool false, .bool false, .bool false, .bool false, .bool false, .bool false, .bool false] 62)) := E0.2.2.alloc E0.2.2.size _
  have E2 := block_old E0.1 (.cells #[.bool false, .bool false, .bool false, .bool false, .bool false, .bool false, .bool false] 62)
  have E3 := block_old E0.2.1 (.cells #[.bool false, .bool false, .bool false, .bool false, .bool false, .bool false, .bool false] 62)
  have E4 := block_new ((w.alloc (.cells #[.bool false, .bool false, .bool false, .bool true, .bool true, .bool false, .bool false] 62)).alloc (.cells #[.int .i64 x.k, .int .i64 x.p, .int .i64 x.d, .int .i64 x.t.n, .string x.t.b, .string x.t.s, .string x.t.i, .int .i64 x.t.q, .int .i64 x.t.p, .string x.n, .int .i64 x.a, .slice A n c, .int .i64 x.hi, .int .u64 x.lo] 33)) (.cells #[.bool false, .bool false, .bool false, .bool false, .bool false, .bool false, .bool false] 62)
  have hsz : ((w.alloc (.cells #[.bool false, .bool false, .bool false, .bool true, .bool true, .bool false, .bool false] 62)).alloc (.cells #[.int .i64 x.k, .int .i64 x.p, .int .i64 x.d, .int .i64 x.t.n, .string x.t.b, .string x.t.s, .string x.t.i, .int .i64 x.t.q, .int .i64 x.t.p, .string x.n, .int .i64 x.a, .slice A n c, .int .i64 x.hi, .int .u64 x.lo] 33)).heap.size = w.heap.size + 2 := by simp
  rw [hsz] at E4
  clear hsz E0
  go_enter Tryd.func26, Tryd.ntmps26
  go_upto_region 1 with fail
  generalize ((w.alloc _).alloc _).alloc _ = W0 at E1 E2 E3 E4 ⊢
  have Y := blk7 E2
  have X := blk14 E3
  have y0 : ∀ p : InW W0, p.val.cell? ⟨w.heap.size, 0, none⟩ = some (.bool false) := fun p => p.cell Y.1
  have y1 : ∀ p : InW W0, p.val.cell? ⟨w.heap.size, 1, none⟩ = some (.bool false) := fun p => p.cell Y.2.1
  have y2 : ∀ p : InW W0, p.val.cell? ⟨w.heap.size, 2, none⟩ = some (.bool false) := fun p => p.cell Y.2.2.1
  have y3 : ∀ p : InW W0, p.val.cell? ⟨w.heap.size, 3, none⟩ = some (.bool true) := fun p => p.cell Y.2.2.2.1
  have y4 : ∀ p : InW W0, p.val.cell? ⟨w.heap.size, 4, none⟩ = some (.bool true) := fun p => p.cell Y.2.2.2.2.1
  have y5 : ∀ p : InW W0, p.val.cell? ⟨w.heap.size, 5, none⟩ = some (.bool false) := fun p => p.cell Y.2.2.2.2.2.1
  have y6 : ∀ p : InW W0, p.val.cell? ⟨w.heap.size, 6, none⟩ = some (.bool false) := fun p => p.cell Y.2.2.2.2.2.2
  have x0 : ∀ p : InW W0, p.val.cell? ⟨w.heap.size + 1, 0, none⟩ = some (.int .i64 x.k) := fun p => p.cell X.1.1
  have x1 : ∀ p : InW W0, p.val.cell? ⟨w.heap.size + 1, 1, none⟩ = some (.int .i64 x.p) := fun p => p.cell X.1.2.1
  have x2 : ∀ p : InW W0, p.val.cell? ⟨w.heap.size + 1, 2, none⟩ = some (.int .i64 x.d) := fun p => p.cell X.1.2.2.1
  have x3 : ∀ p : InW W0, p.val.cell? ⟨w.heap.size + 1, 3, none⟩ = some (.int .i64 x.t.n) := fun p => p.cell X.1.2.2.2.1
  have x4 : ∀ p : InW W0, p.val.cell? ⟨w.heap.size + 1, 4, none⟩ = some (.string x.t.b) := fun p => p.cell X.1.2.2.2.2.1
  have x5 : ∀ p : InW W0, p.val.cell? ⟨w.heap.size + 1, 5, none⟩ = some (.string x.t.s) := fun p => p.cell X.1.2.2.2.2.2.1
  have x6 : ∀ p : InW W0, p.val.cell? ⟨w.heap.size + 1, 6, none⟩ = some (.string x.t.i) := fun p => p.cell X.1.2.2.2.2.2.2
  have x7 : ∀ p : InW W0, p.val.cell? ⟨w.heap.size + 1, 7, none⟩ = some (.int .i64 x.t.q) := fun p => p.cell X.2.1
  have x8 : ∀ p : InW W0, p.val.cell? ⟨w.heap.size + 1, 8, none⟩ = some (.int .i64 x.t.p) := fun p => p.cell X.2.2.1
  have x9 : ∀ p : InW W0, p.val.cell? ⟨w.heap.size + 1, 9, none⟩ = some (.string x.n) := fun p => p.cell X.2.2.2.1
  have x10 : ∀ p : InW W0, p.val.cell? ⟨w.heap.size + 1, 10, none⟩ = some (.int .i64 x.a) := fun p => p.cell X.2.2.2.2.1
  have x11 : ∀ p : InW W0, p.val.cell? ⟨w.heap.size + 1, 11, none⟩ = some (.slice A n c) := fun p => p.cell X.2.2.2.2.2.1
  have x12 : ∀ p : InW W0, p.val.cell? ⟨w.heap.size + 1, 12, none⟩ = some (.int .i64 x.hi) := fun p => p.cell X.2.2.2.2.2.2.1
  have x13 : ∀ p : InW W0, p.val.cell? ⟨w.heap.size + 1, 13, none⟩ = some (.int .u64 x.lo) := fun p => p.cell X.2.2.2.2.2.2.2
  have HE4 := Lib.hid E4
  have HE1 := Lib.hid E1
  clear X Y E1 E2 E3 E4
  refine wp_region_quiet_tail (C := fun w' => ∃ p : InW W0, w' = p.val) 53 (by kernel_rfl) (by kernel_rfl) (by kernel_rfl) ⟨⟨W0.drew, (Below.refl _ _).drew⟩, rfl⟩ ?_
  simp only [List.take_succ_cons, List.take_zero, List.drop_succ_cons, List.drop_zero]
  repeat (go_big_quiet_step (fail))
  refine wpQuiet_nil ?_
  rintro _ ⟨⟨wq, hbq⟩, rfl⟩
  clear y0 y1 y2 y3 y4 y5 y6 x0 x1 x2 x3 x4 x5 x6 x7 x8 x9 x10 x11 x12 x13
  have hfz := fro14 (block_kept HE4.out hbq)
  obtain ⟨r0, r1, r2, r3, r4, r5, r6⟩ := blk7 (block_kept HE4.out hbq)
  go_wp2
  refine bodyPost_ret (v := .agg #[.bool q0, .bool q1, .bool q2, .bool true, .bool true, .bool q5, .bool q6]) (by simp [results, Tryd.results26, go_sem, r0, r1, r2, r3, r4, r5, r6]) rfl ⟨rfl, below7 (HE1.out.trans (hbq.mono HE1.out.size)) (by omega) _ _ _ _ _ _ _⟩
set_option maxRecDepth 100000 in
set_option maxHeartbeats 4000000 in
theorem and_d (w : World) (x : Nt) (A : Option Addr) (n c : Nat) (q0 q2 q3 q4 q5 q6 : Bool) (e0 : (x.p != 0) = q0) (e2 : (∀ W, (Op.equalIn 10000 28 (.agg #[.int .i64 x.t.n, .string x.t.b, .string x.t.s, .string x.t.i, .int .i64 x.t.q, .int .i64 x.t.p]) (.agg #[.int .i64 0, .string { data := #[] }, .string { data := #[] }, .string { data := #[] }, .int .i64 0, .int .i64 0])).run Tryd.prog W = .ok (!q2) W)) (e3 : (!x.n.toList.isEmpty) = q3) (e4 : (x.a != 0) = q4) (e5 : decide (0 < n) = q5) (e6 : (∀ W, (Op.equalIn 10000 31 (.agg #[.int .i64 x.hi, .int .u64 x.lo]) (.agg #[.int .i64 0, .int .u64 0])).run Tryd.prog W = .ok (!q6) W)) :
    Calls Tryd.prog 26 #[.agg #[.bool false, .bool true, .bool false, .bool false, .bool false, .bool false, .bool false], .agg #[.int .i64 x.k, .int .i64 x.p, .int .i64 x.d, .int .i64 x.t.n, .string x.t.b, .string x.t.s, .string x.t.i, .int .i64 x.t.q, .int .i64 x.t.p, .string x.n, .int .i64 x.a, .slice A n c, .int .i64 x.hi, .int .u64 x.lo]] w fun e w' => e = .returned (.agg #[.bool q0, .bool true, .bool q2, .bool q3, .bool q4, .bool q5, .bool q6]) ∧ Below w.heap.size w w' := by
  have E0 := two_new2 w (.cells #[.bool false, .bool true, .bool false, .bool false, .bool false, .bool false, .bool false] 62) (.cells #[.int .i64 x.k, .int .i64 x.p, .int .i64 x.d, .int .i64 x.t.n, .string x.t.b, .string x.t.s, .string x.t.i, .int .i64 x.t.q, .int .i64 x.t.p, .string x.n, .int .i64 x.a, .slice A n c, .int .i64 x.hi, .int .u64 x.lo] 33)
  have E1 : Below w.heap.size w (((w.alloc (.cells #[.bool false, .bool true, .bool false, .bool false, .bool false, .bool false, .bool false] 62)).alloc (.cells #[.int .i64 x.k, .int .i64 x.p, .int .i64 x.d, .int .i64 x.t.n, .string x.t.b, .string x.t.s, .string x.t.i, .int .i64 x.t.q, .int .i64 x.t.p, .string x.n, .int .i64 x.a, .slice A n c, .int .i64 x.hi, .int .u64 x.lo] 33)).alloc (.cells #[.bool false, .bool false, .bool false, .bool false, .bool false, .bool false, .bool false] 62)) := E0.2.2.alloc E0.2.2.size _
  have E2 := block_old E0.1 (.cells #[.bool false, .bool false, .bool false, .bool false, .bool false, .bool false, .bool false] 62)
  have E3 := block_old E0.2.1 (.cells #[.bool false, .bool false, .bool false, .bool false, .bool false, .bool false, .bool false] 62)
  have E4 := block_new ((w.alloc (.cells #[.bool false, .bool true, .bool false, .bool false, .bool false, .bool false, .bool false] 62)).alloc (.cells #[.int .i64 x.k, .int .i64 x.p, .int .i64 x.d, .int .i64 x.t.n, .string x.t.b, .string x.t.s, .string x.t.i, .int .i64 x.t.q, .int .i64 x.t.p, .string x.n, .int .i64 x.a, .slice A n c, .int .i64 x.hi, .int .u64 x.lo] 33)) (.cells #[.bool false, .bool false, .bool false, .bool false, .bool false, .bool false, .bool false] 62)
  have hsz : ((w.alloc (.cells #[.bool false, .bool true, .bool false, .bool false, .bool false, .bool false, .bool false] 62)).alloc (.cells #[.int .i64 x.k, .int .i64 x.p, .int .i64 x.d, .int .i64 x.t.n, .string x.t.b, .string x.t.s, .string x.t.i, .int .i64 x.t.q, .int .i64 x.t.p, .string x.n, .int .i64 x.a, .slice A n c, .int .i64 x.hi, .int .u64 x.lo] 33)).heap.size = w.heap.size + 2 := by simp
  rw [hsz] at E4
  clear hsz E0
  go_enter Tryd.func26, Tryd.ntmps26
  go_upto_region 1 with fail
  generalize ((w.alloc _).alloc _).alloc _ = W0 at E1 E2 E3 E4 ⊢
  have Y := blk7 E2
  have X := blk14 E3
  have y0 : ∀ p : InW W0, p.val.cell? ⟨w.heap.size, 0, none⟩ = some (.bool false) := fun p => p.cell Y.1
  have y1 : ∀ p : InW W0, p.val.cell? ⟨w.heap.size, 1, none⟩ = some (.bool true) := fun p => p.cell Y.2.1
  have y2 : ∀ p : InW W0, p.val.cell? ⟨w.heap.size, 2, none⟩ = some (.bool false) := fun p => p.cell Y.2.2.1
  have y3 : ∀ p : InW W0, p.val.cell? ⟨w.heap.size, 3, none⟩ = some (.bool false) := fun p => p.cell Y.2.2.2.1
  have y4 : ∀ p : InW W0, p.val.cell? ⟨w.heap.size, 4, none⟩ = some (.bool false) := fun p => p.cell Y.2.2.2.2.1
  have y5 : ∀ p : InW W0, p.val.cell? ⟨w.heap.size, 5, none⟩ = some (.bool false) := fun p => p.cell Y.2.2.2.2.2.1
  have y6 : ∀ p : InW W0, p.val.cell? ⟨w.heap.size, 6, none⟩ = some (.bool false) := fun p => p.cell Y.2.2.2.2.2.2
  have x0 : ∀ p : InW W0, p.val.cell? ⟨w.heap.size + 1, 0, none⟩ = some (.int .i64 x.k) := fun p => p.cell X.1.1
  have x1 : ∀ p : InW W0, p.val.cell? ⟨w.heap.size + 1, 1, none⟩ = some (.int .i64 x.p) := fun p => p.cell X.1.2.1
  have x2 : ∀ p : InW W0, p.val.cell? ⟨w.heap.size + 1, 2, none⟩ = some (.int .i64 x.d) := fun p => p.cell X.1.2.2.1
  have x3 : ∀ p : InW W0, p.val.cell? ⟨w.heap.size + 1, 3, none⟩ = some (.int .i64 x.t.n) := fun p => p.cell X.1.2.2.2.1
  have x4 : ∀ p : InW W0, p.val.cell? ⟨w.heap.size + 1, 4, none⟩ = some (.string x.t.b) := fun p => p.cell X.1.2.2.2.2.1
  have x5 : ∀ p : InW W0, p.val.cell? ⟨w.heap.size + 1, 5, none⟩ = some (.string x.t.s) := fun p => p.cell X.1.2.2.2.2.2.1
  have x6 : ∀ p : InW W0, p.val.cell? ⟨w.heap.size + 1, 6, none⟩ = some (.string x.t.i) := fun p => p.cell X.1.2.2.2.2.2.2
  have x7 : ∀ p : InW W0, p.val.cell? ⟨w.heap.size + 1, 7, none⟩ = some (.int .i64 x.t.q) := fun p => p.cell X.2.1
  have x8 : ∀ p : InW W0, p.val.cell? ⟨w.heap.size + 1, 8, none⟩ = some (.int .i64 x.t.p) := fun p => p.cell X.2.2.1
  have x9 : ∀ p : InW W0, p.val.cell? ⟨w.heap.size + 1, 9, none⟩ = some (.string x.n) := fun p => p.cell X.2.2.2.1
  have x10 : ∀ p : InW W0, p.val.cell? ⟨w.heap.size + 1, 10, none⟩ = some (.int .i64 x.a) := fun p => p.cell X.2.2.2.2.1
  have x11 : ∀ p : InW W0, p.val.cell? ⟨w.heap.size + 1, 11, none⟩ = some (.slice A n c) := fun p => p.cell X.2.2.2.2.2.1
  have x12 : ∀ p : InW W0, p.val.cell? ⟨w.heap.size + 1, 12, none⟩ = some (.int .i64 x.hi) := fun p => p.cell X.2.2.2.2.2.2.1
  have x13 : ∀ p : InW W0, p.val.cell? ⟨w.heap.size + 1, 13, none⟩ = some (.int .u64 x.lo) := fun p => p.cell X.2.2.2.2.2.2.2
  have HE4 := Lib.hid E4
  have HE1 := Lib.hid E1
  clear X Y E1 E2 E3 E4
  refine wp_region_quiet_tail (C := fun w' => ∃ p : InW W0, w' = p.val) 53 (by kernel_rfl) (by kernel_rfl) (by kernel_rfl) ⟨⟨W0.drew, (Below.refl _ _).drew⟩, rfl⟩ ?_
  simp only [List.take_succ_cons, List.take_zero, List.drop_succ_cons, List.drop_zero]
  repeat (go_big_quiet_step (fail))
  refine wpQuiet_nil ?_
  rintro _ ⟨⟨wq, hbq⟩, rfl⟩
  clear y0 y1 y2 y3 y4 y5 y6 x0 x1 x2 x3 x4 x5 x6 x7 x8 x9 x10 x11 x12 x13
  have hfz := fro14 (block_kept HE4.out hbq)
  obtain ⟨r0, r1, r2, r3, r4, r5, r6⟩ := blk7 (block_kept HE4.out hbq)
  go_wp2
  refine bodyPost_ret (v := .agg #[.bool q0, .bool true, .bool q2, .bool q3, .bool q4, .bool q5, .bool q6]) (by simp [results, Tryd.results26, go_sem, r0, r1, r2, r3, r4, r5, r6]) rfl ⟨rfl, below7 (HE1.out.trans (hbq.mono HE1.out.size)) (by omega) _ _ _ _ _ _ _⟩
set_option maxRecDepth 100000 in
set_option maxHeartbeats 4000000 in
theorem and_n (w : World) (x : Nt) (A : Option Addr) (n c : Nat) (q0 q1 q2 q4 q5 q6 : Bool) (e0 : (x.p != 0) = q0) (e1 : (x.d != 0) = q1) (e2 : (∀ W, (Op.equalIn 10000 28 (.agg #[.int .i64 x.t.n, .string x.t.b, .string x.t.s, .string x.t.i, .int .i64 x.t.q, .int .i64 x.t.p]) (.agg #[.int .i64 0, .string { data := #[] }, .string { data := #[] }, .string { data := #[] }, .int .i64 0, .int .i64 0])).run Tryd.prog W = .ok (!q2) W)) (e4 : (x.a != 0) = q4) (e5 : decide (0 < n) = q5) (e6 : (∀ W, (Op.equalIn 10000 31 (.agg #[.int .i64 x.hi, .int .u64 x.lo]) (.agg #[.int .i64 0, .int .u64 0])).run Tryd.prog W = .ok (!q6) W)) :
    Calls Tryd.prog 26 #[.agg #[.bool false, .bool false, .bool false, .bool true, .bool false, .bool false, .bool false], .agg #[.int .i64 x.k, .int .i64 x.p, .int .i64 x.d, .int .i64 x.t.n, .string x.t.b, .string x.t.s, .string x.t.i, .int .i64 x.t.q, .int .i64 x.t.p, .string x.n, .int .i64 x.a, .slice A n c, .int .i64 x.hi, .int .u64 x.lo]] w fun e w' => e = .returned (.agg #[.bool q0, .bool q1, .bool q2, .bool true, .bool q4, .bool q5, .bool q6]) ∧ Below w.heap.size w w' := by
  have E0 := two_new2 w (.cells #[.bool false, .bool false, .bool false, .bool true, .bool false, .bool false, .bool false] 62) (.cells #[.int .i64 x.k, .int .i64 x.p, .int .i64 x.d, .int .i64 x.t.n, .string x.t.b, .string x.t.s, .string x.t.i, .int .i64 x.t.q, .int .i64 x.t.p, .string x.n, .int .i64 x.a, .slice A n c, .int .i64 x.hi, .int .u64 x.lo] 33)
  have E1 : Below w.heap.size w (((w.alloc (.cells #[.bool false, .bool false, .bool false, .bool true, .bool false, .bool false, .bool false] 62)).alloc (.cells #[.int .i64 x.k, .int .i64 x.p, .int .i64 x.d, .int .i64 x.t.n, .string x.t.b, .string x.t.s, .string x.t.i, .int .i64 x.t.q, .int .i64 x.t.p, .string x.n, .int .i64 x.a, .slice A n c, .int .i64 x.hi, .int .u64 x.lo] 33)).alloc (.cells #[.bool false, .bool false, .bool false, .bool false, .bool false, .bool false, .bool false] 62)) := E0.2.2.alloc E0.2.2.size _
  have E2 := block_old E0.1 (.cells #[.bool false, .bool false, .bool false, .bool false, .bool false, .bool false, .bool false] 62)
  have E3 := block_old E0.2.1 (.cells #[.bool false, .bool false, .bool false, .bool false, .bool false, .bool false, .bool false] 62)
  have E4 := block_new ((w.alloc (.cells #[.bool false, .bool false, .bool false, .bool true, .bool false, .bool false, .bool false] 62)).alloc (.cells #[.int .i64 x.k, .int .i64 x.p, .int .i64 x.d, .int .i64 x.t.n, .string x.t.b, .string x.t.s, .string x.t.i, .int .i64 x.t.q, .int .i64 x.t.p, .string x.n, .int .i64 x.a, .slice A n c, .int .i64 x.hi, .int .u64 x.lo] 33)) (.cells #[.bool false, .bool false, .bool false, .bool false, .bool false, .bool false, .bool false] 62)
  have hsz : ((w.alloc (.cells #[.bool false, .bool false, .bool false, .bool true, .bool false, .bool false, .bool false] 62)).alloc (.cells #[.int .i64 x.k, .int .i64 x.p, .int .i64 x.d, .int .i64 x.t.n, .string x.t.b, .string x.t.s, .string x.t.i, .int .i64 x.t.q, .int .i64 x.t.p, .string x.n, .int .i64 x.a, .slice A n c, .int .i64 x.hi, .int .u64 x.lo] 33)).heap.size = w.heap.size + 2 := by simp
  rw [hsz] at E4
  clear hsz E0
  go_enter Tryd.func26, Tryd.ntmps26
  go_upto_region 1 with fail
  generalize ((w.alloc _).alloc _).alloc _ = W0 at E1 E2 E3 E4 ⊢
  have Y := blk7 E2
  have X := blk14 E3
  have y0 : ∀ p : InW W0, p.val.cell? ⟨w.heap.size, 0, none⟩ = some (.bool false) := fun p => p.cell Y.1
  have y1 : ∀ p : InW W0, p.val.cell? ⟨w.heap.size, 1, none⟩ = some (.bool false) := fun p => p.cell Y.2.1
  have y2 : ∀ p : InW W0, p.val.cell? ⟨w.heap.size, 2, none⟩ = some (.bool false) := fun p => p.cell Y.2.2.1
  have y3 : ∀ p : InW W0, p.val.cell? ⟨w.heap.size, 3, none⟩ = some (.bool true) := fun p => p.cell Y.2.2.2.1
  have y4 : ∀ p : InW W0, p.val.cell? ⟨w.heap.size, 4, none⟩ = some (.bool false) := fun p => p.cell Y.2.2.2.2.1
  have y5 : ∀ p : InW W0, p.val.cell? ⟨w.heap.size, 5, none⟩ = some (.bool false) := fun p => p.cell Y.2.2.2.2.2.1
  have y6 : ∀ p : InW W0, p.val.cell? ⟨w.heap.size, 6, none⟩ = some (.bool false) := fun p => p.cell Y.2.2.2.2.2.2
  have x0 : ∀ p : InW W0, p.val.cell? ⟨w.heap.size + 1, 0, none⟩ = some (.int .i64 x.k) := fun p => p.cell X.1.1
  have x1 : ∀ p : InW W0, p.val.cell? ⟨w.heap.size + 1, 1, none⟩ = some (.int .i64 x.p) := fun p => p.cell X.1.2.1
  have x2 : ∀ p : InW W0, p.val.cell? ⟨w.heap.size + 1, 2, none⟩ = some (.int .i64 x.d) := fun p => p.cell X.1.2.2.1
  have x3 : ∀ p : InW W0, p.val.cell? ⟨w.heap.size + 1, 3, none⟩ = some (.int .i64 x.t.n) := fun p => p.cell X.1.2.2.2.1
  have x4 : ∀ p : InW W0, p.val.cell? ⟨w.heap.size + 1, 4, none⟩ = some (.string x.t.b) := fun p => p.cell X.1.2.2.2.2.1
  have x5 : ∀ p : InW W0, p.val.cell? ⟨w.heap.size + 1, 5, none⟩ = some (.string x.t.s) := fun p => p.cell X.1.2.2.2.2.2.1
  have x6 : ∀ p : InW W0, p.val.cell? ⟨w.heap.size + 1, 6, none⟩ = some (.string x.t.i) := fun p => p.cell X.1.2.2.2.2.2.2
  have x7 : ∀ p : InW W0, p.val.cell? ⟨w.heap.size + 1, 7, none⟩ = some (.int .i64 x.t.q) := fun p => p.cell X.2.1
  have x8 : ∀ p : InW W0, p.val.cell? ⟨w.heap.size + 1, 8, none⟩ = some (.int .i64 x.t.p) := fun p => p.cell X.2.2.1
  have x9 : ∀ p : InW W0, p.val.cell? ⟨w.heap.size + 1, 9, none⟩ = some (.string x.n) := fun p => p.cell X.2.2.2.1
  have x10 : ∀ p : InW W0, p.val.cell? ⟨w.heap.size + 1, 10, none⟩ = some (.int .i64 x.a) := fun p => p.cell X.2.2.2.2.1
  have x11 : ∀ p : InW W0, p.val.cell? ⟨w.heap.size + 1, 11, none⟩ = some (.slice A n c) := fun p => p.cell X.2.2.2.2.2.1
  have x12 : ∀ p : InW W0, p.val.cell? ⟨w.heap.size + 1, 12, none⟩ = some (.int .i64 x.hi) := fun p => p.cell X.2.2.2.2.2.2.1
  have x13 : ∀ p : InW W0, p.val.cell? ⟨w.heap.size + 1, 13, none⟩ = some (.int .u64 x.lo) := fun p => p.cell X.2.2.2.2.2.2.2
  have HE4 := Lib.hid E4
  have HE1 := Lib.hid E1
  clear X Y E1 E2 E3 E4
  refine wp_region_quiet_tail (C := fun w' => ∃ p : InW W0, w' = p.val) 53 (by kernel_rfl) (by kernel_rfl) (by kernel_rfl) ⟨⟨W0.drew, (Below.refl _ _).drew⟩, rfl⟩ ?_
  simp only [List.take_succ_cons, List.take_zero, List.drop_succ_cons, List.drop_zero]
  repeat (go_big_quiet_step (fail))
  refine wpQuiet_nil ?_
  rintro _ ⟨⟨wq, hbq⟩, rfl⟩
  clear y0 y1 y2 y3 y4 y5 y6 x0 x1 x2 x3 x4 x5 x6 x7 x8 x9 x10 x11 x12 x13
  have hfz := fro14 (block_kept HE4.out hbq)
  obtain ⟨r0, r1, r2, r3, r4, r5, r6⟩ := blk7 (block_kept HE4.out hbq)
  go_wp2
  refine bodyPost_ret (v := .agg #[.bool q0, .bool q1, .bool q2, .bool true, .bool q4, .bool q5, .bool q6]) (by simp [results, Tryd.results26, go_sem, r0, r1, r2, r3, r4, r5, r6]) rfl ⟨rfl, below7 (HE1.out.trans (hbq.mono HE1.out.size)) (by omega) _ _ _ _ _ _ _⟩
set_option maxRecDepth 100000 in
set_option maxHeartbeats 4000000 in
theorem and_p (w : World) (x : Nt) (A : Option Addr) (n c : Nat) (q1 q2 q3 q4 q5 q6 : Bool) (e1 : (x.d != 0) = q1) (e2 : (∀ W, (Op.equalIn 10000 28 (.agg #[.int .i64 x.t.n, .string x.t.b, .string x.t.s, .string x.t.i, .int .i64 x.t.q, .int .i64 x.t.p]) (.agg #[.int .i64 0, .string { data := #[] }, .string { data := #[] }, .string { data := #[] }, .int .i64 0, .int .i64 0])).run Tryd.prog W = .ok (!q2) W)) (e3 : (!x.n.toList.isEmpty) = q3) (e4 : (x.a != 0) = q4) (e5 : decide (0 < n) = q5) (e6 : (∀ W, (Op.equalIn 10000 31 (.agg #[.int .i64 x.hi, .int .u64 x.lo]) (.agg #[.int .i64 0, .int .u64 0])).run Tryd.prog W = .ok (!q6) W)) :
    Calls Tryd.prog 26 #[.agg #[.bool true, .bool false, .bool false, .bool false, .bool false, .bool false, .bool false], .agg #[.int .i64 x.k, .int .i64 x.p, .int .i64 x.d, .int .i64 x.t.n, .string x.t.b, .string x.t.s, .string x.t.i, .int .i64 x.t.q, .int .i64 x.t.p, .string x.n, .int .i64 x.a, .slice A n c, .int .i64 x.hi, .int .u64 x.lo]] w fun e w' => e = .returned (.agg #[.bool true, .bool q1, .bool q2, .bool q3, .bool q4, .bool q5, .bool q6]) ∧ Below w.heap.size w w' := by
  have E0 := two_new2 w (.cells #[.bool true, .bool false, .bool false, .bool false, .bool false, .bool false, .bool false] 62) (.cells #[.int .i64 x.k, .int .i64 x.p, .int .i64 x.d, .int .i64 x.t.n, .string x.t.b, .string x.t.s, .string x.t.i, .int .i64 x.t.q, .int .i64 x.t.p, .string x.n, .int .i64 x.a, .slice A n c, .int .i64 x.hi, .int .u64 x.lo] 33)
  have E1 : Below w.heap.size w (((w.alloc (.cells #[.bool true, .bool false, .bool false, .bool false, .bool false, .bool false, .bool false] 62)).alloc (.cells #[.int .i64 x.k, .int .i64 x.p, .int .i64 x.d, .int .i64 x.t.n, .string x.t.b, .string x.t.s, .string x.t.i, .int .i64 x.t.q, .int .i64 x.t.p, .string x.n, .int .i64 x.a, .slice A n c, .int .i64 x.hi, .int .u64 x.lo] 33)).alloc (.cells #[.bool false, .bool false, .bool false, .bool false, .bool false, .bool false, .bool false] 62)) := E0.2.2.alloc E0.2.2.size _
  have E2 := block_old E0.1 (.cells #[.bool false, .bool false, .bool false, .bool false, .bool false, .bool false, .bool false] 62)
  have E3 := block_old E0.2.1 (.cells #[.bool false, .bool false, .bool false, .bool false, .bool false, .bool false, .bool false] 62)
  have E4 := block_new ((w.alloc (.cells #[.bool true, .bool false, .bool false, .bool false, .bool false, .bool false, .bool false] 62)).alloc (.cells #[.int .i64 x.k, .int .i64 x.p, .int .i64 x.d, .int .i64 x.t.n, .string x.t.b, .string x.t.s, .string x.t.i, .int .i64 x.t.q, .int .i64 x.t.p, .string x.n, .int .i64 x.a, .slice A n c, .int .i64 x.hi, .int .u64 x.lo] 33)) (.cells #[.bool false, .bool false, .bool false, .bool false, .bool false, .bool false, .bool false] 62)
  have hsz : ((w.alloc (.cells #[.bool true, .bool false, .bool false, .bool false, .bool false, .bool false, .bool false] 62)).alloc (.cells #[.int .i64 x.k, .int .i64 x.p, .int .i64 x.d, .int .i64 x.t.n, .string x.t.b, .string x.t.s, .string x.t.i, .int .i64 x.t.q, .int .i64 x.t.p, .string x.n, .int .i64 x.a, .slice A n c, .int .i64 x.hi, .int .u64 x.lo] 33)).heap.size = w.heap.size + 2 := by simp
  rw [hsz] at E4
  clear hsz E0
  go_enter Tryd.func26, Tryd.ntmps26
  go_upto_region 1 with fail
  generalize ((w.alloc _).alloc _).alloc _ = W0 at E1 E2 E3 E4 ⊢
  have Y := blk7 E2
  have X := blk14 E3
  have y0 : ∀ p : InW W0, p.val.cell? ⟨w.heap.size, 0, none⟩ = some (.bool true) := fun p => p.cell Y.1
  have y1 : ∀ p : InW W0, p.val.cell? ⟨w.heap.size, 1, none⟩ = some (.bool false) := fun p => p.cell Y.2.1
  have y2 : ∀ p : InW W0, p.val.cell? ⟨w.heap.size, 2, none⟩ = some (.bool false) := fun p => p.cell Y.2.2.1
  have y3 : ∀ p : InW W0, p.val.cell? ⟨w.heap.size, 3, none⟩ = some (.bool false) := fun p => p.cell Y.2.2.2.1
  have y4 : ∀ p : InW W0, p.val.cell? ⟨w.heap.size, 4, none⟩ = some (.bool false) := fun p => p.cell Y.2.2.2.2.1
  have y5 : ∀ p : InW W0, p.val.cell? ⟨w.heap.size, 5, none⟩ = some (.bool false) := fun p => p.cell Y.2.2.2.2.2.1
  have y6 : ∀ p : InW W0, p.val.cell? ⟨w.heap.size, 6, none⟩ = some (.bool false) := fun p => p.cell Y.2.2.2.2.2.2
  have x0 : ∀ p : InW W0, p.val.cell? ⟨w.heap.size + 1, 0, none⟩ = some (.int .i64 x.k) := fun p => p.cell X.1.1
  have x1 : ∀ p : InW W0, p.val.cell? ⟨w.heap.size + 1, 1, none⟩ = some (.int .i64 x.p) := fun p => p.cell X.1.2.1
  have x2 : ∀ p : InW W0, p.val.cell? ⟨w.heap.size + 1, 2, none⟩ = some (.int .i64 x.d) := fun p => p.cell X.1.2.2.1
  have x3 : ∀ p : InW W0, p.val.cell? ⟨w.heap.size + 1, 3, none⟩ = some (.int .i64 x.t.n) := fun p => p.cell X.1.2.2.2.1
  have x4 : ∀ p : InW W0, p.val.cell? ⟨w.heap.size + 1, 4, none⟩ = some (.string x.t.b) := fun p => p.cell X.1.2.2.2.2.1
  have x5 : ∀ p : InW W0, p.val.cell? ⟨w.heap.size + 1, 5, none⟩ = some (.string x.t.s) := fun p => p.cell X.1.2.2.2.2.2.1
  have x6 : ∀ p : InW W0, p.val.cell? ⟨w.heap.size + 1, 6, none⟩ = some (.string x.t.i) := fun p => p.cell X.1.2.2.2.2.2.2
  have x7 : ∀ p : InW W0, p.val.cell? ⟨w.heap.size + 1, 7, none⟩ = some (.int .i64 x.t.q) := fun p => p.cell X.2.1
  have x8 : ∀ p : InW W0, p.val.cell? ⟨w.heap.size + 1, 8, none⟩ = some (.int .i64 x.t.p) := fun p => p.cell X.2.2.1
  have x9 : ∀ p : InW W0, p.val.cell? ⟨w.heap.size + 1, 9, none⟩ = some (.string x.n) := fun p => p.cell X.2.2.2.1
  have x10 : ∀ p : InW W0, p.val.cell? ⟨w.heap.size + 1, 10, none⟩ = some (.int .i64 x.a) := fun p => p.cell X.2.2.2.2.1
  have x11 : ∀ p : InW W0, p.val.cell? ⟨w.heap.size + 1, 11, none⟩ = some (.slice A n c) := fun p => p.cell X.2.2.2.2.2.1
  have x12 : ∀ p : InW W0, p.val.cell? ⟨w.heap.size + 1, 12, none⟩ = some (.int .i64 x.hi) := fun p => p.cell X.2.2.2.2.2.2.1
  have x13 : ∀ p : InW W0, p.val.cell? ⟨w.heap.size + 1, 13, none⟩ = some (.int .u64 x.lo) := fun p => p.cell X.2.2.2.2.2.2.2
  have HE4 := Lib.hid E4
  have HE1 := Lib.hid E1
  clear X Y E1 E2 E3 E4
  refine wp_region_quiet_tail (C := fun w' => ∃ p : InW W0, w' = p.val) 53 (by kernel_rfl) (by kernel_rfl) (by kernel_rfl) ⟨⟨W0.drew, (Below.refl _ _).drew⟩, rfl⟩ ?_
  simp only [List.take_succ_cons, List.take_zero, List.drop_succ_cons, List.drop_zero]
  repeat (go_big_quiet_step (fail))
  refine wpQuiet_nil ?_
  rintro _ ⟨⟨wq, hbq⟩, rfl⟩
  clear y0 y1 y2 y3 y4 y5 y6 x0 x1 x2 x3 x4 x5 x6 x7 x8 x9 x10 x11 x12 x13
  have hfz := fro14 (block_kept HE4.out hbq)
  obtain ⟨r0, r1, r2, r3, r4, r5, r6⟩ := blk7 (block_kept HE4.out hbq)
  go_wp2
  refine bodyPost_ret (v := .agg #[.bool true, .bool q1, .bool q2, .bool q3, .bool q4, .bool q5, .bool q6]) (by simp [results, Tryd.results26, go_sem, r0, r1, r2, r3, r4, r5, r6]) rfl ⟨rfl, below7 (HE1.out.trans (hbq.mono HE1.out.size)) (by omega) _ _ _ _ _ _ _⟩
set_option maxRecDepth 100000 in
set_option maxHeartbeats 4000000 in
theorem and_pdt (w : World) (x : Nt) (A : Option Addr) (n c : Nat) (q3 q4 q5 q6 : Bool) (e3 : (!x.n.toList.isEmpty) = q3) (e4 : (x.a != 0) = q4) (e5 : decide (0 < n) = q5) (e6 : (∀ W, (Op.equalIn 10000 31 (.agg #[.int .i64 x.hi, .int .u64 x.lo]) (.agg #[.int .i64 0, .int .u64 0])).run Tryd.prog W = .ok (!q6) W)) :
    Calls Tryd.prog 26 #[.agg #[.bool true, .bool true, .bool true, .bool false, .bool false, .bool false, .bool false], .agg #[.int .i64 x.k, .int .i64 x.p, .int .i64 x.d, .int .i64 x.t.n, .string x.t.b, .string x.t.s, .string x.t.i, .int .i64 x.t.q, .int .i64 x.t.p, .string x.n, .int .i64 x.a, .slice A n c, .int .i64 x.hi, .int .u64 x.lo]] w fun e w' => e = .returned (.agg #[.bool true, .bool true, .bool true, .bool q3, .bool q4, .bool q5, .bool q6]) ∧ Below w.heap.size w w' := by
  have E0 := two_new2 w (.cells #[.bool true, .bool true, .bool true, .bool false, .bool false, .bool false, .bool false] 62) (.cells #[.int .i64 x.k, .int .i64 x.p, .int .i64 x.d, .int .i64 x.t.n, .string x.t.b, .string x.t.s, .string x.t.i, .int .i64 x.t.q, .int .i64 x.t.p, .string x.n, .int .i64 x.a, .slice A n c, .int .i64 x.hi, .int .u64 x.lo] 33)
  have E1 : Below w.heap.size w (((w.alloc (.cells #[.bool true, .bool true, .bool true, .bool false, .bool false, .bool false, .bool false] 62)).alloc (.cells #[.int .i64 x.k, .int .i64 x.p, .int .i64 x.d, .int .i64 x.t.n, .string x.t.b, .string x.t.s, .string x.t.i, .int .i64 x.t.q, .int .i64 x.t.p, .string x.n, .int .i64 x.a, .slice A n c, .int .i64 x.hi, .int .u64 x.lo] 33)).alloc (.cells #[.bool false, .bool false, .bool false, .bool false, .bool false, .bool false, .bool false] 62)) := E0.2.2.alloc E0.2.2.size _
  have E2 := block_old E0.1 (.cells #[.bool false, .bool false, .bool false, .bool false, .bool false, .bool false, .bool false] 62)
  have E3 := block_old E0.2.1 (.cells #[.bool false, .bool false, .bool false, .bool false, .bool false, .bool false, .bool false] 62)
  have E4 := block_new ((w.alloc (.cells #[.bool true, .bool true, .bool true, .bool false, .bool false, .bool false, .bool false] 62)).alloc (.cells #[.int .i64 x.k, .int .i64 x.p, .int .i64 x.d, .int .i64 x.t.n, .string x.t.b, .string x.t.s, .string x.t.i, .int .i64 x.t.q, .int .i64 x.t.p, .string x.n, .int .i64 x.a, .slice A n c, .int .i64 x.hi, .int .u64 x.lo] 33)) (.cells #[.bool false, .bool false, .bool false, .bool false, .bool false, .bool false, .bool false] 62)
  have hsz : ((w.alloc (.cells #[.bool true, .bool true, .bool true, .bool false, .bool false, .bool false, .bool false] 62)).alloc (.cells #[.int .i64 x.k, .int .i64 x.p, .int .i64 x.d, .int .i64 x.t.n, .string x.t.b, .string x.t.s, .string x.t.i, .int .i64 x.t.q, .int .i64 x.t.p, .string x.n, .int .i64 x.a, .slice A n c, .int .i64 x.hi, .int .u64 x.lo] 33)).heap.size = w.heap.size + 2 := by simp
  rw [hsz] at E4
  clear hsz E0
  go_enter Tryd.func26, Tryd.ntmps26
  go_upto_region 1 with fail
  generalize ((w.alloc _).alloc _).alloc _ = W0 at E1 E2 E3 E4 ⊢
  have Y := blk7 E2
  have X := blk14 E3
  have y0 : ∀ p : InW W0, p.val.cell? ⟨w.heap.size, 0, none⟩ = some (.bool true) := fun p => p.cell Y.1
  have y1 : ∀ p : InW W0, p.val.cell? ⟨w.heap.size, 1, none⟩ = some (.bool true) := fun p => p.cell Y.2.1
  have y2 : ∀ p : InW W0, p.val.cell? ⟨w.heap.size, 2, none⟩ = some (.bool true) := fun p => p.cell Y.2.2.1
  have y3 : ∀ p : InW W0, p.val.cell? ⟨w.heap.size, 3, none⟩ = some (.bool false) := fun p => p.cell Y.2.2.2.1
  have y4 : ∀ p : InW W0, p.val.cell? ⟨w.heap.size, 4, none⟩ = some (.bool false) := fun p => p.cell Y.2.2.2.2.1
  have y5 : ∀ p : InW W0, p.val.cell? ⟨w.heap.size, 5, none⟩ = some (.bool false) := fun p => p.cell Y.2.2.2.2.2.1
  have y6 : ∀ p : InW W0, p.val.cell? ⟨w.heap.size, 6, none⟩ = some (.bool false) := fun p => p.cell Y.2.2.2.2.2.2
  have x0 : ∀ p : InW W0, p.val.cell? ⟨w.heap.size + 1, 0, none⟩ = some (.int .i64 x.k) := fun p => p.cell X.1.1
  have x1 : ∀ p : InW W0, p.val.cell? ⟨w.heap.size + 1, 1, none⟩ = some (.int .i64 x.p) := fun p => p.cell X.1.2.1
  have x2 : ∀ p : InW W0, p.val.cell? ⟨w.heap.size + 1, 2, none⟩ = some (.int .i64 x.d) := fun p => p.cell X.1.2.2.1
  have x3 : ∀ p : InW W0, p.val.cell? ⟨w.heap.size + 1, 3, none⟩ = some (.int .i64 x.t.n) := fun p => p.cell X.1.2.2.2.1
  have x4 : ∀ p : InW W0, p.val.cell? ⟨w.heap.size + 1, 4, none⟩ = some (.string x.t.b) := fun p => p.cell X.1.2.2.2.2.1
  have x5 : ∀ p : InW W0, p.val.cell? ⟨w.heap.size + 1, 5, none⟩ = some (.string x.t.s) := fun p => p.cell X.1.2.2.2.2.2.1
  have x6 : ∀ p : InW W0, p.val.cell? ⟨w.heap.size + 1, 6, none⟩ = some (.string x.t.i) := fun p => p.cell X.1.2.2.2.2.2.2
  have x7 : ∀ p : InW W0, p.val.cell? ⟨w.heap.size + 1, 7, none⟩ = some (.int .i64 x.t.q) := fun p => p.cell X.2.1
  have x8 : ∀ p : InW W0, p.val.cell? ⟨w.heap.size + 1, 8, none⟩ = some (.int .i64 x.t.p) := fun p => p.cell X.2.2.1
  have x9 : ∀ p : InW W0, p.val.cell? ⟨w.heap.size + 1, 9, none⟩ = some (.string x.n) := fun p => p.cell X.2.2.2.1
  have x10 : ∀ p : InW W0, p.val.cell? ⟨w.heap.size + 1, 10, none⟩ = some (.int .i64 x.a) := fun p => p.cell X.2.2.2.2.1
  have x11 : ∀ p : InW W0, p.val.cell? ⟨w.heap.size + 1, 11, none⟩ = some (.slice A n c) := fun p => p.cell X.2.2.2.2.2.1
  have x12 : ∀ p : InW W0, p.val.cell? ⟨w.heap.size + 1, 12, none⟩ = some (.int .i64 x.hi) := fun p => p.cell X.2.2.2.2.2.2.1
  have x13 : ∀ p : InW W0, p.val.cell? ⟨w.heap.size + 1, 13, none⟩ = some (.int .u64 x.lo) := fun p => p.cell X.2.2.2.2.2.2.2
  have HE4 := Lib.hid E4
  have HE1 := Lib.hid E1
  clear X Y E1 E2 E3 E4
  refine wp_region_quiet_tail (C := fun w' => ∃ p : InW W0, w' = p.val) 53 (by kernel_rfl) (by kernel_rfl) (by kernel_rfl) ⟨⟨W0.drew, (Below.refl _ _).drew⟩, rfl⟩ ?_
  simp only [List.take_succ_cons, List.take_zero, List.drop_succ_cons, List.drop_zero]
  repeat (go_big_quiet_step (fail))
  refine wpQuiet_nil ?_
  rintro _ ⟨⟨wq, hbq⟩, rfl⟩
  clear y0 y1 y2 y3 y4 y5 y6 x0 x1 x2 x3 x4 x5 x6 x7 x8 x9 x10 x11 x12 x13
  have hfz := fro14 (block_kept HE4.out hbq)
  obtain ⟨r0, r1, r2, r3, r4, r5, r6⟩ := blk7 (block_kept HE4.out hbq)
  go_wp2
  refine bodyPost_ret (v := .agg #[.bool true, .bool true, .bool true, .bool q3, .bool q4, .bool q5, .bool q6]) (by simp [results, Tryd.results26, go_sem, r0, r1, r2, r3, r4, r5, r6]) rfl ⟨rfl, below7 (HE1.out.trans (hbq.mono HE1.out.size)) (by omega) _ _ _ _ _ _ _⟩
set_option maxRecDepth 100000 in
set_option maxHeartbeats 4000000 in
theorem and_pdr (w : World) (x : Nt) (A : Option Addr) (n c : Nat) (q2 q3 q4 q6 : Bool) (e2 : (∀ W, (Op.equalIn 10000 28 (.agg #[.int .i64 x.t.n, .string x.t.b, .string x.t.s, .string x.t.i, .int .i64 x.t.q, .int .i64 x.t.p]) (.agg #[.int .i64 0, .string { data := #[] }, .string { data := #[] }, .string { data := #[] }, .int .i64 0, .int .i64 0])).run Tryd.prog W = .ok (!q2) W)) (e3 : (!x.n.toList.isEmpty) = q3) (e4 : (x.a != 0) = q4) (e6 : (∀ W, (Op.equalIn 10000 31 (.agg #[.int .i64 x.hi, .int .u64 x.lo]) (.agg #[.int .i64 0, .int .u64 0])).run Tryd.prog W = .ok (!q6) W)) :
    Calls Tryd.prog 26 #[.agg #[.bool true, .bool true, .bool false, .bool false, .bool false, .bool true, .bool false], .agg #[.int .i64 x.k, .int .i64 x.p, .int .i64 x.d, .int .i64 x.t.n, .string x.t.b, .string x.t.s, .string x.t.i, .int .i64 x.t.q, .int .i64 x.t.p, .string x.n, .int .i64 x.a, .slice A n c, .int .i64 x.hi, .int .u64 x.lo]] w fun e w' => e = .returned (.agg #[.bool true, .bool true, .bool q2, .bool q3, .bool q4, .bool true, .bool q6]) ∧ Below w.heap.size w w' := by
  have E0 := two_new2 w (.cells #[.bool true, .bool true, .bool false, .bool false, .bool false, .bool true, .bool false] 62) (.cells #[.int .i64 x.k, .int .i64 x.p, .int .i64 x.d, .int .i64 x.t.n, .string x.t.b, .string x.t.s, .string x.t.i, .int .i64 x.t.q, .int .i64 x.t.p, .string x.n, .int .i64 x.a, .slice A n c, .int .i64 x.hi, .int .u64 x.lo] 33)
  have E1 : Below w.heap.size w (((w.alloc (.cells #[.bool true, .bool true, .bool false, .bool false, .bool false, .bool true, .bool false] 62)).alloc (.cells #[.int .i64 x.k, .int .i64 x.p, .int .i64 x.d, .int .i64 x.t.n, .string x.t.b, .string x.t.s, .string x.t.i, .int .i64 x.t.q, .int .i64 x.t.p, .string x.n, .int .i64 x.a, .slice A n c, .int .i64 x.hi, .int .u64 x.lo] 33)).alloc (.cells #[.bool false, .bool false, .bool false, .bool false, .bool false, .bool false, .bool false] 62)) := E0.2.2.alloc E0.2.2.size _
  have E2 := block_old E0.1 (.cells #[.bool false, .bool false, .bool false, .bool false, .bool false, .bool false, .bool false] 62)
  have E3 := block_old E0.2.1 (.cells #[.bool false, .bool false, .bool false, .bool false, .bool false, .bool false, .bool false] 62)
  have E4 := block_new ((w.alloc (.cells #[.bool true, .bool true, .bool false, .bool false, .bool false, .bool true, .bool false] 62)).alloc (.cells #[.int .i64 x.k, .int .i64 x.p, .int .i64 x.d, .int .i64 x.t.n, .string x.t.b, .string x.t.s, .string x.t.i, .int .i64 x.t.q, .int .i64 x.t.p, .string x.n, .int .i64 x.a, .slice A n c, .int .i64 x.hi, .int .u64 x.lo] 33)) (.cells #[.bool false, .bool false, .bool false, .bool false, .bool false, .bool false, .bool false] 62)
  have hsz : ((w.alloc (.cells #[.bool true, .bool true, .bool false, .bool false, .bool false, .bool true, .bool false] 62)).alloc (.cells #[.int .i64 x.k, .int .i64 x.p, .int .i64 x.d, .int .i64 x.t.n, .string x.t.b, .string x.t.s, .string x.t.i, .int .i64 x.t.q, .int .i64 x.t.p, .string x.n, .int .i64 x.a, .slice A n c, .int .i64 x.hi, .int .u64 x.lo] 33)).heap.size = w.heap.size + 2 := by simp
  rw [hsz] at E4
  clear hsz E0
  go_enter Tryd.func26, Tryd.ntmps26
  go_upto_region 1 with fail
  generalize ((w.alloc _).alloc _).alloc _ = W0 at E1 E2 E3 E4 ⊢
  have Y := blk7 E2
  have X := blk14 E3
  have y0 : ∀ p : InW W0, p.val.cell? ⟨w.heap.size, 0, none⟩ = some (.bool true) := fun p => p.cell Y.1
  have y1 : ∀ p : InW W0, p.val.cell? ⟨w.heap.size, 1, none⟩ = some (.bool true) := fun p => p.cell Y.2.1
  have y2 : ∀ p : InW W0, p.val.cell? ⟨w.heap.size, 2, none⟩ = some (.bool false) := fun p => p.cell Y.2.2.1
  have y3 : ∀ p : InW W0, p.val.cell? ⟨w.heap.size, 3, none⟩ = some (.bool false) := fun p => p.cell Y.2.2.2.1
  have y4 : ∀ p : InW W0, p.val.cell? ⟨w.heap.size, 4, none⟩ = some (.bool false) := fun p => p.cell Y.2.2.2.2.1
  have y5 : ∀ p : InW W0, p.val.cell? ⟨w.heap.size, 5, none⟩ = some (.bool true) := fun p => p.cell Y.2.2.2.2.2.1
  have y6 : ∀ p : InW W0, p.val.cell? ⟨w.heap.size, 6, none⟩ = some (.bool false) := fun p => p.cell Y.2.2.2.2.2.2
  have x0 : ∀ p : InW W0, p.val.cell? ⟨w.heap.size + 1, 0, none⟩ = some (.int .i64 x.k) := fun p => p.cell X.1.1
  have x1 : ∀ p : InW W0, p.val.cell? ⟨w.heap.size + 1, 1, none⟩ = some (.int .i64 x.p) := fun p => p.cell X.1.2.1
  have x2 : ∀ p : InW W0, p.val.cell? ⟨w.heap.size + 1, 2, none⟩ = some (.int .i64 x.d) := fun p => p.cell X.1.2.2.1
  have x3 : ∀ p : InW W0, p.val.cell? ⟨w.heap.size + 1, 3, none⟩ = some (.int .i64 x.t.n) := fun p => p.cell X.1.2.2.2.1
  have x4 : ∀ p : InW W0, p.val.cell? ⟨w.heap.size + 1, 4, none⟩ = some (.string x.t.b) := fun p => p.cell X.1.2.2.2.2.1
  have x5 : ∀ p : InW W0, p.val.cell? ⟨w.heap.size + 1, 5, none⟩ = some (.string x.t.s) := fun p => p.cell X.1.2.2.2.2.2.1
  have x6 : ∀ p : InW W0, p.val.cell? ⟨w.heap.size + 1, 6, none⟩ = some (.string x.t.i) := fun p => p.cell X.1.2.2.2.2.2.2
  have x7 : ∀ p : InW W0, p.val.cell? ⟨w.heap.size + 1, 7, none⟩ = some (.int .i64 x.t.q) := fun p => p.cell X.2.1
  have x8 : ∀ p : InW W0, p.val.cell? ⟨w.heap.size + 1, 8, none⟩ = some (.int .i64 x.t.p) := fun p => p.cell X.2.2.1
  have x9 : ∀ p : InW W0, p.val.cell? ⟨w.heap.size + 1, 9, none⟩ = some (.string x.n) := fun p => p.cell X.2.2.2.1
  have x10 : ∀ p : InW W0, p.val.cell? ⟨w.heap.size + 1, 10, none⟩ = some (.int .i64 x.a) := fun p => p.cell X.2.2.2.2.1
  have x11 : ∀ p : InW W0, p.val.cell? ⟨w.heap.size + 1, 11, none⟩ = some (.slice A n c) := fun p => p.cell X.2.2.2.2.2.1
  have x12 : ∀ p : InW W0, p.val.cell? ⟨w.heap.size + 1, 12, none⟩ = some (.int .i64 x.hi) := fun p => p.cell X.2.2.2.2.2.2.1
  have x13 : ∀ p : InW W0, p.val.cell? ⟨w.heap.size + 1, 13, none⟩ = some (.int .u64 x.lo) := fun p => p.cell X.2.2.2.2.2.2.2
  have HE4 := Lib.hid E4
  have HE1 := Lib.hid E1
  clear X Y E1 E2 E3 E4
  refine wp_region_quiet_tail (C := fun w' => ∃ p : InW W0, w' = p.val) 53 (by kernel_rfl) (by kernel_rfl) (by kernel_rfl) ⟨⟨W0.drew, (Below.refl _ _).drew⟩, rfl⟩ ?_
  simp only [List.take_succ_cons, List.take_zero, List.drop_succ_cons, List.drop_zero]
  repeat (go_big_quiet_step (fail))
  refine wpQuiet_nil ?_
  rintro _ ⟨⟨wq, hbq⟩, rfl⟩
  clear y0 y1 y2 y3 y4 y5 y6 x0 x1 x2 x3 x4 x5 x6 x7 x8 x9 x10 x11 x12 x13
  have hfz := fro14 (block_kept HE4.out hbq)
  obtain ⟨r0, r1, r2, r3, r4, r5, r6⟩ := blk7 (block_kept HE4.out hbq)
  go_wp2
  refine bodyPost_ret (v := .agg #[.bool true, .bool true, .bool q2, .bool q3, .bool q4, .bool true, .bool q6]) (by simp [results, Tryd.results26, go_sem, r0, r1, r2, r3, r4, r5, r6]) rfl ⟨rfl, below7 (HE1.out.trans (hbq.mono HE1.out.size)) (by omega) _ _ _ _ _ _ _⟩
set_option maxRecDepth 100000 in
set_option maxHeartbeats 4000000 in
theorem and_pdrc (w : World) (x : Nt) (A : Option Addr) (n c : Nat) (q2 q3 q4 : Bool) (e2 : (∀ W, (Op.equalIn 10000 28 (.agg #[.int .i64 x.t.n, .string x.t.b, .string x.t.s, .string x.t.i, .int .i64 x.t.q, .int .i64 x.t.p]) (.agg #[.int .i64 0, .string { data := #[] }, .string { data := #[] }, .string { data := #[] }, .int .i64 0, .int .i64 0])).run Tryd.prog W = .ok (!q2) W)) (e3 : (!x.n.toList.isEmpty) = q3) (e4 : (x.a != 0) = q4) :
    Calls Tryd.prog 26 #[.agg #[.bool true, .bool true, .bool false, .bool false, .bool false, .bool true, .bool true], .agg #[.int .i64 x.k, .int .i64 x.p, .int .i64 x.d, .int .i64 x.t.n, .string x.t.b, .string x.t.s, .string x.t.i, .int .i64 x.t.q, .int .i64 x.t.p, .string x.n, .int .i64 x.a, .slice A n c, .int .i64 x.hi, .int .u64 x.lo]] w fun e w' => e = .returned (.agg #[.bool true, .bool true, .bool q2, .bool q3, .bool q4, .bool true, .bool true]) ∧ Below w.heap.size w w' := by
  have E0 := two_new2 w (.cells #[.bool true, .bool true, .bool false, .bool false, .bool false, .bool true, .bool true] 62) (.cells #[.int .i64 x.k, .int .i64 x.p, .int .i64 x.d, .int .i64 x.t.n, .string x.t.b, .string x.t.s, .string x.t.i, .int .i64 x.t.q, .int .i64 x.t.p, .string x.n, .int .i64 x.a, .slice A n c, .int .i64 x.hi, .int .u64 x.lo] 33)
  have E1 : Below w.heap.size w (((w.alloc (.cells #[.bool true, .bool true, .bool false, .bool false, .bool false, .bool true, .bool true] 62)).alloc (.cells #[.int .i64 x.k, .int .i64 x.p, .int .i64 x.d, .int .i64 x.t.n, .string x.t.b, .string x.t.s, .string x.t.i, .int .i64 x.t.q, .int .i64 x.t.p, .string x.n, .int .i64 x.a, .slice A n c, .int .i64 x.hi, .int .u64 x.lo] 33)).alloc (.cells #[.bool false, .bool false, .bool false, .bool false, .bool false, .bool false, .bool false] 62)) := E0.2.2.alloc E0.2.2.size _
  have E2 := block_old E0.1 (.cells #[.bool false, .bool false, .bool false, .bool false, .bool false, .bool false, .bool false] 62)
  have E3 := block_old E0.2.1 (.cells #[.bool false, .bool false, .bool false, .bool false, .bool false, .bool false, .bool false] 62)
  have E4 := block_new ((w.alloc (.cells #[.bool true, .bool true, .bool false, .bool false, .bool false, .bool true, .bool true] 62)).alloc (.cells #[.int .i64 x.k, .int .i64 x.p, .int .i64 x.d, .int .i64 x.t.n, .string x.t.b, .string x.t.s, .string x.t.i, .int .i64 x.t.q, .int .i64 x.t.p, .string x.n, .int .i64 x.a, .slice A n c, .int .i64 x.hi, .int .u64 x.lo] 33)) (.cells #[.bool false, .bool false, .bool false, .bool false, .bool false, .bool false, .bool false] 62)
  have hsz : ((w.alloc (.cells #[.bool true, .bool true, .bool false, .bool false, .bool false, .bool true, .bool true] 62)).alloc (.cells #[.int .i64 x.k, .int .i64 x.p, .int .i64 x.d, .int .i64 x.t.n, .string x.t.b, .string x.t.s, .string x.t.i, .int .i64 x.t.q, .int .i64 x.t.p, .string x.n, .int .i64 x.a, .slice A n c, .int .i64 x.hi, .int .u64 x.lo] 33)).heap.size = w.heap.size + 2 := by simp
  rw [hsz] at E4
  clear hsz E0
  go_enter Tryd.func26, Tryd.ntmps26
  go_upto_region 1 with fail
  generalize ((w.alloc _).alloc _).alloc _ = W0 at E1 E2 E3 E4 ⊢
  have Y := blk7 E2
  have X := blk14 E3
  have y0 : ∀ p : InW W0, p.val.cell? ⟨w.heap.size, 0, none⟩ = some (.bool true) := fun p => p.cell Y.1
  have y1 : ∀ p : InW W0, p.val.cell? ⟨w.heap.size, 1, none⟩ = some (.bool true) := fun p => p.cell Y.2.1
  have y2 : ∀ p : InW W0, p.val.cell? ⟨w.heap.size, 2, none⟩ = some (.bool false) := fun p => p.cell Y.2.2.1
  have y3 : ∀ p : InW W0, p.val.cell? ⟨w.heap.size, 3, none⟩ = some (.bool false) := fun p => p.cell Y.2.2.2.1
  have y4 : ∀ p : InW W0, p.val.cell? ⟨w.heap.size, 4, none⟩ = some (.bool false) := fun p => p.cell Y.2.2.2.2.1
  have y5 : ∀ p : InW W0, p.val.cell? ⟨w.heap.size, 5, none⟩ = some (.bool true) := fun p => p.cell Y.2.2.2.2.2.1
  have y6 : ∀ p : InW W0, p.val.cell? ⟨w.heap.size, 6, none⟩ = some (.bool true) := fun p => p.cell Y.2.2.2.2.2.2
  have x0 : ∀ p : InW W0, p.val.cell? ⟨w.heap.size + 1, 0, none⟩ = some (.int .i64 x.k) := fun p => p.cell X.1.1
  have x1 : ∀ p : InW W0, p.val.cell? ⟨w.heap.size + 1, 1, none⟩ = some (.int .i64 x.p) := fun p => p.cell X.1.2.1
  have x2 : ∀ p : InW W0, p.val.cell? ⟨w.heap.size + 1, 2, none⟩ = some (.int .i64 x.d) := fun p => p.cell X.1.2.2.1
  have x3 : ∀ p : InW W0, p.val.cell? ⟨w.heap.size + 1, 3, none⟩ = some (.int .i64 x.t.n) := fun p => p.cell X.1.2.2.2.1
  have x4 : ∀ p : InW W0, p.val.cell? ⟨w.heap.size + 1, 4, none⟩ = some (.string x.t.b) := fun p => p.cell X.1.2.2.2.2.1
  have x5 : ∀ p : InW W0, p.val.cell? ⟨w.heap.size + 1, 5, none⟩ = some (.string x.t.s) := fun p => p.cell X.1.2.2.2.2.2.1
  have x6 : ∀ p : InW W0, p.val.cell? ⟨w.heap.size + 1, 6, none⟩ = some (.string x.t.i) := fun p => p.cell X.1.2.2.2.2.2.2
  have x7 : ∀ p : InW W0, p.val.cell? ⟨w.heap.size + 1, 7, none⟩ = some (.int .i64 x.t.q) := fun p => p.cell X.2.1
  have x8 : ∀ p : InW W0, p.val.cell? ⟨w.heap.size + 1, 8, none⟩ = some (.int .i64 x.t.p) := fun p => p.cell X.2.2.1
  have x9 : ∀ p : InW W0, p.val.cell? ⟨w.heap.size + 1, 9, none⟩ = some (.string x.n) := fun p => p.cell X.2.2.2.1
  have x10 : ∀ p : InW W0, p.val.cell? ⟨w.heap.size + 1, 10, none⟩ = some (.int .i64 x.a) := fun p => p.cell X.2.2.2.2.1
  have x11 : ∀ p : InW W0, p.val.cell? ⟨w.heap.size + 1, 11, none⟩ = some (.slice A n c) := fun p => p.cell X.2.2.2.2.2.1
  have x12 : ∀ p : InW W0, p.val.cell? ⟨w.heap.size + 1, 12, none⟩ = some (.int .i64 x.hi) := fun p => p.cell X.2.2.2.2.2.2.1
  have x13 : ∀ p : InW W0, p.val.cell? ⟨w.heap.size + 1, 13, none⟩ = some (.int .u64 x.lo) := fun p => p.cell X.2.2.2.2.2.2.2
  have HE4 := Lib.hid E4
  have HE1 := Lib.hid E1
  clear X Y E1 E2 E3 E4
  refine wp_region_quiet_tail (C := fun w' => ∃ p : InW W0, w' = p.val) 53 (by kernel_rfl) (by kernel_rfl) (by kernel_rfl) ⟨⟨W0.drew, (Below.refl _ _).drew⟩, rfl⟩ ?_
  simp only [List.take_succ_cons, List.take_zero, List.drop_succ_cons, List.drop_zero]
  repeat (go_big_quiet_step (fail))
  refine wpQuiet_nil ?_
  rintro _ ⟨⟨wq, hbq⟩, rfl⟩
  clear y0 y1 y2 y3 y4 y5 y6 x0 x1 x2 x3 x4 x5 x6 x7 x8 x9 x10 x11 x12 x13
  have hfz := fro14 (block_kept HE4.out hbq)
  obtain ⟨r0, r1, r2, r3, r4, r5, r6⟩ := blk7 (block_kept HE4.out hbq)
  go_wp2
  refine bodyPost_ret (v := .agg #[.bool true, .bool true, .bool q2, .bool q3, .bool q4, .bool true, .bool true]) (by simp [results, Tryd.results26, go_sem, r0, r1, r2, r3, r4, r5, r6]) rfl ⟨rfl, below7 (HE1.out.trans (hbq.mono HE1.out.size)) (by omega) _ _ _ _ _ _ _⟩
end Go.Proofs.YteahloddjekakaaDoor.Nt
