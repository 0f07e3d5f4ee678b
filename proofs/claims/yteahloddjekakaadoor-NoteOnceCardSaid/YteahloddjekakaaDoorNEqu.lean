/-
  The contracts of singleOf and of Equal. Conditions: at most a thousand rows.
-/
import Derived.Test.YteahloddjekakaaDoorNM4
import Derived.Test.YteahloddjekakaaDoorNM2
namespace Go.Proofs.YteahloddjekakaaDoor.Nt
open Go.RowKit Td

theorem blk13 {w : World} {b : Nat} {x0 x1 x2 x3 x4 x5 x6 x7 x8 x9 x10 x11 x12 : Value} {t : TypeId} (h : w.heap[b]? = some (.cells #[x0, x1, x2, x3, x4, x5, x6, x7, x8, x9, x10, x11, x12] t (0, 0))) :
    w.cell? ⟨b, 0, none⟩ = some x0 ∧ w.cell? ⟨b, 1, none⟩ = some x1 ∧ w.cell? ⟨b, 2, none⟩ = some x2 ∧ w.cell? ⟨b, 3, none⟩ = some x3 ∧ w.cell? ⟨b, 4, none⟩ = some x4 ∧ w.cell? ⟨b, 5, none⟩ = some x5 ∧ w.cell? ⟨b, 6, none⟩ = some x6 ∧ w.cell? ⟨b, 7, none⟩ = some x7 ∧ w.cell? ⟨b, 8, none⟩ = some x8 ∧ w.cell? ⟨b, 9, none⟩ = some x9 ∧ w.cell? ⟨b, 10, none⟩ = some x10 ∧ w.cell? ⟨b, 11, none⟩ = some x11 ∧ w.cell? ⟨b, 12, none⟩ = some x12 :=
  ⟨by rw [cell_of_row w b 0 _ _ _ h]; rfl, by rw [cell_of_row w b 1 _ _ _ h]; rfl, by rw [cell_of_row w b 2 _ _ _ h]; rfl, by rw [cell_of_row w b 3 _ _ _ h]; rfl, by rw [cell_of_row w b 4 _ _ _ h]; rfl, by rw [cell_of_row w b 5 _ _ _ h]; rfl, by rw [cell_of_row w b 6 _ _ _ h]; rfl, by rw [cell_of_row w b 7 _ _ _ h]; rfl, by rw [cell_of_row w b 8 _ _ _ h]; rfl, by rw [cell_of_row w b 9 _ _ _ h]; rfl, by rw [cell_of_row w b 10 _ _ _ h]; rfl, by rw [cell_of_row w b 11 _ _ _ h]; rfl, by rw [cell_of_row w b 12 _ _ _ h]; rfl⟩
theorem st13_alloc (W : World) {c : Nat} (hc : c = W.heap.size) (y0 y1 y2 y3 y4 y5 y6 y7 y8 y9 y10 y11 y12 x0 x1 x2 x3 x4 x5 x6 x7 x8 x9 x10 x11 x12 : Value) (t : TypeId) :
    (((((((((((((W.alloc (.cells #[y0, y1, y2, y3, y4, y5, y6, y7, y8, y9, y10, y11, y12] t)).setCell ⟨c, 0, none⟩ x0).setCell ⟨c, 1, none⟩ x1).setCell ⟨c, 2, none⟩ x2).setCell ⟨c, 3, none⟩ x3).setCell ⟨c, 4, none⟩ x4).setCell ⟨c, 5, none⟩ x5).setCell ⟨c, 6, none⟩ x6).setCell ⟨c, 7, none⟩ x7).setCell ⟨c, 8, none⟩ x8).setCell ⟨c, 9, none⟩ x9).setCell ⟨c, 10, none⟩ x10).setCell ⟨c, 11, none⟩ x11).setCell ⟨c, 12, none⟩ x12 = W.alloc (.cells #[x0, x1, x2, x3, x4, x5, x6, x7, x8, x9, x10, x11, x12] t) := by
  subst hc
  simp only [World.setCell_alloc_at, List.setIfInBounds_toArray, List.set_cons_succ, List.set_cons_zero]
set_option maxRecDepth 100000 in
set_option maxHeartbeats 4000000 in
theorem single_any (w : World) (x : Nt) (A : Option Addr) (n c : Nat) : Calls Tryd.prog 54 #[.agg #[.int .i64 x.k, .int .i64 x.p, .int .i64 x.d, .int .i64 x.t.n, .string x.t.b, .string x.t.s, .string x.t.i, .int .i64 x.t.q, .int .i64 x.t.p, .string x.n, .int .i64 x.a, .slice A n c, .int .i64 x.hi, .int .u64 x.lo]] w fun e w' => e = .returned (.agg #[.int .i64 x.k, .int .i64 x.p, .int .i64 x.d, .int .i64 x.t.n, .string x.t.b, .string x.t.s, .string x.t.i, .int .i64 x.t.q, .int .i64 x.t.p, .string x.n, .int .i64 x.a, .int .i64 x.hi, .int .u64 x.lo]) ∧ Below w.heap.size w w' := by
  have E1 := two_new2 w (.cells #[.int .i64 x.k, .int .i64 x.p, .int .i64 x.d, .int .i64 x.t.n, .string x.t.b, .string x.t.s, .string x.t.i, .int .i64 x.t.q, .int .i64 x.t.p, .string x.n, .int .i64 x.a, .slice A n c, .int .i64 x.hi, .int .u64 x.lo] 33) (.cells #[.int .i64 0, .int .i64 0, .int .i64 0, .int .i64 0, .string { data := #[] }, .string { data := #[] }, .string { data := #[] }, .int .i64 0, .int .i64 0, .string { data := #[] }, .int .i64 0, .int .i64 0, .int .u64 0] 97)
  have HB : Hid (Below w.heap.size w ((w.alloc (.cells #[.int .i64 x.k, .int .i64 x.p, .int .i64 x.d, .int .i64 x.t.n, .string x.t.b, .string x.t.s, .string x.t.i, .int .i64 x.t.q, .int .i64 x.t.p, .string x.n, .int .i64 x.a, .slice A n c, .int .i64 x.hi, .int .u64 x.lo] 33)).alloc (.cells #[.int .i64 x.k, .int .i64 x.p, .int .i64 x.d, .int .i64 x.t.n, .string x.t.b, .string x.t.s, .string x.t.i, .int .i64 x.t.q, .int .i64 x.t.p, .string x.n, .int .i64 x.a, .int .i64 x.hi, .int .u64 x.lo] 97))) := ((Below.refl _ _).alloc (Nat.le_refl _) _).alloc (by simp) _
  go_enter Tryd.func54, Tryd.ntmps54
  go_upto_region 1 with fail
  obtain ⟨W0, hW0⟩ : ∃ W0, W0 = (w.alloc (.cells #[.int .i64 x.k, .int .i64 x.p, .int .i64 x.d, .int .i64 x.t.n, .string x.t.b, .string x.t.s, .string x.t.i, .int .i64 x.t.q, .int .i64 x.t.p, .string x.n, .int .i64 x.a, .slice A n c, .int .i64 x.hi, .int .u64 x.lo] 33)).alloc (.cells #[.int .i64 0, .int .i64 0, .int .i64 0, .int .i64 0, .string { data := #[] }, .string { data := #[] }, .string { data := #[] }, .int .i64 0, .int .i64 0, .string { data := #[] }, .int .i64 0, .int .i64 0, .int .u64 0] 97) := ⟨_, rfl⟩
  rw [← hW0] at E1 ⊢
  have HW0 := Lib.hid hW0
  clear hW0
  obtain ⟨⟨x0, x1, x2, x3, x4, x5, x6⟩, x7, x8, x9, x10, x11, x12, x13⟩ := blk14 E1.1
  obtain ⟨r0, r1, r2, r3, r4, r5, r6, r7, r8, r9, r10, r11, r12⟩ := blk13 E1.2.1
  have fz := fro14 E1.2.1
  clear E1
  go_wp2
  refine bodyPost_ret (v := .agg #[.int .i64 x.k, .int .i64 x.p, .int .i64 x.d, .int .i64 x.t.n, .string x.t.b, .string x.t.s, .string x.t.i, .int .i64 x.t.q, .int .i64 x.t.p, .string x.n, .int .i64 x.a, .int .i64 x.hi, .int .u64 x.lo]) (by simp [results, Tryd.results54, go_sem, r0, r1, r2, r3, r4, r5, r6, r7, r8, r9, r10, r11, r12]) rfl ⟨rfl, ?_⟩
  rw [HW0.out, st13_alloc _ (by simp)]
  exact HB.out
/-- What is read of both notes. -/
theorem sing_eqS (x y : Nt) : sing x y = eqS x y := by
  unfold sing eqS eqT
  simp only [bne, Bool.not_not, Bool.and_true, Bool.and_assoc]
set_option maxRecDepth 100000 in
set_option maxHeartbeats 8000000 in
theorem equal_any (w : World) (x y : Nt) (A B : Option Addr) (n c n' c' : Nat) (l m : List Rw) (hl : Hid (RR w A l)) (hn : Hid (n = l.length)) (hl' : Hid (RR w B m)) (hn' : Hid (n' = m.length)) (hm : n ≤ 1000) {r : Bool} (hr : Hid (r = sameN x y l m)) :
    Calls Tryd.prog 21 #[.agg #[.int .i64 x.k, .int .i64 x.p, .int .i64 x.d, .int .i64 x.t.n, .string x.t.b, .string x.t.s, .string x.t.i, .int .i64 x.t.q, .int .i64 x.t.p, .string x.n, .int .i64 x.a, .slice A n c, .int .i64 x.hi, .int .u64 x.lo], .agg #[.int .i64 y.k, .int .i64 y.p, .int .i64 y.d, .int .i64 y.t.n, .string y.t.b, .string y.t.s, .string y.t.i, .int .i64 y.t.q, .int .i64 y.t.p, .string y.n, .int .i64 y.a, .slice B n' c', .int .i64 y.hi, .int .u64 y.lo]] w fun e w' => e = .returned (.bool r) ∧ Below w.heap.size w w' := by
  have E1 := two_new2 w (.cells #[.int .i64 x.k, .int .i64 x.p, .int .i64 x.d, .int .i64 x.t.n, .string x.t.b, .string x.t.s, .string x.t.i, .int .i64 x.t.q, .int .i64 x.t.p, .string x.n, .int .i64 x.a, .slice A n c, .int .i64 x.hi, .int .u64 x.lo] 33) (.cells #[.int .i64 y.k, .int .i64 y.p, .int .i64 y.d, .int .i64 y.t.n, .string y.t.b, .string y.t.s, .string y.t.i, .int .i64 y.t.q, .int .i64 y.t.p, .string y.n, .int .i64 y.a, .slice B n' c', .int .i64 y.hi, .int .u64 y.lo] 33)
  have HB0 := Lib.hid E1.2.2
  have HL := Lib.hid (hl.out.below HB0.out)
  have HM := Lib.hid (hl'.out.below HB0.out)
  obtain ⟨q, hq⟩ : ∃ q, q = eqS x y := ⟨_, rfl⟩
  have hE : ∀ W, (Op.equalIn 10000 97 (.agg #[.int .i64 x.k, .int .i64 x.p, .int .i64 x.d, .int .i64 x.t.n, .string x.t.b, .string x.t.s, .string x.t.i, .int .i64 x.t.q, .int .i64 x.t.p, .string x.n, .int .i64 x.a, .int .i64 x.hi, .int .u64 x.lo]) (.agg #[.int .i64 y.k, .int .i64 y.p, .int .i64 y.d, .int .i64 y.t.n, .string y.t.b, .string y.t.s, .string y.t.i, .int .i64 y.t.q, .int .i64 y.t.p, .string y.n, .int .i64 y.a, .int .i64 y.hi, .int .u64 y.lo])).run Tryd.prog W = .ok q W := fun W => by rw [hq]; exact q_single _ x y W
  have HR : Hid (r = (q && decide (l = m))) := by show _ = _; rw [hr.out]; unfold sameN; rw [sing_eqS, hq]
  clear hl hl' hr hq
  go_enter Tryd.func21, Tryd.ntmps21
  go_upto_region 1 with fail
  generalize (w.alloc _).alloc _ = W0 at E1 HB0 HL HM ⊢
  have X := blk14 E1.1
  have Y := blk14 E1.2.1
  have x0 : ∀ p : InW W0, p.val.cell? ⟨w.heap.size, 0, none⟩ = some (.int .i64 x.k) := fun p => p.cell X.1.1
  have x1 : ∀ p : InW W0, p.val.cell? ⟨w.heap.size, 1, none⟩ = some (.int .i64 x.p) := fun p => p.cell X.1.2.1
  have x2 : ∀ p : InW W0, p.val.cell? ⟨w.heap.size, 2, none⟩ = some (.int .i64 x.d) := fun p => p.cell X.1.2.2.1
  have x3 : ∀ p : InW W0, p.val.cell? ⟨w.heap.size, 3, none⟩ = some (.int .i64 x.t.n) := fun p => p.cell X.1.2.2.2.1
  have x4 : ∀ p : InW W0, p.val.cell? ⟨w.heap.size, 4, none⟩ = some (.string x.t.b) := fun p => p.cell X.1.2.2.2.2.1
  have x5 : ∀ p : InW W0, p.val.cell? ⟨w.heap.size, 5, none⟩ = some (.string x.t.s) := fun p => p.cell X.1.2.2.2.2.2.1
  have x6 : ∀ p : InW W0, p.val.cell? ⟨w.heap.size, 6, none⟩ = some (.string x.t.i) := fun p => p.cell X.1.2.2.2.2.2.2
  have x7 : ∀ p : InW W0, p.val.cell? ⟨w.heap.size, 7, none⟩ = some (.int .i64 x.t.q) := fun p => p.cell X.2.1
  have x8 : ∀ p : InW W0, p.val.cell? ⟨w.heap.size, 8, none⟩ = some (.int .i64 x.t.p) := fun p => p.cell X.2.2.1
  have x9 : ∀ p : InW W0, p.val.cell? ⟨w.heap.size, 9, none⟩ = some (.string x.n) := fun p => p.cell X.2.2.2.1
  have x10 : ∀ p : InW W0, p.val.cell? ⟨w.heap.size, 10, none⟩ = some (.int .i64 x.a) := fun p => p.cell X.2.2.2.2.1
  have x11 : ∀ p : InW W0, p.val.cell? ⟨w.heap.size, 11, none⟩ = some (.slice A n c) := fun p => p.cell X.2.2.2.2.2.1
  have x12 : ∀ p : InW W0, p.val.cell? ⟨w.heap.size, 12, none⟩ = some (.int .i64 x.hi) := fun p => p.cell X.2.2.2.2.2.2.1
  have x13 : ∀ p : InW W0, p.val.cell? ⟨w.heap.size, 13, none⟩ = some (.int .u64 x.lo) := fun p => p.cell X.2.2.2.2.2.2.2
  have y0 : ∀ p : InW W0, p.val.cell? ⟨(w.heap.size + 1), 0, none⟩ = some (.int .i64 y.k) := fun p => p.cell Y.1.1
  have y1 : ∀ p : InW W0, p.val.cell? ⟨(w.heap.size + 1), 1, none⟩ = some (.int .i64 y.p) := fun p => p.cell Y.1.2.1
  have y2 : ∀ p : InW W0, p.val.cell? ⟨(w.heap.size + 1), 2, none⟩ = some (.int .i64 y.d) := fun p => p.cell Y.1.2.2.1
  have y3 : ∀ p : InW W0, p.val.cell? ⟨(w.heap.size + 1), 3, none⟩ = some (.int .i64 y.t.n) := fun p => p.cell Y.1.2.2.2.1
  have y4 : ∀ p : InW W0, p.val.cell? ⟨(w.heap.size + 1), 4, none⟩ = some (.string y.t.b) := fun p => p.cell Y.1.2.2.2.2.1
  have y5 : ∀ p : InW W0, p.val.cell? ⟨(w.heap.size + 1), 5, none⟩ = some (.string y.t.s) := fun p => p.cell Y.1.2.2.2.2.2.1
  have y6 : ∀ p : InW W0, p.val.cell? ⟨(w.heap.size + 1), 6, none⟩ = some (.string y.t.i) := fun p => p.cell Y.1.2.2.2.2.2.2
  have y7 : ∀ p : InW W0, p.val.cell? ⟨(w.heap.size + 1), 7, none⟩ = some (.int .i64 y.t.q) := fun p => p.cell Y.2.1
  have y8 : ∀ p : InW W0, p.val.cell? ⟨(w.heap.size + 1), 8, none⟩ = some (.int .i64 y.t.p) := fun p => p.cell Y.2.2.1
  have y9 : ∀ p : InW W0, p.val.cell? ⟨(w.heap.size + 1), 9, none⟩ = some (.string y.n) := fun p => p.cell Y.2.2.2.1
  have y10 : ∀ p : InW W0, p.val.cell? ⟨(w.heap.size + 1), 10, none⟩ = some (.int .i64 y.a) := fun p => p.cell Y.2.2.2.2.1
  have y11 : ∀ p : InW W0, p.val.cell? ⟨(w.heap.size + 1), 11, none⟩ = some (.slice B n' c') := fun p => p.cell Y.2.2.2.2.2.1
  have y12 : ∀ p : InW W0, p.val.cell? ⟨(w.heap.size + 1), 12, none⟩ = some (.int .i64 y.hi) := fun p => p.cell Y.2.2.2.2.2.2.1
  have y13 : ∀ p : InW W0, p.val.cell? ⟨(w.heap.size + 1), 13, none⟩ = some (.int .u64 y.lo) := fun p => p.cell Y.2.2.2.2.2.2.2
  have C1 : Hid (∀ p : InW W0, Calls Tryd.prog 54 #[.agg #[.int .i64 x.k, .int .i64 x.p, .int .i64 x.d, .int .i64 x.t.n, .string x.t.b, .string x.t.s, .string x.t.i, .int .i64 x.t.q, .int .i64 x.t.p, .string x.n, .int .i64 x.a, .slice A n c, .int .i64 x.hi, .int .u64 x.lo]] p.val fun e w' => e = .returned (.agg #[.int .i64 x.k, .int .i64 x.p, .int .i64 x.d, .int .i64 x.t.n, .string x.t.b, .string x.t.s, .string x.t.i, .int .i64 x.t.q, .int .i64 x.t.p, .string x.n, .int .i64 x.a, .int .i64 x.hi, .int .u64 x.lo]) ∧ ∃ q : InW W0, w' = q.val) := fun p => calls_in (single_any p.val x A n c)
  have C2 : Hid (∀ p : InW W0, Calls Tryd.prog 54 #[.agg #[.int .i64 y.k, .int .i64 y.p, .int .i64 y.d, .int .i64 y.t.n, .string y.t.b, .string y.t.s, .string y.t.i, .int .i64 y.t.q, .int .i64 y.t.p, .string y.n, .int .i64 y.a, .slice B n' c', .int .i64 y.hi, .int .u64 y.lo]] p.val fun e w' => e = .returned (.agg #[.int .i64 y.k, .int .i64 y.p, .int .i64 y.d, .int .i64 y.t.n, .string y.t.b, .string y.t.s, .string y.t.i, .int .i64 y.t.q, .int .i64 y.t.p, .string y.n, .int .i64 y.a, .int .i64 y.hi, .int .u64 y.lo]) ∧ ∃ q : InW W0, w' = q.val) := fun p => calls_in (single_any p.val y B n' c')
  cases q
  · obtain rfl : r = false := HR.out
    clear E1 X Y hn hn' HL HM HR
    refine wp_region_below (W := W0) (by kernel_rfl) (by kernel_rfl) (Below.refl _ _) ?_
    repeat (go_big_quiet_step ((first | (go_at_call 54; (with_reducible exact C1.out _)) | (go_at_call 54; (with_reducible exact C2.out _)) | (go_at_call 55; (with_reducible exact C3.out _)))))
    refine wpQuiet_nil ?_
    rintro _ ⟨⟨wq, hbq⟩, rfl⟩
    go_wp2
    go_ret
    exact ⟨rfl, HB0.out.trans (hbq.mono HB0.out.size)⟩
  · have C3 : Hid (∀ p : InW W0, Calls Tryd.prog 55 #[.slice A n c, .slice B n' c'] p.val fun e w' => e = .returned (.bool r) ∧ ∃ q : InW W0, w' = q.val) := fun p => calls_in (sEqual_any p.val A B n c n' c' l m (HL.out.below p.bel) hn (HM.out.below p.bel) hn' hm HR)
    clear E1 X Y hn hn' HL HM
    refine wp_region_below (W := W0) (by kernel_rfl) (by kernel_rfl) (Below.refl _ _) ?_
    repeat (go_big_quiet_step ((first | (go_at_call 54; (with_reducible exact C1.out _)) | (go_at_call 54; (with_reducible exact C2.out _)) | (go_at_call 55; (with_reducible exact C3.out _)))))
    refine wpQuiet_nil ?_
    rintro _ ⟨⟨wq, hbq⟩, rfl⟩
    go_wp2
    go_ret
    exact ⟨rfl, HB0.out.trans (hbq.mono HB0.out.size)⟩
end Go.Proofs.YteahloddjekakaaDoor.Nt
