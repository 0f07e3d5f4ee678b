/-
  The reference's Check. Conditions: none.
-/
import Derived.Test.YteahloddjekakaaDoorNM7
import Derived.Test.YteahloddjekakaaDoorNM8
namespace Go.Proofs.YteahloddjekakaaDoor.Nt
open Go.RowKit Td

set_option maxRecDepth 100000 in
set_option maxHeartbeats 8000000 in
theorem rcheck_any (w : World) (x : Nt) (A : Option Addr) (n c : Nat) (l : List Rw) (_hl : Hid (RR w A l)) (_hn : Hid (n = l.length)) (_hs : Hid (SmN x l)) (hq : ((whatS x.k).toList == [63]) = false) {r : Int} (hr : Hid (r = chkQ x n l)) : Calls Tryd.prog 11 #[.agg #[.int .i64 x.k, .int .i64 x.p, .int .i64 x.d, .int .i64 x.t.n, .string x.t.b, .string x.t.s, .string x.t.i, .int .i64 x.t.q, .int .i64 x.t.p, .string x.n, .int .i64 x.a, .slice A n c, .int .i64 x.hi, .int .u64 x.lo]] w fun e w' => e = .returned (.int .i64 r) ∧ Below w.heap.size w w' := by
  obtain ⟨s, hs⟩ : ∃ s, s = whatS x.k := ⟨_, rfl⟩
  rw [← hs] at hq
  have HW := Lib.hid fun W => what_any W x.k (Lib.hid hs)
  have HX0 := Lib.hid (block_new w (.cells #[.int .i64 x.k, .int .i64 x.p, .int .i64 x.d, .int .i64 x.t.n, .string x.t.b, .string x.t.s, .string x.t.i, .int .i64 x.t.q, .int .i64 x.t.p, .string x.n, .int .i64 x.a, .slice A n c, .int .i64 x.hi, .int .u64 x.lo] 27))
  have HB0 : Hid (Below w.heap.size w (w.alloc (.cells #[.int .i64 x.k, .int .i64 x.p, .int .i64 x.d, .int .i64 x.t.n, .string x.t.b, .string x.t.s, .string x.t.i, .int .i64 x.t.q, .int .i64 x.t.p, .string x.n, .int .i64 x.a, .slice A n c, .int .i64 x.hi, .int .u64 x.lo] 27))) := Lib.hid ((Below.refl _ _).alloc (Nat.le_refl _) _)
  have x0 := (blk14 HX0.out).1.1
  obtain ⟨q2, hq2⟩ : ∃ q, q = hasT x := ⟨_, rfl⟩
  have e2 : ∀ W, (Op.equalIn 10000 23 (.agg #[.int .i64 x.t.n, .string x.t.b, .string x.t.s, .string x.t.i, .int .i64 x.t.q, .int .i64 x.t.p]) (.agg #[.int .i64 0, .string { data := #[] }, .string { data := #[] }, .string { data := #[] }, .int .i64 0, .int .i64 0])).run Tryd.prog W = .ok (!q2) W := fun W => by
    rw [hq2]
    have h := q_rtr 9998 x.t zT W
    unfold hasT
    rw [Bool.not_not]
    exact h
  have HQ2 := Lib.hid hq2
  clear hs hq2
  obtain ⟨g0, h⟩ : ∃ g, g = askB x.k 112 := ⟨_, rfl⟩
  have HA0 := Lib.hid fun W => asks_any W x.k 112 (Lib.hid h)
  have HG0 := Lib.hid h
  clear h
  obtain ⟨g1, h⟩ : ∃ g, g = askB x.k 100 := ⟨_, rfl⟩
  have HA1 := Lib.hid fun W => asks_any W x.k 100 (Lib.hid h)
  have HG1 := Lib.hid h
  clear h
  obtain ⟨g2, h⟩ : ∃ g, g = askB x.k 116 := ⟨_, rfl⟩
  have HA2 := Lib.hid fun W => asks_any W x.k 116 (Lib.hid h)
  have HG2 := Lib.hid h
  clear h
  obtain ⟨g3, h⟩ : ∃ g, g = askB x.k 110 := ⟨_, rfl⟩
  have HA3 := Lib.hid fun W => asks_any W x.k 110 (Lib.hid h)
  have HG3 := Lib.hid h
  clear h
  obtain ⟨g4, h⟩ : ∃ g, g = askB x.k 97 := ⟨_, rfl⟩
  have HA4 := Lib.hid fun W => asks_any W x.k 97 (Lib.hid h)
  have HG4 := Lib.hid h
  clear h
  obtain ⟨g5, h⟩ : ∃ g, g = askB x.k 114 := ⟨_, rfl⟩
  have HA5 := Lib.hid fun W => asks_any W x.k 114 (Lib.hid h)
  have HG5 := Lib.hid h
  clear h
  obtain ⟨g6, h⟩ : ∃ g, g = askB x.k 99 := ⟨_, rfl⟩
  have HA6 := Lib.hid fun W => asks_any W x.k 99 (Lib.hid h)
  have HG6 := Lib.hid h
  clear h
  obtain ⟨b0, h⟩ : ∃ b, b = (!g0 && (x.p != 0)) := ⟨_, rfl⟩
  have HC0 := Lib.hid h
  clear h
  obtain ⟨b1, h⟩ : ∃ b, b = (b0 || (!g1 && (x.d != 0))) := ⟨_, rfl⟩
  have HC1 := Lib.hid h
  clear h
  obtain ⟨b2, h⟩ : ∃ b, b = (b1 || (!g2 && q2)) := ⟨_, rfl⟩
  have HC2 := Lib.hid h
  clear h
  obtain ⟨b3, h⟩ : ∃ b, b = (b2 || (!g3 && decide (0 < x.n.size))) := ⟨_, rfl⟩
  have HC3 := Lib.hid h
  clear h
  obtain ⟨b4, h⟩ : ∃ b, b = (b3 || (!g4 && (x.a != 0))) := ⟨_, rfl⟩
  have HC4 := Lib.hid h
  clear h
  obtain ⟨b5, h⟩ : ∃ b, b = (b4 || (!g5 && decide (0 < n))) := ⟨_, rfl⟩
  have HC5 := Lib.hid h
  clear h
  obtain ⟨b6, h⟩ : ∃ b, b = (b5 || (!g6 && ((x.hi != 0) || (x.lo != 0)))) := ⟨_, rfl⟩
  have HC6 := Lib.hid h
  clear h
  obtain ⟨t8, h⟩ : ∃ t, t = (g1 && !dOk x) := ⟨_, rfl⟩
  have HT8 := Lib.hid h
  clear h
  obtain ⟨tc, h⟩ : ∃ t, t = chk x.t := ⟨_, rfl⟩
  have HTC := Lib.hid fun W => Td.rcheck_any W x.t _hs.out.1 (Lib.hid h)
  have HTE := Lib.hid h
  clear h
  obtain ⟨t10, h⟩ : ∃ t, t = (g2 && (tc != 0)) := ⟨_, rfl⟩
  have HT10 := Lib.hid h
  clear h
  obtain ⟨t18, h⟩ : ∃ t, t = (g4 && !amtB x) := ⟨_, rfl⟩
  have HT18 := Lib.hid h
  clear h
  have HR : Hid (r = chkR b6 t8 t10 g3 t18 tc x l) := by show _ = _; rw [hr.out, HT8.out, HT10.out, HT18.out, HC6.out, HC5.out, HC4.out, HC3.out, HC2.out, HC1.out, HC0.out, HG0.out, HG1.out, HG2.out, HG3.out, HG4.out, HG5.out, HG6.out, HQ2.out, HTE.out]; rfl
  clear hr
  go_enter Tryd.func11, Tryd.ntmps11
  go_upto_region 4 with (go_at_call 33; (with_reducible refine (HW.out _).mono ?_); rintro e w1 ⟨rfl, hb⟩; have HX := Lib.hid (block_kept HX0.out hb); have HB := Lib.hid (HB0.out.trans (hb.mono HB0.out.size)); clear hb)
  clear HX0 HB0 x0 HW
  refine wp_region_lit ?_
  simp only [List.append_eq, List.cons_append, List.nil_append]
  refine wpList_cutn 9 (fun a' w' => ∃ d13 d14 d15 d16 d17 d18 d19 d20 : Value, a' = { tmps := #[.agg #[.int .i64 x.k, .int .i64 x.p, .int .i64 x.d, .int .i64 x.t.n, .string x.t.b, .string x.t.s, .string x.t.i, .int .i64 x.t.q, .int .i64 x.t.p, .string x.n, .int .i64 x.a, .slice A n c, .int .i64 x.hi, .int .u64 x.lo], .pointer (some ⟨w.heap.size, 0, none⟩), .int .i64 0, .int .i64 x.k, undef, undef, undef, undef, .pointer (some ⟨w.heap.size, 0, none⟩), .int .i64 x.k, .int .i64 x.k, .string s, .bool false, d13, d14, d15, d16, d17, d18, d19, d20, .bool b0, undef, undef, undef, undef, undef, undef, undef, undef, undef, undef, undef, undef, undef, undef, undef, undef, undef, undef, undef, undef, undef, undef, undef, undef, undef, undef, undef, undef, undef, undef, undef, undef, undef, undef, undef, undef, undef, undef, undef, undef, undef, undef, undef, undef, undef, undef, undef, undef, undef, undef, undef, undef, undef, undef, undef, undef, undef, undef, undef, undef, undef, undef, undef, undef, undef, undef, undef, undef, undef, undef, undef, undef, undef, undef, undef, undef, undef, undef, undef, undef, undef, undef, undef, undef, undef, undef, undef, undef, undef, undef, undef, undef, undef, undef, undef, undef, undef, undef, undef, undef, undef, undef, undef, undef, undef, undef, undef, undef, undef, undef, undef, undef, undef, undef, undef, undef, undef, undef, undef, undef, undef, undef, undef, undef, undef, undef, undef, undef, undef, undef, undef, undef, undef, undef, undef, undef, undef, undef, undef, undef, undef, undef, undef, undef, undef, undef, undef, undef, undef, undef, undef, undef, undef, undef, undef, undef, undef, undef, undef, undef, undef, undef, undef, undef, undef, undef, undef, undef, undef, undef, undef, undef, undef, undef, undef, undef, undef, undef, undef, undef, undef, undef, undef, undef], defers := [] } ∧ Hid (w'.heap[w.heap.size]? = some (.cells #[.int .i64 x.k, .int .i64 x.p, .int .i64 x.d, .int .i64 x.t.n, .string x.t.b, .string x.t.s, .string x.t.i, .int .i64 x.t.q, .int .i64 x.t.p, .string x.n, .int .i64 x.a, .slice A n c, .int .i64 x.hi, .int .u64 x.lo] 27 (0, 0))) ∧ Hid (Below w.heap.size w w')) ?_ ?_
  · simp only [List.take_succ_cons, List.take_zero]
    cases g0
    · have e : b0 = (x.p != 0) := by have h := HC0.out; simpa using h
      clear HC0
      subst e
      go_wp2_with (go_at_call 34; (with_reducible refine (HA0.out _).mono ?_); rintro e w2 ⟨rfl, hb⟩; have HX2 := Lib.hid (block_kept HX.out hb); have HB2 := Lib.hid (HB.out.trans (hb.mono HB.out.size)); have y1 := (blk14 HX2.out).1.2.1; clear hb)
      exact thenK_mk ⟨_, _, _, _, _, _, _, _, rfl, HX2, HB2⟩
    · have e : b0 = false := by have h := HC0.out; simpa using h
      clear HC0
      subst e
      go_wp2_with (go_at_call 34; (with_reducible refine (HA0.out _).mono ?_); rintro e w2 ⟨rfl, hb⟩; have HX2 := Lib.hid (block_kept HX.out hb); have HB2 := Lib.hid (HB.out.trans (hb.mono HB.out.size)); have y1 := (blk14 HX2.out).1.2.1; clear hb)
      exact thenK_mk ⟨_, _, _, _, _, _, _, _, rfl, HX2, HB2⟩
  clear HX HB
  rintro a1 w2 ⟨d13, d14, d15, d16, d17, d18, d19, d20, rfl, HX, HB⟩
  simp only [List.drop_succ_cons, List.drop_zero]
  refine wpList_cutn 10 (fun a' w' => ∃ d22 d23 d24 d25 d26 d27 d28 d29 d30 : Value, a' = { tmps := #[.agg #[.int .i64 x.k, .int .i64 x.p, .int .i64 x.d, .int .i64 x.t.n, .string x.t.b, .string x.t.s, .string x.t.i, .int .i64 x.t.q, .int .i64 x.t.p, .string x.n, .int .i64 x.a, .slice A n c, .int .i64 x.hi, .int .u64 x.lo], .pointer (some ⟨w.heap.size, 0, none⟩), .int .i64 0, .int .i64 x.k, undef, undef, undef, undef, .pointer (some ⟨w.heap.size, 0, none⟩), .int .i64 x.k, .int .i64 x.k, .string s, .bool false, d13, d14, d15, d16, d17, d18, d19, d20, .bool b0, d22, d23, d24, d25, d26, d27, d28, d29, d30, .bool b1, undef, undef, undef, undef, undef, undef, undef, undef, undef, undef, undef, undef, undef, undef, undef, undef, undef, undef, undef, undef, undef, undef, undef, undef, undef, undef, undef, undef, undef, undef, undef, undef, undef, undef, undef, undef, undef, undef, undef, undef, undef, undef, undef, undef, undef, undef, undef, undef, undef, undef, undef, undef, undef, undef, undef, undef, undef, undef, undef, undef, undef, undef, undef, undef, undef, undef, undef, undef, undef, undef, undef, undef, undef, undef, undef, undef, undef, undef, undef, undef, undef, undef, undef, undef, undef, undef, undef, undef, undef, undef, undef, undef, undef, undef, undef, undef, undef, undef, undef, undef, undef, undef, undef, undef, undef, undef, undef, undef, undef, undef, undef, undef, undef, undef, undef, undef, undef, undef, undef, undef, undef, undef, undef, undef, undef, undef, undef, undef, undef, undef, undef, undef, undef, undef, undef, undef, undef, undef, undef, undef, undef, undef, undef, undef, undef, undef, undef, undef, undef, undef, undef, undef, undef, undef, undef, undef, undef, undef, undef, undef, undef, undef, undef, undef, undef, undef, undef, undef, undef, undef, undef, undef, undef, undef], defers := [] } ∧ Hid (w'.heap[w.heap.size]? = some (.cells #[.int .i64 x.k, .int .i64 x.p, .int .i64 x.d, .int .i64 x.t.n, .string x.t.b, .string x.t.s, .string x.t.i, .int .i64 x.t.q, .int .i64 x.t.p, .string x.n, .int .i64 x.a, .slice A n c, .int .i64 x.hi, .int .u64 x.lo] 27 (0, 0))) ∧ Hid (Below w.heap.size w w')) ?_ ?_
  · simp only [List.take_succ_cons, List.take_zero]
    cases b0
    · cases g1
      · have e : b1 = (x.d != 0) := by have h := HC1.out; simpa using h
        clear HC1
        subst e
        go_wp2_with (go_at_call 34; (with_reducible refine (HA1.out _).mono ?_); rintro e w2 ⟨rfl, hb⟩; have HX2 := Lib.hid (block_kept HX.out hb); have HB2 := Lib.hid (HB.out.trans (hb.mono HB.out.size)); have y2 := (blk14 HX2.out).1.2.2.1; clear hb)
        exact thenK_mk ⟨_, _, _, _, _, _, _, _, _, rfl, HX2, HB2⟩
      · have e : b1 = false := by have h := HC1.out; simpa using h
        clear HC1
        subst e
        go_wp2_with (go_at_call 34; (with_reducible refine (HA1.out _).mono ?_); rintro e w2 ⟨rfl, hb⟩; have HX2 := Lib.hid (block_kept HX.out hb); have HB2 := Lib.hid (HB.out.trans (hb.mono HB.out.size)); have y2 := (blk14 HX2.out).1.2.2.1; clear hb)
        exact thenK_mk ⟨_, _, _, _, _, _, _, _, _, rfl, HX2, HB2⟩
    · have e : b1 = true := by have h := HC1.out; simpa using h
      clear HC1
      subst e
      go_wp2
      exact thenK_mk ⟨_, _, _, _, _, _, _, _, _, rfl, HX, HB⟩
  clear HX HB
  rintro a1 w2 ⟨d22, d23, d24, d25, d26, d27, d28, d29, d30, rfl, HX, HB⟩
  simp only [List.drop_succ_cons, List.drop_zero]
  refine wpList_cutn 11 (fun a' w' => ∃ d32 d33 d34 d35 d36 d37 d38 d39 d40 d41 : Value, a' = { tmps := #[.agg #[.int .i64 x.k, .int .i64 x.p, .int .i64 x.d, .int .i64 x.t.n, .string x.t.b, .string x.t.s, .string x.t.i, .int .i64 x.t.q, .int .i64 x.t.p, .string x.n, .int .i64 x.a, .slice A n c, .int .i64 x.hi, .int .u64 x.lo], .pointer (some ⟨w.heap.size, 0, none⟩), .int .i64 0, .int .i64 x.k, undef, undef, undef, undef, .pointer (some ⟨w.heap.size, 0, none⟩), .int .i64 x.k, .int .i64 x.k, .string s, .bool false, d13, d14, d15, d16, d17, d18, d19, d20, .bool b0, d22, d23, d24, d25, d26, d27, d28, d29, d30, .bool b1, d32, d33, d34, d35, d36, d37, d38, d39, d40, d41, .bool b2, undef, undef, undef, undef, undef, undef, undef, undef, undef, undef, undef, undef, undef, undef, undef, undef, undef, undef, undef, undef, undef, undef, undef, undef, undef, undef, undef, undef, undef, undef, undef, undef, undef, undef, undef, undef, undef, undef, undef, undef, undef, undef, undef, undef, undef, undef, undef, undef, undef, undef, undef, undef, undef, undef, undef, undef, undef, undef, undef, undef, undef, undef, undef, undef, undef, undef, undef, undef, undef, undef, undef, undef, undef, undef, undef, undef, undef, undef, undef, undef, undef, undef, undef, undef, undef, undef, undef, undef, undef, undef, undef, undef, undef, undef, undef, undef, undef, undef, undef, undef, undef, undef, undef, undef, undef, undef, undef, undef, undef, undef, undef, undef, undef, undef, undef, undef, undef, undef, undef, undef, undef, undef, undef, undef, undef, undef, undef, undef, undef, undef, undef, undef, undef, undef, undef, undef, undef, undef, undef, undef, undef, undef, undef, undef, undef, undef, undef, undef, undef, undef, undef, undef, undef, undef, undef, undef, undef, undef, undef, undef, undef, undef, undef], defers := [] } ∧ Hid (w'.heap[w.heap.size]? = some (.cells #[.int .i64 x.k, .int .i64 x.p, .int .i64 x.d, .int .i64 x.t.n, .string x.t.b, .string x.t.s, .string x.t.i, .int .i64 x.t.q, .int .i64 x.t.p, .string x.n, .int .i64 x.a, .slice A n c, .int .i64 x.hi, .int .u64 x.lo] 27 (0, 0))) ∧ Hid (Below w.heap.size w w')) ?_ ?_
  · simp only [List.take_succ_cons, List.take_zero]
    cases b1
    · cases g2
      · have e : b2 = q2 := by have h := HC2.out; simpa using h
        clear HC2
        subst e
        go_wp2_with (go_at_call 34; (with_reducible refine (HA2.out _).mono ?_); rintro e w2 ⟨rfl, hb⟩; have HX2 := Lib.hid (block_kept HX.out hb); have HB2 := Lib.hid (HB.out.trans (hb.mono HB.out.size)); have y3 := (blk14 HX2.out).1.2.2.2.1; have y4 := (blk14 HX2.out).1.2.2.2.2.1; have y5 := (blk14 HX2.out).1.2.2.2.2.2.1; have y6 := (blk14 HX2.out).1.2.2.2.2.2.2; have y7 := (blk14 HX2.out).2.1; have y8 := (blk14 HX2.out).2.2.1; clear hb)
        exact thenK_mk ⟨_, _, _, _, _, _, _, _, _, _, rfl, HX2, HB2⟩
      · have e : b2 = false := by have h := HC2.out; simpa using h
        clear HC2
        subst e
        go_wp2_with (go_at_call 34; (with_reducible refine (HA2.out _).mono ?_); rintro e w2 ⟨rfl, hb⟩; have HX2 := Lib.hid (block_kept HX.out hb); have HB2 := Lib.hid (HB.out.trans (hb.mono HB.out.size)); have y3 := (blk14 HX2.out).1.2.2.2.1; have y4 := (blk14 HX2.out).1.2.2.2.2.1; have y5 := (blk14 HX2.out).1.2.2.2.2.2.1; have y6 := (blk14 HX2.out).1.2.2.2.2.2.2; have y7 := (blk14 HX2.out).2.1; have y8 := (blk14 HX2.out).2.2.1; clear hb)
        exact thenK_mk ⟨_, _, _, _, _, _, _, _, _, _, rfl, HX2, HB2⟩
    · have e : b2 = true := by have h := HC2.out; simpa using h
      clear HC2
      subst e
      go_wp2
      exact thenK_mk ⟨_, _, _, _, _, _, _, _, _, _, rfl, HX, HB⟩
  clear HX HB
  rintro a1 w2 ⟨d32, d33, d34, d35, d36, d37, d38, d39, d40, d41, rfl, HX, HB⟩
  simp only [List.drop_succ_cons, List.drop_zero]
  refine wpList_cutn 11 (fun a' w' => ∃ d43 d44 d45 d46 d47 d48 d49 d50 d51 d52 : Value, a' = { tmps := #[.agg #[.int .i64 x.k, .int .i64 x.p, .int .i64 x.d, .int .i64 x.t.n, .string x.t.b, .string x.t.s, .string x.t.i, .int .i64 x.t.q, .int .i64 x.t.p, .string x.n, .int .i64 x.a, .slice A n c, .int .i64 x.hi, .int .u64 x.lo], .pointer (some ⟨w.heap.size, 0, none⟩), .int .i64 0, .int .i64 x.k, undef, undef, undef, undef, .pointer (some ⟨w.heap.size, 0, none⟩), .int .i64 x.k, .int .i64 x.k, .string s, .bool false, d13, d14, d15, d16, d17, d18, d19, d20, .bool b0, d22, d23, d24, d25, d26, d27, d28, d29, d30, .bool b1, d32, d33, d34, d35, d36, d37, d38, d39, d40, d41, .bool b2, d43, d44, d45, d46, d47, d48, d49, d50, d51, d52, .bool b3, undef, undef, undef, undef, undef, undef, undef, undef, undef, undef, undef, undef, undef, undef, undef, undef, undef, undef, undef, undef, undef, undef, undef, undef, undef, undef, undef, undef, undef, undef, undef, undef, undef, undef, undef, undef, undef, undef, undef, undef, undef, undef, undef, undef, undef, undef, undef, undef, undef, undef, undef, undef, undef, undef, undef, undef, undef, undef, undef, undef, undef, undef, undef, undef, undef, undef, undef, undef, undef, undef, undef, undef, undef, undef, undef, undef, undef, undef, undef, undef, undef, undef, undef, undef, undef, undef, undef, undef, undef, undef, undef, undef, undef, undef, undef, undef, undef, undef, undef, undef, undef, undef, undef, undef, undef, undef, undef, undef, undef, undef, undef, undef, undef, undef, undef, undef, undef, undef, undef, undef, undef, undef, undef, undef, undef, undef, undef, undef, undef, undef, undef, undef, undef, undef, undef, undef, undef, undef, undef, undef, undef, undef, undef, undef, undef, undef, undef, undef, undef, undef, undef, undef], defers := [] } ∧ Hid (w'.heap[w.heap.size]? = some (.cells #[.int .i64 x.k, .int .i64 x.p, .int .i64 x.d, .int .i64 x.t.n, .string x.t.b, .string x.t.s, .string x.t.i, .int .i64 x.t.q, .int .i64 x.t.p, .string x.n, .int .i64 x.a, .slice A n c, .int .i64 x.hi, .int .u64 x.lo] 27 (0, 0))) ∧ Hid (Below w.heap.size w w')) ?_ ?_
  · simp only [List.take_succ_cons, List.take_zero]
    cases b2
    · cases g3
      · have e : b3 = decide (0 < x.n.size) := by have h := HC3.out; simpa using h
        clear HC3
        subst e
        go_wp2_with (go_at_call 34; (with_reducible refine (HA3.out _).mono ?_); rintro e w2 ⟨rfl, hb⟩; have HX2 := Lib.hid (block_kept HX.out hb); have HB2 := Lib.hid (HB.out.trans (hb.mono HB.out.size)); have y9 := (blk14 HX2.out).2.2.2.1; clear hb)
        exact thenK_mk ⟨_, _, _, _, _, _, _, _, _, _, rfl, HX2, HB2⟩
      · have e : b3 = false := by have h := HC3.out; simpa using h
        clear HC3
        subst e
        go_wp2_with (go_at_call 34; (with_reducible refine (HA3.out _).mono ?_); rintro e w2 ⟨rfl, hb⟩; have HX2 := Lib.hid (block_kept HX.out hb); have HB2 := Lib.hid (HB.out.trans (hb.mono HB.out.size)); have y9 := (blk14 HX2.out).2.2.2.1; clear hb)
        exact thenK_mk ⟨_, _, _, _, _, _, _, _, _, _, rfl, HX2, HB2⟩
    · have e : b3 = true := by have h := HC3.out; simpa using h
      clear HC3
      subst e
      go_wp2
      exact thenK_mk ⟨_, _, _, _, _, _, _, _, _, _, rfl, HX, HB⟩
  clear HX HB
  rintro a1 w2 ⟨d43, d44, d45, d46, d47, d48, d49, d50, d51, d52, rfl, HX, HB⟩
  simp only [List.drop_succ_cons, List.drop_zero]
  refine wpList_cutn 10 (fun a' w' => ∃ d54 d55 d56 d57 d58 d59 d60 d61 d62 : Value, a' = { tmps := #[.agg #[.int .i64 x.k, .int .i64 x.p, .int .i64 x.d, .int .i64 x.t.n, .string x.t.b, .string x.t.s, .string x.t.i, .int .i64 x.t.q, .int .i64 x.t.p, .string x.n, .int .i64 x.a, .slice A n c, .int .i64 x.hi, .int .u64 x.lo], .pointer (some ⟨w.heap.size, 0, none⟩), .int .i64 0, .int .i64 x.k, undef, undef, undef, undef, .pointer (some ⟨w.heap.size, 0, none⟩), .int .i64 x.k, .int .i64 x.k, .string s, .bool false, d13, d14, d15, d16, d17, d18, d19, d20, .bool b0, d22, d23, d24, d25, d26, d27, d28, d29, d30, .bool b1, d32, d33, d34, d35, d36, d37, d38, d39, d40, d41, .bool b2, d43, d44, d45, d46, d47, d48, d49, d50, d51, d52, .bool b3, d54, d55, d56, d57, d58, d59, d60, d61, d62, .bool b4, undef, undef, undef, undef, undef, undef, undef, undef, undef, undef, undef, undef, undef, undef, undef, undef, undef, undef, undef, undef, undef, undef, undef, undef, undef, undef, undef, undef, undef, undef, undef, undef, undef, undef, undef, undef, undef, undef, undef, undef, undef, undef, undef, undef, undef, undef, undef, undef, undef, undef, undef, undef, undef, undef, undef, undef, undef, undef, undef, undef, undef, undef, undef, undef, undef, undef, undef, undef, undef, undef, undef, undef, undef, undef, undef, undef, undef, undef, undef, undef, undef, undef, undef, undef, undef, undef, undef, undef, undef, undef, undef, undef, undef, undef, undef, undef, undef, undef, undef, undef, undef, undef, undef, undef, undef, undef, undef, undef, undef, undef, undef, undef, undef, undef, undef, undef, undef, undef, undef, undef, undef, undef, undef, undef, undef, undef, undef, undef, undef, undef, undef, undef, undef, undef, undef, undef, undef, undef, undef, undef, undef, undef], defers := [] } ∧ Hid (w'.heap[w.heap.size]? = some (.cells #[.int .i64 x.k, .int .i64 x.p, .int .i64 x.d, .int .i64 x.t.n, .string x.t.b, .string x.t.s, .string x.t.i, .int .i64 x.t.q, .int .i64 x.t.p, .string x.n, .int .i64 x.a, .slice A n c, .int .i64 x.hi, .int .u64 x.lo] 27 (0, 0))) ∧ Hid (Below w.heap.size w w')) ?_ ?_
  · simp only [List.take_succ_cons, List.take_zero]
    cases b3
    · cases g4
      · have e : b4 = (x.a != 0) := by have h := HC4.out; simpa using h
        clear HC4
        subst e
        go_wp2_with (go_at_call 34; (with_reducible refine (HA4.out _).mono ?_); rintro e w2 ⟨rfl, hb⟩; have HX2 := Lib.hid (block_kept HX.out hb); have HB2 := Lib.hid (HB.out.trans (hb.mono HB.out.size)); have y10 := (blk14 HX2.out).2.2.2.2.1; clear hb)
        exact thenK_mk ⟨_, _, _, _, _, _, _, _, _, rfl, HX2, HB2⟩
      · have e : b4 = false := by have h := HC4.out; simpa using h
        clear HC4
        subst e
        go_wp2_with (go_at_call 34; (with_reducible refine (HA4.out _).mono ?_); rintro e w2 ⟨rfl, hb⟩; have HX2 := Lib.hid (block_kept HX.out hb); have HB2 := Lib.hid (HB.out.trans (hb.mono HB.out.size)); have y10 := (blk14 HX2.out).2.2.2.2.1; clear hb)
        exact thenK_mk ⟨_, _, _, _, _, _, _, _, _, rfl, HX2, HB2⟩
    · have e : b4 = true := by have h := HC4.out; simpa using h
      clear HC4
      subst e
      go_wp2
      exact thenK_mk ⟨_, _, _, _, _, _, _, _, _, rfl, HX, HB⟩
  clear HX HB
  rintro a1 w2 ⟨d54, d55, d56, d57, d58, d59, d60, d61, d62, rfl, HX, HB⟩
  simp only [List.drop_succ_cons, List.drop_zero]
  refine wpList_cutn 11 (fun a' w' => ∃ d64 d65 d66 d67 d68 d69 d70 d71 d72 d73 : Value, a' = { tmps := #[.agg #[.int .i64 x.k, .int .i64 x.p, .int .i64 x.d, .int .i64 x.t.n, .string x.t.b, .string x.t.s, .string x.t.i, .int .i64 x.t.q, .int .i64 x.t.p, .string x.n, .int .i64 x.a, .slice A n c, .int .i64 x.hi, .int .u64 x.lo], .pointer (some ⟨w.heap.size, 0, none⟩), .int .i64 0, .int .i64 x.k, undef, undef, undef, undef, .pointer (some ⟨w.heap.size, 0, none⟩), .int .i64 x.k, .int .i64 x.k, .string s, .bool false, d13, d14, d15, d16, d17, d18, d19, d20, .bool b0, d22, d23, d24, d25, d26, d27, d28, d29, d30, .bool b1, d32, d33, d34, d35, d36, d37, d38, d39, d40, d41, .bool b2, d43, d44, d45, d46, d47, d48, d49, d50, d51, d52, .bool b3, d54, d55, d56, d57, d58, d59, d60, d61, d62, .bool b4, d64, d65, d66, d67, d68, d69, d70, d71, d72, d73, .bool b5, undef, undef, undef, undef, undef, undef, undef, undef, undef, undef, undef, undef, undef, undef, undef, undef, undef, undef, undef, undef, undef, undef, undef, undef, undef, undef, undef, undef, undef, undef, undef, undef, undef, undef, undef, undef, undef, undef, undef, undef, undef, undef, undef, undef, undef, undef, undef, undef, undef, undef, undef, undef, undef, undef, undef, undef, undef, undef, undef, undef, undef, undef, undef, undef, undef, undef, undef, undef, undef, undef, undef, undef, undef, undef, undef, undef, undef, undef, undef, undef, undef, undef, undef, undef, undef, undef, undef, undef, undef, undef, undef, undef, undef, undef, undef, undef, undef, undef, undef, undef, undef, undef, undef, undef, undef, undef, undef, undef, undef, undef, undef, undef, undef, undef, undef, undef, undef, undef, undef, undef, undef, undef, undef, undef, undef, undef, undef, undef, undef, undef, undef], defers := [] } ∧ Hid (w'.heap[w.heap.size]? = some (.cells #[.int .i64 x.k, .int .i64 x.p, .int .i64 x.d, .int .i64 x.t.n, .string x.t.b, .string x.t.s, .string x.t.i, .int .i64 x.t.q, .int .i64 x.t.p, .string x.n, .int .i64 x.a, .slice A n c, .int .i64 x.hi, .int .u64 x.lo] 27 (0, 0))) ∧ Hid (Below w.heap.size w w')) ?_ ?_
  · simp only [List.take_succ_cons, List.take_zero]
    cases b4
    · cases g5
      · have e : b5 = decide (0 < n) := by have h := HC5.out; simpa using h
        clear HC5
        subst e
        go_wp2_with (go_at_call 34; (with_reducible refine (HA5.out _).mono ?_); rintro e w2 ⟨rfl, hb⟩; have HX2 := Lib.hid (block_kept HX.out hb); have HB2 := Lib.hid (HB.out.trans (hb.mono HB.out.size)); have y11 := (blk14 HX2.out).2.2.2.2.2.1; clear hb)
        exact thenK_mk ⟨_, _, _, _, _, _, _, _, _, _, rfl, HX2, HB2⟩
      · have e : b5 = false := by have h := HC5.out; simpa using h
        clear HC5
        subst e
        go_wp2_with (go_at_call 34; (with_reducible refine (HA5.out _).mono ?_); rintro e w2 ⟨rfl, hb⟩; have HX2 := Lib.hid (block_kept HX.out hb); have HB2 := Lib.hid (HB.out.trans (hb.mono HB.out.size)); have y11 := (blk14 HX2.out).2.2.2.2.2.1; clear hb)
        exact thenK_mk ⟨_, _, _, _, _, _, _, _, _, _, rfl, HX2, HB2⟩
    · have e : b5 = true := by have h := HC5.out; simpa using h
      clear HC5
      subst e
      go_wp2
      exact thenK_mk ⟨_, _, _, _, _, _, _, _, _, _, rfl, HX, HB⟩
  clear HX HB
  rintro a1 w2 ⟨d64, d65, d66, d67, d68, d69, d70, d71, d72, d73, rfl, HX, HB⟩
  simp only [List.drop_succ_cons, List.drop_zero]
  refine wpList_cutn 14 (fun a' w' => ∃ d75 d76 d77 d78 d79 d80 d81 d82 d83 d84 d85 d86 d87 : Value, a' = { tmps := #[.agg #[.int .i64 x.k, .int .i64 x.p, .int .i64 x.d, .int .i64 x.t.n, .string x.t.b, .string x.t.s, .string x.t.i, .int .i64 x.t.q, .int .i64 x.t.p, .string x.n, .int .i64 x.a, .slice A n c, .int .i64 x.hi, .int .u64 x.lo], .pointer (some ⟨w.heap.size, 0, none⟩), .int .i64 0, .int .i64 x.k, undef, undef, undef, undef, .pointer (some ⟨w.heap.size, 0, none⟩), .int .i64 x.k, .int .i64 x.k, .string s, .bool false, d13, d14, d15, d16, d17, d18, d19, d20, .bool b0, d22, d23, d24, d25, d26, d27, d28, d29, d30, .bool b1, d32, d33, d34, d35, d36, d37, d38, d39, d40, d41, .bool b2, d43, d44, d45, d46, d47, d48, d49, d50, d51, d52, .bool b3, d54, d55, d56, d57, d58, d59, d60, d61, d62, .bool b4, d64, d65, d66, d67, d68, d69, d70, d71, d72, d73, .bool b5, d75, d76, d77, d78, d79, d80, d81, d82, d83, d84, d85, d86, d87, .bool b6, undef, undef, undef, undef, undef, undef, undef, undef, undef, undef, undef, undef, undef, undef, undef, undef, undef, undef, undef, undef, undef, undef, undef, undef, undef, undef, undef, undef, undef, undef, undef, undef, undef, undef, undef, undef, undef, undef, undef, undef, undef, undef, undef, undef, undef, undef, undef, undef, undef, undef, undef, undef, undef, undef, undef, undef, undef, undef, undef, undef, undef, undef, undef, undef, undef, undef, undef, undef, undef, undef, undef, undef, undef, undef, undef, undef, undef, undef, undef, undef, undef, undef, undef, undef, undef, undef, undef, undef, undef, undef, undef, undef, undef, undef, undef, undef, undef, undef, undef, undef, undef, undef, undef, undef, undef, undef, undef, undef, undef, undef, undef, undef, undef, undef, undef, undef, undef], defers := [] } ∧ Hid (w'.heap[w.heap.size]? = some (.cells #[.int .i64 x.k, .int .i64 x.p, .int .i64 x.d, .int .i64 x.t.n, .string x.t.b, .string x.t.s, .string x.t.i, .int .i64 x.t.q, .int .i64 x.t.p, .string x.n, .int .i64 x.a, .slice A n c, .int .i64 x.hi, .int .u64 x.lo] 27 (0, 0))) ∧ Hid (Below w.heap.size w w')) ?_ ?_
  · simp only [List.take_succ_cons, List.take_zero]
    cases b5
    · cases g6
      · have e : b6 = ((x.hi != 0) || (x.lo != 0)) := by have h := HC6.out; simpa using h
        clear HC6
        subst e
        cases hz : (x.hi != 0)
        · simp only [Bool.false_or]
          go_wp2_with (go_at_call 34; (with_reducible refine (HA6.out _).mono ?_); rintro e w2 ⟨rfl, hb⟩; have HX2 := Lib.hid (block_kept HX.out hb); have HB2 := Lib.hid (HB.out.trans (hb.mono HB.out.size)); have y12 := (blk14 HX2.out).2.2.2.2.2.2.1; have y13 := (blk14 HX2.out).2.2.2.2.2.2.2; clear hb)
          exact thenK_mk ⟨_, _, _, _, _, _, _, _, _, _, _, _, _, rfl, HX2, HB2⟩
        · simp only [Bool.true_or]
          go_wp2_with (go_at_call 34; (with_reducible refine (HA6.out _).mono ?_); rintro e w2 ⟨rfl, hb⟩; have HX2 := Lib.hid (block_kept HX.out hb); have HB2 := Lib.hid (HB.out.trans (hb.mono HB.out.size)); have y12 := (blk14 HX2.out).2.2.2.2.2.2.1; have y13 := (blk14 HX2.out).2.2.2.2.2.2.2; clear hb)
          exact thenK_mk ⟨_, _, _, _, _, _, _, _, _, _, _, _, _, rfl, HX2, HB2⟩
      · have e : b6 = false := by have h := HC6.out; simpa using h
        clear HC6
        subst e
        go_wp2_with (go_at_call 34; (with_reducible refine (HA6.out _).mono ?_); rintro e w2 ⟨rfl, hb⟩; have HX2 := Lib.hid (block_kept HX.out hb); have HB2 := Lib.hid (HB.out.trans (hb.mono HB.out.size)); have y12 := (blk14 HX2.out).2.2.2.2.2.2.1; have y13 := (blk14 HX2.out).2.2.2.2.2.2.2; clear hb)
        exact thenK_mk ⟨_, _, _, _, _, _, _, _, _, _, _, _, _, rfl, HX2, HB2⟩
    · have e : b6 = true := by have h := HC6.out; simpa using h
      clear HC6
      subst e
      go_wp2
      exact thenK_mk ⟨_, _, _, _, _, _, _, _, _, _, _, _, _, rfl, HX, HB⟩
  clear HX HB
  rintro a1 w2 ⟨d75, d76, d77, d78, d79, d80, d81, d82, d83, d84, d85, d86, d87, rfl, HX, HB⟩
  simp only [List.drop_succ_cons, List.drop_zero]
  refine wpList_nil ?_
  have HX3 := HX
  obtain ⟨⟨y0, y1, y2, y3, y4, y5, y6⟩, y7, y8, y9, y10, y11, y12, y13⟩ := blk14 HX3.out
  cases b6
  · by_cases p1 : x.p < 0
    · have hpo : pOk x = false := by unfold pOk; rw [decide_eq_false (by omega), Bool.false_and]
      obtain rfl : r = 5 := by rw [HR.out]; simp [chkR, hpo]
      clear hpo
      go_wp2
      go_ret
      exact ⟨rfl, HB.out⟩
    by_cases p2 : 2 < x.p
    · have hpo : pOk x = false := by unfold pOk; rw [decide_eq_false (p := x.p < 3) (by omega), Bool.and_false]
      obtain rfl : r = 5 := by rw [HR.out]; simp [chkR, hpo]
      clear hpo
      go_wp2
      go_ret
      exact ⟨rfl, HB.out⟩
    have hpo : pOk x = true := by unfold pOk; simp only [Bool.and_eq_true, decide_eq_true_eq]; omega
    go_upto_region 8 with fail
    clear y0 y1 y2 y3 y4 y5 y6 y7 y8 y9 y10 y11 y12 y13
    refine wp_region_lit ?_
    refine wpList_cutn 12 (fun a' w' => ∃ d97 d98 d99 d100 d101 d102 d103 d104 d105 d106 d107 : Value, a' = { tmps := #[.agg #[.int .i64 x.k, .int .i64 x.p, .int .i64 x.d, .int .i64 x.t.n, .string x.t.b, .string x.t.s, .string x.t.i, .int .i64 x.t.q, .int .i64 x.t.p, .string x.n, .int .i64 x.a, .slice A n c, .int .i64 x.hi, .int .u64 x.lo], .pointer (some ⟨w.heap.size, 0, none⟩), .int .i64 0, .int .i64 x.k, undef, undef, undef, undef, .pointer (some ⟨w.heap.size, 0, none⟩), .int .i64 x.k, .int .i64 x.k, .string s, .bool false, d13, d14, d15, d16, d17, d18, d19, d20, .bool b0, d22, d23, d24, d25, d26, d27, d28, d29, d30, .bool b1, d32, d33, d34, d35, d36, d37, d38, d39, d40, d41, .bool b2, d43, d44, d45, d46, d47, d48, d49, d50, d51, d52, .bool b3, d54, d55, d56, d57, d58, d59, d60, d61, d62, .bool b4, d64, d65, d66, d67, d68, d69, d70, d71, d72, d73, .bool b5, d75, d76, d77, d78, d79, d80, d81, d82, d83, d84, d85, d86, d87, .bool false, .pointer (some ⟨w.heap.size, 1, none⟩), .int .i64 x.p, .bool false, .bool false, .pointer (some ⟨w.heap.size, 1, none⟩), .int .i64 x.p, .bool false, .bool false, d97, d98, d99, d100, d101, d102, d103, d104, d105, d106, d107, .bool t8, undef, undef, undef, undef, undef, undef, undef, undef, undef, undef, undef, undef, undef, undef, undef, undef, undef, undef, undef, undef, undef, undef, undef, undef, undef, undef, undef, undef, undef, undef, undef, undef, undef, undef, undef, undef, undef, undef, undef, undef, undef, undef, undef, undef, undef, undef, undef, undef, undef, undef, undef, undef, undef, undef, undef, undef, undef, undef, undef, undef, undef, undef, undef, undef, undef, undef, undef, undef, undef, undef, undef, undef, undef, undef, undef, undef, undef, undef, undef, undef, undef, undef, undef, undef, undef, undef, undef, undef, undef, undef, undef, undef, undef, undef, undef, undef, undef], defers := [] } ∧ Hid (w'.heap[w.heap.size]? = some (.cells #[.int .i64 x.k, .int .i64 x.p, .int .i64 x.d, .int .i64 x.t.n, .string x.t.b, .string x.t.s, .string x.t.i, .int .i64 x.t.q, .int .i64 x.t.p, .string x.n, .int .i64 x.a, .slice A n c, .int .i64 x.hi, .int .u64 x.lo] 27 (0, 0))) ∧ Hid (Below w.heap.size w w')) ?_ ?_
    · simp only [List.take_succ_cons, List.take_zero]
      cases g1
      · have e : t8 = false := by have h := HT8.out; simpa using h
        clear HT8
        subst e
        go_wp2_with (go_at_call 34; (with_reducible refine (HA1.out _).mono ?_); rintro e w3 ⟨rfl, hb⟩; have HXn := Lib.hid (block_kept HX.out hb); have HBn := Lib.hid (HB.out.trans (hb.mono HB.out.size)); obtain ⟨⟨z0, z1, z2, z3, z4, z5, z6⟩, z7, z8, z9, z10, z11, z12, z13⟩ := blk14 HXn.out; clear hb)
        exact thenK_mk ⟨_, _, _, _, _, _, _, _, _, _, _, rfl, HXn, HBn⟩
      · by_cases d1 : x.d < 1
        · have e : t8 = true := by
            have h := HT8.out
            rw [h, show dOk x = false by unfold dOk; rw [decide_eq_false (by omega), Bool.false_and]]; rfl
          clear HT8
          subst e
          go_wp2_with (go_at_call 34; (with_reducible refine (HA1.out _).mono ?_); rintro e w3 ⟨rfl, hb⟩; have HXn := Lib.hid (block_kept HX.out hb); have HBn := Lib.hid (HB.out.trans (hb.mono HB.out.size)); obtain ⟨⟨z0, z1, z2, z3, z4, z5, z6⟩, z7, z8, z9, z10, z11, z12, z13⟩ := blk14 HXn.out; clear hb)
          exact thenK_mk ⟨_, _, _, _, _, _, _, _, _, _, _, rfl, HXn, HBn⟩
        · by_cases d2 : 500 < x.d
          · have e : t8 = true := by
              have h := HT8.out
              rw [h, show dOk x = false by unfold dOk; rw [decide_eq_false (p := x.d ≤ 500) (by omega), Bool.and_false]]; rfl
            clear HT8
            subst e
            go_wp2_with (go_at_call 34; (with_reducible refine (HA1.out _).mono ?_); rintro e w3 ⟨rfl, hb⟩; have HXn := Lib.hid (block_kept HX.out hb); have HBn := Lib.hid (HB.out.trans (hb.mono HB.out.size)); obtain ⟨⟨z0, z1, z2, z3, z4, z5, z6⟩, z7, z8, z9, z10, z11, z12, z13⟩ := blk14 HXn.out; clear hb)
            exact thenK_mk ⟨_, _, _, _, _, _, _, _, _, _, _, rfl, HXn, HBn⟩
          · have e : t8 = false := by
              have h := HT8.out
              rw [h, show dOk x = true by unfold dOk; rw [decide_eq_true (by omega), decide_eq_true (by omega)]; rfl]; rfl
            clear HT8
            subst e
            have d3 : x.d ≤ 500 := by omega
            have d4 : decide (500 < x.d) = false := decide_eq_false d2
            have d5 : decide (x.d < 1) = false := decide_eq_false d1
            go_wp2_with (go_at_call 34; (with_reducible refine (HA1.out _).mono ?_); rintro e w3 ⟨rfl, hb⟩; have HXn := Lib.hid (block_kept HX.out hb); have HBn := Lib.hid (HB.out.trans (hb.mono HB.out.size)); obtain ⟨⟨z0, z1, z2, z3, z4, z5, z6⟩, z7, z8, z9, z10, z11, z12, z13⟩ := blk14 HXn.out; clear hb)
            exact thenK_mk ⟨_, _, _, _, _, _, _, _, _, _, _, rfl, HXn, HBn⟩
    clear HX HB HX3
    rintro a1 w4 ⟨d97, d98, d99, d100, d101, d102, d103, d104, d105, d106, d107, rfl, HX, HB⟩
    simp only [List.drop_succ_cons, List.drop_zero]
    refine wpList_nil ?_
    cases t8
    · go_upto_region 10 with fail
      refine wp_region_lit ?_
      refine wpList_cutn 8 (fun a' w' => ∃ d109 d110 d111 d112 d113 d114 d115 : Value, a' = { tmps := #[.agg #[.int .i64 x.k, .int .i64 x.p, .int .i64 x.d, .int .i64 x.t.n, .string x.t.b, .string x.t.s, .string x.t.i, .int .i64 x.t.q, .int .i64 x.t.p, .string x.n, .int .i64 x.a, .slice A n c, .int .i64 x.hi, .int .u64 x.lo], .pointer (some ⟨w.heap.size, 0, none⟩), .int .i64 0, .int .i64 x.k, undef, undef, undef, undef, .pointer (some ⟨w.heap.size, 0, none⟩), .int .i64 x.k, .int .i64 x.k, .string s, .bool false, d13, d14, d15, d16, d17, d18, d19, d20, .bool b0, d22, d23, d24, d25, d26, d27, d28, d29, d30, .bool b1, d32, d33, d34, d35, d36, d37, d38, d39, d40, d41, .bool b2, d43, d44, d45, d46, d47, d48, d49, d50, d51, d52, .bool b3, d54, d55, d56, d57, d58, d59, d60, d61, d62, .bool b4, d64, d65, d66, d67, d68, d69, d70, d71, d72, d73, .bool b5, d75, d76, d77, d78, d79, d80, d81, d82, d83, d84, d85, d86, d87, .bool false, .pointer (some ⟨w.heap.size, 1, none⟩), .int .i64 x.p, .bool false, .bool false, .pointer (some ⟨w.heap.size, 1, none⟩), .int .i64 x.p, .bool false, .bool false, d97, d98, d99, d100, d101, d102, d103, d104, d105, d106, d107, .bool false, d109, d110, d111, d112, d113, d114, d115, .bool t10, undef, undef, undef, undef, undef, undef, undef, undef, undef, undef, undef, undef, undef, undef, undef, undef, undef, undef, undef, undef, undef, undef, undef, undef, undef, undef, undef, undef, undef, undef, undef, undef, undef, undef, undef, undef, undef, undef, undef, undef, undef, undef, undef, undef, undef, undef, undef, undef, undef, undef, undef, undef, undef, undef, undef, undef, undef, undef, undef, undef, undef, undef, undef, undef, undef, undef, undef, undef, undef, undef, undef, undef, undef, undef, undef, undef, undef, undef, undef, undef, undef, undef, undef, undef, undef, undef, undef, undef, undef], defers := [] } ∧ Hid (w'.heap[w.heap.size]? = some (.cells #[.int .i64 x.k, .int .i64 x.p, .int .i64 x.d, .int .i64 x.t.n, .string x.t.b, .string x.t.s, .string x.t.i, .int .i64 x.t.q, .int .i64 x.t.p, .string x.n, .int .i64 x.a, .slice A n c, .int .i64 x.hi, .int .u64 x.lo] 27 (0, 0))) ∧ Hid (Below w.heap.size w w')) ?_ ?_
      · simp only [List.take_succ_cons, List.take_zero]
        cases g2
        · have e : t10 = false := by have h := HT10.out; simpa using h
          clear HT10
          subst e
          go_wp2_with (go_at_call 34; (with_reducible refine (HA2.out _).mono ?_); rintro e w3 ⟨rfl, hb⟩; have HXn := Lib.hid (block_kept HX.out hb); have HBn := Lib.hid (HB.out.trans (hb.mono HB.out.size)); obtain ⟨⟨z0, z1, z2, z3, z4, z5, z6⟩, z7, z8, z9, z10, z11, z12, z13⟩ := blk14 HXn.out; clear hb)
          exact thenK_mk ⟨_, _, _, _, _, _, _, rfl, HXn, HBn⟩
        · have e : t10 = (tc != 0) := by have h := HT10.out; rw [h]; rfl
          clear HT10
          subst e
          go_wp2_with (first | (go_at_call 34; (with_reducible refine (HA2.out _).mono ?_); rintro e w3 ⟨rfl, hb⟩; have HXn := Lib.hid (block_kept HX.out hb); have HBn := Lib.hid (HB.out.trans (hb.mono HB.out.size)); obtain ⟨⟨z0, z1, z2, z3, z4, z5, z6⟩, z7, z8, z9, z10, z11, z12, z13⟩ := blk14 HXn.out; clear hb) | (go_at_call 35; (with_reducible refine (HTC.out _).mono ?_); rintro e w3 ⟨rfl, hb⟩; have HXnn := Lib.hid (block_kept HXn.out hb); have HBnn := Lib.hid (HBn.out.trans (hb.mono HBn.out.size)); obtain ⟨⟨z0, z1, z2, z3, z4, z5, z6⟩, z7, z8, z9, z10, z11, z12, z13⟩ := blk14 HXnn.out; clear hb))
          exact thenK_mk ⟨_, _, _, _, _, _, _, rfl, HXnn, HBnn⟩
      clear HX HB
      rintro a1 w5 ⟨d109, d110, d111, d112, d113, d114, d115, rfl, HX, HB⟩
      simp only [List.drop_succ_cons, List.drop_zero]
      refine wpList_nil ?_
      cases t10
      · go_upto_region 12 with fail
        rename_i K1 hK1 K2 hK2
        have J : ∀ (a : Act) (w9 : World), (∃ d4 d117 d118 d119 d120 d121 d122 d123 d124 d125 d126 d127 d128 d129 d130 d131 d132 : Value, a = { tmps := #[.agg #[.int .i64 x.k, .int .i64 x.p, .int .i64 x.d, .int .i64 x.t.n, .string x.t.b, .string x.t.s, .string x.t.i, .int .i64 x.t.q, .int .i64 x.t.p, .string x.n, .int .i64 x.a, .slice A n c, .int .i64 x.hi, .int .u64 x.lo], .pointer (some ⟨w.heap.size, 0, none⟩), .int .i64 0, .int .i64 x.k, d4, undef, undef, undef, .pointer (some ⟨w.heap.size, 0, none⟩), .int .i64 x.k, .int .i64 x.k, .string s, .bool false, d13, d14, d15, d16, d17, d18, d19, d20, .bool b0, d22, d23, d24, d25, d26, d27, d28, d29, d30, .bool b1, d32, d33, d34, d35, d36, d37, d38, d39, d40, d41, .bool b2, d43, d44, d45, d46, d47, d48, d49, d50, d51, d52, .bool b3, d54, d55, d56, d57, d58, d59, d60, d61, d62, .bool b4, d64, d65, d66, d67, d68, d69, d70, d71, d72, d73, .bool b5, d75, d76, d77, d78, d79, d80, d81, d82, d83, d84, d85, d86, d87, .bool false, .pointer (some ⟨w.heap.size, 1, none⟩), .int .i64 x.p, .bool false, .bool false, .pointer (some ⟨w.heap.size, 1, none⟩), .int .i64 x.p, .bool false, .bool false, d97, d98, d99, d100, d101, d102, d103, d104, d105, d106, d107, .bool false, d109, d110, d111, d112, d113, d114, d115, .bool false, d117, d118, d119, d120, d121, d122, d123, d124, d125, d126, d127, d128, d129, d130, d131, d132, undef, undef, undef, undef, undef, undef, undef, undef, undef, undef, undef, undef, undef, undef, undef, undef, undef, undef, undef, undef, undef, undef, undef, undef, undef, undef, undef, undef, undef, undef, undef, undef, undef, undef, undef, undef, undef, undef, undef, undef, undef, undef, undef, undef, undef, undef, undef, undef, undef, undef, undef, undef, undef, undef, undef, undef, undef, undef, undef, undef, undef, undef, undef, undef, undef, undef, undef, undef, undef, undef, undef, undef, undef], defers := [] } ∧ Hid (w9.heap[w.heap.size]? = some (.cells #[.int .i64 x.k, .int .i64 x.p, .int .i64 x.d, .int .i64 x.t.n, .string x.t.b, .string x.t.s, .string x.t.i, .int .i64 x.t.q, .int .i64 x.t.p, .string x.n, .int .i64 x.a, .slice A n c, .int .i64 x.hi, .int .u64 x.lo] 27 (0, 0))) ∧ Hid (Below w.heap.size w w9)) → Hid ((g3 && (nameN x != 0)) = false) → K1 a w9 := by
          rintro a w9 ⟨d4, d117, d118, d119, d120, d121, d122, d123, d124, d125, d126, d127, d128, d129, d130, d131, d132, rfl, HX, HB⟩ hnm
          refine hK1 _ _ ?_
          clear hK1 hK2
          have HR9 : Hid (r = if t18 = true then 2 else rowsE x.k l) := by show _ = _; rw [HR.out]; simp [chkR, hpo, hnm.out]
          obtain ⟨⟨y0, y1, y2, y3, y4, y5, y6⟩, y7, y8, y9, y10, y11, y12, y13⟩ := blk14 HX.out
          clear HR hnm HG0 HG1 HG2 HG3 HG4 HG5 HG6 HC0 HC1 HC2 HC3 HC4 HC5 HTE HQ2
          go_upto_region 18 with fail
          dsimp only
          go_cut [153] from 133 to 153 (fun s wx => s = .bool t18 ∧ Hid (wx.heap[w.heap.size]? = some (.cells #[.int .i64 x.k, .int .i64 x.p, .int .i64 x.d, .int .i64 x.t.n, .string x.t.b, .string x.t.s, .string x.t.i, .int .i64 x.t.q, .int .i64 x.t.p, .string x.n, .int .i64 x.a, .slice A n c, .int .i64 x.hi, .int .u64 x.lo] 27 (0, 0))) ∧ Hid (Below w.heap.size w wx))
          case first =>
            clear HR9
            cases g4
            · have e : t18 = false := by have h := HT18.out; simpa using h
              clear HT18
              subst e
              go_wp2_with (go_at_call 34; (with_reducible refine (HA4.out _).mono ?_); rintro e w3 ⟨rfl, hb⟩; have HXn := Lib.hid (block_kept HX.out hb); have HBn := Lib.hid (HB.out.trans (hb.mono HB.out.size)); obtain ⟨⟨z0, z1, z2, z3, z4, z5, z6⟩, z7, z8, z9, z10, z11, z12, z13⟩ := blk14 HXn.out; clear hb)
              go_meet
              exact ⟨rfl, HXn, HBn⟩
            · have e : t18 = !amtB x := by have h := HT18.out; simpa using h
              clear HT18
              have h3e : (x.k = 3 ∧ (x.k != 3) = false) ∨ (¬ x.k = 3 ∧ (x.k != 3) = true) := by
                by_cases h : x.k = 3
                · exact .inl ⟨h, by rw [h]; rfl⟩
                · exact .inr ⟨h, by simp [h]⟩
              obtain ⟨kb, hkb⟩ : ∃ kb, (x.k != 3) = kb := ⟨_, rfl⟩
              have ha : amtB x = if x.k = 3 then isP x.a else (decide (1 ≤ x.a) && decide (x.a < 2147483648)) := rfl
              by_cases a1 : (2147483647 : Int) < x.a
              · have e2 : t18 = true := by
                  rw [e, ha]; unfold isP
                  rw [decide_eq_false (p := x.a < 2147483648) (by omega)]; simp
                clear e ha h3e
                subst e2
                go_wp2_with (go_at_call 34; (with_reducible refine (HA4.out _).mono ?_); rintro e w3 ⟨rfl, hb⟩; have HXn := Lib.hid (block_kept HX.out hb); have HBn := Lib.hid (HB.out.trans (hb.mono HB.out.size)); obtain ⟨⟨z0, z1, z2, z3, z4, z5, z6⟩, z7, z8, z9, z10, z11, z12, z13⟩ := blk14 HXn.out; clear hb)
                go_meet
                exact ⟨rfl, HXn, HBn⟩
              · by_cases a2 : x.a < 0
                · have e2 : t18 = true := by
                    rw [e, ha]; unfold isP
                    rw [decide_eq_false (p := 0 ≤ x.a) (by omega), decide_eq_false (p := 1 ≤ x.a) (by omega)]; simp
                  clear e ha h3e
                  subst e2
                  go_wp2_with (go_at_call 34; (with_reducible refine (HA4.out _).mono ?_); rintro e w3 ⟨rfl, hb⟩; have HXn := Lib.hid (block_kept HX.out hb); have HBn := Lib.hid (HB.out.trans (hb.mono HB.out.size)); obtain ⟨⟨z0, z1, z2, z3, z4, z5, z6⟩, z7, z8, z9, z10, z11, z12, z13⟩ := blk14 HXn.out; clear hb)
                  go_meet
                  exact ⟨rfl, HXn, HBn⟩
                · by_cases a3 : x.a = 0
                  · have e2 : t18 = kb := by
                      rw [e, ha, ← hkb]
                      rcases h3e with ⟨h, h4⟩ | ⟨h, h4⟩
                      · rw [if_pos h, h4, a3]; rfl
                      · rw [if_neg h, h4, a3]; rfl
                    have a4 : (x.a == 0) = true := by simp [a3]
                    clear e ha h3e
                    subst e2
                    have A3 := Lib.hid a3
                    clear a3
                    go_wp2_with (go_at_call 34; (with_reducible refine (HA4.out _).mono ?_); rintro e w3 ⟨rfl, hb⟩; have HXn := Lib.hid (block_kept HX.out hb); have HBn := Lib.hid (HB.out.trans (hb.mono HB.out.size)); obtain ⟨⟨z0, z1, z2, z3, z4, z5, z6⟩, z7, z8, z9, z10, z11, z12, z13⟩ := blk14 HXn.out; clear hb)
                    go_meet
                    exact ⟨by rw [decide_eq_false (p := (2147483647 : Int) < x.a) (by omega), decide_eq_false (p := x.a < 0) (by omega)]; rfl, HXn, HBn⟩
                  · have e2 : t18 = false := by
                      rw [e, ha]; unfold isP
                      rw [decide_eq_true (p := 0 ≤ x.a) (by omega), decide_eq_true (p := 1 ≤ x.a) (by omega), decide_eq_true (p := x.a < 2147483648) (by omega)]; simp
                    have a4 : (x.a == 0) = false := by simp [a3]
                    clear e ha h3e
                    subst e2
                    have A3 := Lib.hid a3
                    clear a3
                    go_wp2_with (go_at_call 34; (with_reducible refine (HA4.out _).mono ?_); rintro e w3 ⟨rfl, hb⟩; have HXn := Lib.hid (block_kept HX.out hb); have HBn := Lib.hid (HB.out.trans (hb.mono HB.out.size)); obtain ⟨⟨z0, z1, z2, z3, z4, z5, z6⟩, z7, z8, z9, z10, z11, z12, z13⟩ := blk14 HXn.out; clear hb)
                    go_meet
                    exact ⟨by rw [decide_eq_false (p := (2147483647 : Int) < x.a) (by omega), decide_eq_false (p := x.a < 0) (by omega)]; rfl, HXn, HBn⟩
          case rest =>
            obtain ⟨rfl, HX4, HB4⟩ := hcut
            clear HX HB y0 y1 y2 y3 y4 y5 y6 y7 y8 y9 y10 y11 y12 y13
            cases t18
            · have HR8 : Hid (r = rowsE x.k l) := HR9
              clear HR9 HT18 HT8 HT10
              have hm := _hs.out.2.2.1
              rw [← _hn.out] at hm
              have y11 := (blk14 HX4.out).2.2.2.2.2.1
              by_cases h32 : 32 < n
              · obtain rfl : r = 2 := by rw [HR8.out]; unfold rowsE; rw [if_pos (by rw [← _hn.out]; exact h32)]
                have t0 : (32 : Int) < (n : Int) := by omega
                clear HR8
                go_wp2
                go_ret
                exact ⟨rfl, HB4.out⟩
              · have HR7 : Hid (r = if isE l ≠ 0 then isE l else if srtB l = false then 8 else unl ((x.k != 10) || !dearB l) 2) := by show _ = _; rw [HR8.out]; unfold rowsE; rw [if_neg (by rw [← _hn.out]; exact h32)]
                have t0 : ¬ (32 : Int) < (n : Int) := by omega
                have HL := Lib.hid (_hl.out.below HB4.out)
                clear HR8
                go_wp2
                go_loopg [5, 6] n (fun (gh : Nat) si _ wx => ∃ i : Nat, gh = n - i ∧ i ≤ n ∧ si = .int .i64 (i : Int) ∧ Hid (Below wc.heap.size wc wx) ∧ Hid (isE l = isE (l.drop i)))
                case atStart => exact ⟨0, by omega, by omega, rfl, Below.refl _ _, by show _ = _; rw [List.drop_zero]⟩
                case round =>
                  obtain ⟨i, rfl, hi, rfl, HB, HS⟩ := hrel
                  have y11 : wr.cell? ⟨w.heap.size, 11, none⟩ = some (.slice A n c) := (blk14 (block_kept HX4.out HB.out)).2.2.2.2.2.1
                  by_cases hlt : i < n
                  · have t1 : (i : Int) < (n : Int) := by omega
                    have t2 : (0 : Int) ≤ (i : Int) := by omega
                    obtain ⟨m, hx⟩ : ∃ m, l[i]? = some m := ⟨_, List.getElem?_eq_getElem (by rw [← _hn.out]; exact hlt)⟩
                    have hstep := isE_step hx
                    have hmem : m ∈ l := List.mem_of_getElem? hx
                    have hsz := _hs.out.2.2.2 m hmem
                    obtain ⟨g, o, rfl, hg, cx, dx⟩ := (HL.out.below HB.out).at hx
                    obtain ⟨z, hz⟩ : ∃ z, z = Id.isinN (Id.sb m.1) := ⟨_, rfl⟩
                    rw [← hz] at hstep
                    have HI : Hid (∀ W, Calls Tryd.prog 37 #[.string m.1] W fun e w' => e = .returned (.int .i64 z) ∧ Below W.heap.size W w') := fun W => by rw [hz]; exact Id.refIsin_any W m.1 hsz
                    have HX : Hid (isE l = if z = 0 then isE (l.drop (i + 1)) else z) := by show _ = _; rw [HS.out, hstep]
                    clear hstep hx HS hz hmem hsz
                    by_cases h0 : z = 0
                    · have HX' : Hid (isE l = isE (l.drop (i + 1))) := by show _ = _; rw [HX.out, if_pos h0]
                      subst h0
                      clear HX
                      go_wp2_with (go_at_call 37; (with_reducible refine (HI.out _).mono ?_); rintro e w1 ⟨rfl, hb⟩; have HB2 := Lib.hid (HB.out.trans (hb.mono HB.out.size)); clear hb)
                      go_roundg (n - (i + 1))
                      case measure => omega
                      case rel => exact ⟨i + 1, rfl, by omega, by go_num, HB2.out, HX'⟩
                    · have hz2 : (z != 0) = true := by simpa using h0
                      obtain rfl : r = z := by rw [HR7.out, HX.out, if_neg h0, if_pos h0]
                      clear HX HR7
                      go_wp2_with (go_at_call 37; (with_reducible refine (HI.out _).mono ?_); rintro e w1 ⟨rfl, hb⟩; have HB2 := Lib.hid (HB.out.trans (hb.mono HB.out.size)); clear hb)
                      go_ret
                      exact ⟨rfl, HB4.out.trans (HB2.out.mono HB4.out.size)⟩
                  · have hq : isE l = 0 := by rw [HS.out, List.drop_eq_nil_of_le (by rw [← _hn.out]; omega)]; rfl
                    have HR2 : Hid (r = if srtB l = false then 8 else unl ((x.k != 10) || !dearB l) 2) := by show _ = _; rw [HR7.out, hq]; rfl
                    obtain ⟨b, hb⟩ : ∃ b, b = srtB l := ⟨_, rfl⟩
                    have HSo := Lib.hid fun (W : World) (hW : Below wr.heap.size wr W) => sortedF W A n c l ((HL.out.below HB.out).below hW) _hn hm (Lib.hid hb)
                    rw [← hb] at HR2
                    clear hq HR7 hb HS
                    cases b
                    · obtain rfl : r = 8 := HR2.out
                      clear HR2
                      go_wp2_with (go_at_call 16; (with_reducible refine (HSo.out _ (Below.refl _ _)).mono ?_); rintro e w1 ⟨rfl, hb⟩; have HB2 := Lib.hid (HB.out.trans (hb.mono HB.out.size)); clear hb)
                      go_ret
                      exact ⟨rfl, HB4.out.trans (HB2.out.mono HB4.out.size)⟩
                    · have HR3 : Hid (r = unl ((x.k != 10) || !dearB l) 2) := HR2
                      clear HR2
                      go_wp2_with (go_at_call 16; (with_reducible refine (HSo.out _ (Below.refl _ _)).mono ?_); rintro e w1 ⟨rfl, hb⟩; have HB2 := Lib.hid (HB.out.trans (hb.mono HB.out.size)); clear hb)
                      have HB3 : Hid (Below wc.heap.size wc w1) := HB2
                      obtain ⟨kb, hkb⟩ : ∃ kb, (x.k == 10) = kb := ⟨_, rfl⟩
                      have hk2 : (x.k != 10) = !kb := by rw [← hkb]; rfl
                      rw [hk2] at HR3
                      clear hk2
                      go_loopg [7] n (fun (gh : Nat) si wx => ∃ i : Nat, gh = n - i ∧ i ≤ n ∧ si = .int .i64 (i : Int) ∧ Hid (Below wc.heap.size wc wx) ∧ Hid (kb = true → dearB l = dearB (l.drop i)))
                      case atStart => exact ⟨0, by omega, by omega, rfl, HB3, fun _ => by rw [List.drop_zero]⟩
                      case round =>
                        obtain ⟨i, rfl, hi, rfl, HB, HS⟩ := hrel
                        have y11 : wr.cell? ⟨w.heap.size, 11, none⟩ = some (.slice A n c) := (blk14 (block_kept HX4.out HB.out)).2.2.2.2.2.1
                        by_cases hlt : i < n
                        · have t1 : (i : Int) < (n : Int) := by omega
                          have t2 : (0 : Int) ≤ (i : Int) := by omega
                          cases kb
                          · have HS' : Hid (false = true → dearB l = dearB (l.drop (i + 1))) := fun h => by cases h
                            clear HS
                            go_wp2
                            go_roundg (n - (i + 1))
                            case measure => omega
                            case rel => exact ⟨i + 1, rfl, by omega, by go_num, HB.out, HS'⟩
                          · obtain ⟨m, hx⟩ : ∃ m, l[i]? = some m := ⟨_, List.getElem?_eq_getElem (by rw [← _hn.out]; exact hlt)⟩
                            obtain ⟨g, o, rfl, hg, cx, dx⟩ := (HL.out.below HB.out).at hx
                            have hds : dearB (l.drop i) = (!(isP m.2) || dearB (l.drop (i + 1))) := by
                              obtain ⟨k1, rfl⟩ := List.getElem?_eq_some_iff.1 hx
                              rw [List.drop_eq_getElem_cons k1]; rfl
                            have hdl := (HS.out rfl).trans hds
                            clear hds hx HS
                            by_cases m1 : m.2 < 0
                            · obtain rfl : r = 2 := by
                                rw [HR3.out, hdl]; unfold isP
                                rw [decide_eq_false (p := 0 ≤ m.2) (by omega)]; rfl
                              clear HR3 hdl
                              go_wp2
                              go_ret
                              exact ⟨rfl, HB4.out.trans (HB.out.mono HB4.out.size)⟩
                            · by_cases m2 : (2147483647 : Int) < m.2
                              · obtain rfl : r = 2 := by
                                  rw [HR3.out, hdl]; unfold isP
                                  rw [decide_eq_false (p := m.2 < 2147483648) (by omega), Bool.and_false]; rfl
                                clear HR3 hdl
                                go_wp2
                                go_ret
                                exact ⟨rfl, HB4.out.trans (HB.out.mono HB4.out.size)⟩
                              · have HS' : Hid (true = true → dearB l = dearB (l.drop (i + 1))) := fun _ => by
                                  rw [hdl]; unfold isP
                                  rw [decide_eq_true (p := 0 ≤ m.2) (by omega), decide_eq_true (p := m.2 < 2147483648) (by omega)]; rfl
                                clear hdl
                                go_wp2
                                go_roundg (n - (i + 1))
                                case measure => omega
                                case rel => exact ⟨i + 1, rfl, by omega, by go_num, HB.out, HS'⟩
                        · obtain rfl : r = 0 := by
                            rw [HR3.out]
                            cases kb
                            · rfl
                            · rw [HS.out rfl, List.drop_eq_nil_of_le (by rw [← _hn.out]; omega)]; rfl
                          clear HR3 HS
                          go_wp2
                          go_ret
                          exact ⟨rfl, HB4.out.trans (HB.out.mono HB4.out.size)⟩
            · obtain rfl : r = 2 := HR9.out
              clear HR9
              go_wp2
              go_ret
              exact ⟨rfl, HB4.out⟩
        clear hK1
        cases g3
        · have HN : Hid ((false && (nameN x != 0)) = false) := Lib.hid rfl
          go_wp2_with (go_at_call 34; (with_reducible refine (HA3.out _).mono ?_); rintro e w3 ⟨rfl, hb⟩; have HXn := Lib.hid (block_kept HX.out hb); have HBn := Lib.hid (HB.out.trans (hb.mono HB.out.size)); obtain ⟨⟨z0, z1, z2, z3, z4, z5, z6⟩, z7, z8, z9, z10, z11, z12, z13⟩ := blk14 HXn.out; clear hb)
          exact J _ _ ⟨_, _, _, _, _, _, _, _, _, _, _, _, _, _, _, _, _, rfl, HXn, HBn⟩ HN
        · obtain ⟨nv, hnv⟩ : ∃ v, v = nameN x := ⟨_, rfl⟩
          have hsz := _hs.out.2.1
          have HMN := Lib.hid fun W => Id.refMember_any W x.n hsz
          have HIN := Lib.hid fun W => Id.refIsin_any W x.n hsz
          generalize hm1 : Id.memE (Id.sb x.n) = m1 at HMN
          generalize hm2 : Id.isinN (Id.sb x.n) = m2 at HIN
          clear hsz hnv
          by_cases k3 : x.k = 3
          · have hv : nameN x = m2 := by unfold nameN; rw [if_pos k3, hm2]
            clear hm1 hm2
            by_cases z : m2 = 0
            · have HN : Hid ((true && (nameN x != 0)) = false) := by show _ = _; rw [hv, z]; rfl
              subst z
              have k3b : (x.k == 3) = true := by rw [k3]; rfl
              have K3 := Lib.hid k3
              clear hv k3
              go_wp2_with (first | (go_at_call 34; (with_reducible refine (HA3.out _).mono ?_); rintro e w3 ⟨rfl, hb⟩; have HXn := Lib.hid (block_kept HX.out hb); have HBn := Lib.hid (HB.out.trans (hb.mono HB.out.size)); obtain ⟨⟨z0, z1, z2, z3, z4, z5, z6⟩, z7, z8, z9, z10, z11, z12, z13⟩ := blk14 HXn.out; clear hb) | (go_at_call 36; (with_reducible refine (HMN.out _).mono ?_); rintro e w4 ⟨rfl, rfl⟩) | (go_at_call 37; (with_reducible refine (HIN.out _).mono ?_); rintro e w3 ⟨rfl, hb⟩; have HXnn := Lib.hid (block_kept HXn.out hb); have HBnn := Lib.hid (HBn.out.trans (hb.mono HBn.out.size)); obtain ⟨⟨z0, z1, z2, z3, z4, z5, z6⟩, z7, z8, z9, z10, z11, z12, z13⟩ := blk14 HXnn.out; clear hb))
              exact J _ _ ⟨_, _, _, _, _, _, _, _, _, _, _, _, _, _, _, _, _, rfl, HXnn, HBnn⟩ HN
            · obtain rfl : r = m2 := by rw [HR.out]; simp [chkR, hpo, z, hv]
              have k3b : (x.k == 3) = true := by rw [k3]; rfl
              have zb : (r != 0) = true := by simp [z]
              have K3 := Lib.hid k3
              have ZZ := Lib.hid z
              clear hv k3 z
              go_wp2_with (first | (go_at_call 34; (with_reducible refine (HA3.out _).mono ?_); rintro e w3 ⟨rfl, hb⟩; have HXn := Lib.hid (block_kept HX.out hb); have HBn := Lib.hid (HB.out.trans (hb.mono HB.out.size)); obtain ⟨⟨z0, z1, z2, z3, z4, z5, z6⟩, z7, z8, z9, z10, z11, z12, z13⟩ := blk14 HXn.out; clear hb) | (go_at_call 36; (with_reducible refine (HMN.out _).mono ?_); rintro e w4 ⟨rfl, rfl⟩) | (go_at_call 37; (with_reducible refine (HIN.out _).mono ?_); rintro e w3 ⟨rfl, hb⟩; have HXnn := Lib.hid (block_kept HXn.out hb); have HBnn := Lib.hid (HBn.out.trans (hb.mono HBn.out.size)); obtain ⟨⟨z0, z1, z2, z3, z4, z5, z6⟩, z7, z8, z9, z10, z11, z12, z13⟩ := blk14 HXnn.out; clear hb))
              go_ret
              exact ⟨rfl, HBnn.out⟩
          · have hv : nameN x = m1 := by unfold nameN; rw [if_neg k3, hm1]
            clear hm1 hm2
            by_cases z : m1 = 0
            · have HN : Hid ((true && (nameN x != 0)) = false) := by show _ = _; rw [hv, z]; rfl
              subst z
              have k3b : (x.k == 3) = false := by simp [k3]
              have K3 := Lib.hid k3
              clear hv k3
              go_wp2_with (first | (go_at_call 34; (with_reducible refine (HA3.out _).mono ?_); rintro e w3 ⟨rfl, hb⟩; have HXn := Lib.hid (block_kept HX.out hb); have HBn := Lib.hid (HB.out.trans (hb.mono HB.out.size)); obtain ⟨⟨z0, z1, z2, z3, z4, z5, z6⟩, z7, z8, z9, z10, z11, z12, z13⟩ := blk14 HXn.out; clear hb) | (go_at_call 36; (with_reducible refine (HMN.out _).mono ?_); rintro e w4 ⟨rfl, rfl⟩) | (go_at_call 37; (with_reducible refine (HIN.out _).mono ?_); rintro e w3 ⟨rfl, hb⟩; have HXnn := Lib.hid (block_kept HXn.out hb); have HBnn := Lib.hid (HBn.out.trans (hb.mono HBn.out.size)); obtain ⟨⟨z0, z1, z2, z3, z4, z5, z6⟩, z7, z8, z9, z10, z11, z12, z13⟩ := blk14 HXnn.out; clear hb))
              exact J _ _ ⟨_, _, _, _, _, _, _, _, _, _, _, _, _, _, _, _, _, rfl, HXn, HBn⟩ HN
            · obtain rfl : r = m1 := by rw [HR.out]; simp [chkR, hpo, z, hv]
              have k3b : (x.k == 3) = false := by simp [k3]
              have zb : (r != 0) = true := by simp [z]
              have K3 := Lib.hid k3
              have ZZ := Lib.hid z
              clear hv k3 z
              go_wp2_with (first | (go_at_call 34; (with_reducible refine (HA3.out _).mono ?_); rintro e w3 ⟨rfl, hb⟩; have HXn := Lib.hid (block_kept HX.out hb); have HBn := Lib.hid (HB.out.trans (hb.mono HB.out.size)); obtain ⟨⟨z0, z1, z2, z3, z4, z5, z6⟩, z7, z8, z9, z10, z11, z12, z13⟩ := blk14 HXn.out; clear hb) | (go_at_call 36; (with_reducible refine (HMN.out _).mono ?_); rintro e w4 ⟨rfl, rfl⟩) | (go_at_call 37; (with_reducible refine (HIN.out _).mono ?_); rintro e w3 ⟨rfl, hb⟩; have HXnn := Lib.hid (block_kept HXn.out hb); have HBnn := Lib.hid (HBn.out.trans (hb.mono HBn.out.size)); obtain ⟨⟨z0, z1, z2, z3, z4, z5, z6⟩, z7, z8, z9, z10, z11, z12, z13⟩ := blk14 HXnn.out; clear hb))
              go_ret
              exact ⟨rfl, HBn.out⟩
      · obtain rfl : r = tc := by rw [HR.out]; simp [chkR, hpo]
        obtain ⟨⟨y0, y1, y2, y3, y4, y5, y6⟩, y7, y8, y9, y10, y11, y12, y13⟩ := blk14 HX.out
        go_wp2_with (go_at_call 35; (with_reducible refine (HTC.out _).mono ?_); rintro e w3 ⟨rfl, hb⟩; have HXn := Lib.hid (block_kept HX.out hb); have HBn := Lib.hid (HB.out.trans (hb.mono HB.out.size)); obtain ⟨⟨z0, z1, z2, z3, z4, z5, z6⟩, z7, z8, z9, z10, z11, z12, z13⟩ := blk14 HXn.out; clear hb)
        go_ret
        exact ⟨rfl, HBn.out⟩
    · obtain rfl : r = 2 := by rw [HR.out]; simp [chkR, hpo]
      go_wp2
      go_ret
      exact ⟨rfl, HB.out⟩
  · obtain rfl : r = 1 := by rw [HR.out]; rfl
    go_wp2
    go_ret
    exact ⟨rfl, HB.out⟩
end Go.Proofs.YteahloddjekakaaDoor.Nt
