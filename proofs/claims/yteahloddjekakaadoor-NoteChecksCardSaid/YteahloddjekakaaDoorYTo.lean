/-
  The contracts of the law's To and Of. Conditions: To: texts as long as a text may be.
-/
import Derived.Test.YteahloddjekakaaDoorYCmp
import Derived.Test.YteahloddjekakaaDoorIdA
import Derived.StillTailTactics
namespace Go.Proofs.YteahloddjekakaaDoor.Td
open Go.RowKit

/-- The first 40 bytes. -/
def cut40 (s : ByteArray) : ByteArray := s.extract 0 (min s.size 40)
def cutT (t : Tr) : Tr := ⟨t.n, cut40 t.b, cut40 t.s, cut40 t.i, t.q, t.p⟩
theorem cut40_size (s : ByteArray) : (cut40 s).size ≤ 40 := by
  unfold cut40
  rw [ByteArray.size_extract]; omega
theorem cut40_slice (s : ByteArray) : ∃ n : Nat, n ≤ 40 ∧ (if (40 : Int) < (s.size : Int) then 40 else (s.size : Int)) = (n : Int) ∧ min (s.size : Int) 40 = (n : Int) ∧ ∀ W, (Instr.slice 9 (.string s) none (some (.int .i64 (n : Int))) none).run Tryd.prog W = .ok (.string (cut40 s)) W :=
  ⟨min s.size 40, by omega, by split <;> omega, by omega, fun W => Id.slice_to s (min s.size 40) (by omega) W⟩

theorem below6 {B : Nat} {W w : World} {b : Nat} (h : Below B W w) (hB : B ≤ b) (x0 x1 x2 x3 x4 x5 : Value) :
    Below B W ((((((w.setCell ⟨b, 0, none⟩ x0).setCell ⟨b, 1, none⟩ x1).setCell ⟨b, 2, none⟩ x2).setCell ⟨b, 3, none⟩ x3).setCell ⟨b, 4, none⟩ x4).setCell ⟨b, 5, none⟩ x5) :=
  (((((h.setCell (p := ⟨b, 0, none⟩) hB x0).setCell (p := ⟨b, 1, none⟩) hB x1).setCell (p := ⟨b, 2, none⟩) hB x2).setCell (p := ⟨b, 3, none⟩) hB x3).setCell (p := ⟨b, 4, none⟩) hB x4).setCell (p := ⟨b, 5, none⟩) hB x5

theorem st6_alloc (W : World) {c : Nat} (hc : c = W.heap.size) (y0 y1 y2 y3 y4 y5 x0 x1 x2 x3 x4 x5 : Value) (t : TypeId) :
    ((((((((W.alloc (.cells #[y0, y1, y2, y3, y4, y5] t)).setCell ⟨c, 0, none⟩ x0).setCell ⟨c, 1, none⟩ x1).setCell ⟨c, 2, none⟩ x2).setCell ⟨c, 3, none⟩ x3).setCell ⟨c, 4, none⟩ x4).setCell ⟨c, 5, none⟩ x5)) = W.alloc (.cells #[x0, x1, x2, x3, x4, x5] t) := by
  subst hc
  simp only [World.setCell_alloc_at]
  rfl
theorem cells_eq {a b : Array Value} (h : Value.agg a = Value.agg b) : a = b := by injection h

set_option maxRecDepth 100000 in
set_option maxHeartbeats 4000000 in
theorem to_exact (w : World) (x y : Tr) (hy : Hid (y = cutT x)) :
    Calls Tryd.prog 23 #[.agg #[.int .i64 x.n, .string x.b, .string x.s, .string x.i, .int .i64 x.q, .int .i64 x.p]] w fun e w' => e = .returned (.agg #[.int .i64 y.n, .string y.b, .string y.s, .string y.i, .int .i64 y.q, .int .i64 y.p]) ∧ w' = ((w.alloc (.cells #[.int .i64 x.n, .string x.b, .string x.s, .string x.i, .int .i64 x.q, .int .i64 x.p] 23)).alloc (.cells #[.int .i64 y.n, .string y.b, .string y.s, .string y.i, .int .i64 y.q, .int .i64 y.p] 28)).drew := by
  obtain ⟨n1, l1, m1, m1b, s1⟩ := cut40_slice x.b
  obtain ⟨n2, l2, m2, m2b, s2⟩ := cut40_slice x.s
  obtain ⟨n3, l3, m3, m3b, s3⟩ := cut40_slice x.i
  have hv : Hid (Value.agg #[.int .i64 y.n, .string y.b, .string y.s, .string y.i, .int .i64 y.q, .int .i64 y.p] = .agg #[.int .i64 x.n, .string (cut40 x.b), .string (cut40 x.s), .string (cut40 x.i), .int .i64 x.q, .int .i64 x.p]) := by
    show _ = _
    rw [hy.out]; rfl
  obtain ⟨t1, ht1⟩ : ∃ t, t = cut40 x.b := ⟨_, rfl⟩
  obtain ⟨t2, ht2⟩ : ∃ t, t = cut40 x.s := ⟨_, rfl⟩
  obtain ⟨t3, ht3⟩ : ∃ t, t = cut40 x.i := ⟨_, rfl⟩
  rw [← ht1] at s1 hv
  rw [← ht2] at s2 hv
  rw [← ht3] at s3 hv
  clear ht1 ht2 ht3 hy
  have E1 := two_new2 w (.cells #[.int .i64 x.n, .string x.b, .string x.s, .string x.i, .int .i64 x.q, .int .i64 x.p] 23) (.cells #[.int .i64 0, .string { data := #[] }, .string { data := #[] }, .string { data := #[] }, .int .i64 0, .int .i64 0] 28)
  go_enter Tryd.func23, Tryd.ntmps23
  go_upto_region 1 with fail
  obtain ⟨W0, hW0⟩ : ∃ W0, W0 = (w.alloc (.cells #[.int .i64 x.n, .string x.b, .string x.s, .string x.i, .int .i64 x.q, .int .i64 x.p] 23)).alloc (.cells #[.int .i64 0, .string { data := #[] }, .string { data := #[] }, .string { data := #[] }, .int .i64 0, .int .i64 0] 28) := ⟨_, rfl⟩
  rw [← hW0] at E1 ⊢
  have HW0 := Lib.hid hW0
  clear hW0
  obtain ⟨x0, x1, x2, x3, x4, x5⟩ := blk6 E1.1
  obtain ⟨r0, r1, r2, r3, r4, r5⟩ := blk6 E1.2.1
  obtain ⟨f0, f1, f2, f3, f4, f5⟩ := fro6 E1.2.1
  clear E1
  go_still_tail 28, (by kernel_rfl)
  change wpList _ _ _ _ _ W0.drew
  clear m1 m2 m3 m1b m2b m3b s1 s2 s3 l1 l2 l3 x0 x1 x2 x3 x4 x5
  go_wp2
  refine bodyPost_ret (v := .agg #[.int .i64 x.n, .string t1, .string t2, .string t3, .int .i64 x.q, .int .i64 x.p]) (by simp [results, Tryd.results23, go_sem, r0, r1, r2, r3, r4, r5]) rfl ⟨by rw [hv.out], by rw [HW0.out, st6_alloc _ (by simp), cells_eq hv.out]⟩

set_option maxRecDepth 100000 in
set_option maxHeartbeats 2000000 in
theorem of_exact (w : World) (x : Tr) : Calls Tryd.prog 24 #[.agg #[.int .i64 x.n, .string x.b, .string x.s, .string x.i, .int .i64 x.q, .int .i64 x.p]] w fun e w' => e = .returned (.agg #[.int .i64 x.n, .string x.b, .string x.s, .string x.i, .int .i64 x.q, .int .i64 x.p]) ∧ w' = (w.alloc (.cells #[.int .i64 x.n, .string x.b, .string x.s, .string x.i, .int .i64 x.q, .int .i64 x.p] 28)).alloc (.cells #[.int .i64 x.n, .string x.b, .string x.s, .string x.i, .int .i64 x.q, .int .i64 x.p] 23) := by
  have E1 := two_new2 w (.cells #[.int .i64 x.n, .string x.b, .string x.s, .string x.i, .int .i64 x.q, .int .i64 x.p] 28) (.cells #[.int .i64 0, .string { data := #[] }, .string { data := #[] }, .string { data := #[] }, .int .i64 0, .int .i64 0] 23)
  go_enter Tryd.func24, Tryd.ntmps24
  go_upto_region 1 with fail
  obtain ⟨W0, hW0⟩ : ∃ W0, W0 = (w.alloc (.cells #[.int .i64 x.n, .string x.b, .string x.s, .string x.i, .int .i64 x.q, .int .i64 x.p] 28)).alloc (.cells #[.int .i64 0, .string { data := #[] }, .string { data := #[] }, .string { data := #[] }, .int .i64 0, .int .i64 0] 23) := ⟨_, rfl⟩
  rw [← hW0] at E1 ⊢
  have HW0 := Lib.hid hW0
  clear hW0
  obtain ⟨x0, x1, x2, x3, x4, x5⟩ := blk6 E1.1
  obtain ⟨r0, r1, r2, r3, r4, r5⟩ := blk6 E1.2.1
  obtain ⟨f0, f1, f2, f3, f4, f5⟩ := fro6 E1.2.1
  clear E1
  go_wp2
  refine bodyPost_ret (v := .agg #[.int .i64 x.n, .string x.b, .string x.s, .string x.i, .int .i64 x.q, .int .i64 x.p]) (by simp [results, Tryd.results24, go_sem, r0, r1, r2, r3, r4, r5]) rfl ⟨rfl, by rw [HW0.out, st6_alloc _ (by simp)]⟩
end Go.Proofs.YteahloddjekakaaDoor.Td
