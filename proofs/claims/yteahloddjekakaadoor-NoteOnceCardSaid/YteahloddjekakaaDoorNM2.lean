/-
  The contracts of trade's Check and of the reference's. Conditions: texts of at most 100000 bytes.
-/
import Derived.Test.YteahloddjekakaaDoorNM1
import Derived.Test.YteahloddjekakaaDoorIdA
import Derived.StillTailTactics
import Derived.BigQuiet
import Derived.Below
namespace Go.Proofs.YteahloddjekakaaDoor.Td
open Go.RowKit

/-- Is the quantity, or the price, none? -/
def badN (q p : Int) : Bool := decide (q < 1) || (decide (2147483648 ≤ q) || (decide (p < 0) || decide (2147483648 ≤ p)))
/-- The three names' errors: the first one. -/
def nameE (x : Tr) : Int := orL [Id.memE (Id.sb x.b), Id.memE (Id.sb x.s), Id.isinN (Id.sb x.i)]
/-- What is wrong with a trade. -/
def chk (x : Tr) : Int := if x.n < 1 then 1 else if nameE x ≠ 0 then nameE x else if x.b = x.s then 6 else if badN x.q x.p = true then 2 else 0
def Sm (x : Tr) : Prop := x.b.size ≤ 100000 ∧ x.s.size ≤ 100000 ∧ x.i.size ≤ 100000

theorem cell5 {W w1 : World} (hb : Below W.heap.size W w1) {p1 p2 p3 p4 p5 : Addr} {v1 v2 v3 v4 v5 : Value}
    (h : W.cell? p1 = some v1 ∧ W.cell? p2 = some v2 ∧ W.cell? p3 = some v3 ∧ W.cell? p4 = some v4 ∧ W.cell? p5 = some v5) :
    w1.cell? p1 = some v1 ∧ w1.cell? p2 = some v2 ∧ w1.cell? p3 = some v3 ∧ w1.cell? p4 = some v4 ∧ w1.cell? p5 = some v5 :=
  ⟨(hb.cell (World.block_lt_of_cell? _ _ h.1)).trans h.1, (hb.cell (World.block_lt_of_cell? _ _ h.2.1)).trans h.2.1, (hb.cell (World.block_lt_of_cell? _ _ h.2.2.1)).trans h.2.2.1,
    (hb.cell (World.block_lt_of_cell? _ _ h.2.2.2.1)).trans h.2.2.2.1, (hb.cell (World.block_lt_of_cell? _ _ h.2.2.2.2)).trans h.2.2.2.2⟩
theorem row3 (w : World) (a b c : Int) (t : TypeId) : RowAt (w.alloc (.cells #[.int .i64 a, .int .i64 b, .int .i64 c] t)) w.heap.size [a, b, c] := by
  have h := block_new w (.cells #[.int .i64 a, .int .i64 b, .int .i64 c] t)
  intro j hj
  match j, hj with
  | 0, _ => rw [cell_of_row _ _ 0 _ _ _ h]; rfl
  | 1, _ => rw [cell_of_row _ _ 1 _ _ _ h]; rfl
  | 2, _ => rw [cell_of_row _ _ 2 _ _ _ h]; rfl
  | n + 3, hj => simp at hj; omega
theorem bad_yes {q p : Int} (h : badN q p = true) : q < 1 ∨ (¬ q < 1 ∧ 2147483648 ≤ q) ∨ (¬ q < 1 ∧ ¬ 2147483648 ≤ q ∧ p < 0) ∨ (¬ q < 1 ∧ ¬ 2147483648 ≤ q ∧ ¬ p < 0 ∧ 2147483648 ≤ p) := by
  simp only [badN, Bool.or_eq_true, decide_eq_true_eq] at h
  omega
theorem bad_no {q p : Int} (h : badN q p = false) : ¬ q < 1 ∧ ¬ 2147483648 ≤ q ∧ ¬ p < 0 ∧ ¬ 2147483648 ≤ p := by
  simpa only [badN, Bool.or_eq_false_iff, decide_eq_false_iff_not] using h
theorem three_le : (3 : Nat) ≤ 1000 := by decide

set_option maxRecDepth 100000 in
set_option maxHeartbeats 2000000 in
theorem check_any (w : World) (x : Tr) (hx : Sm x) {r : Int} (hr : Hid (r = chk x)) :
    Calls Tryd.prog 56 #[.agg #[.int .i64 x.n, .string x.b, .string x.s, .string x.i, .int .i64 x.q, .int .i64 x.p]] w fun e w' => e = .returned (.int .i64 r) ∧ Below w.heap.size w w' := by
  by_cases h1 : x.n < 1
  · obtain rfl : r = 1 := by rw [hr.out]; unfold chk; rw [if_pos h1]
    go_enter Tryd.func56, Tryd.ntmps56
    go_wp2
    go_ret
    exact ⟨rfl, (Below.refl _ _).alloc (Nat.le_refl _) _⟩
  obtain ⟨m1, e1⟩ : ∃ z, z = Id.memE (Id.sb x.b) := ⟨_, rfl⟩
  obtain ⟨m2, e2⟩ : ∃ z, z = Id.memE (Id.sb x.s) := ⟨_, rfl⟩
  obtain ⟨m3, e3⟩ : ∃ z, z = Id.isinN (Id.sb x.i) := ⟨_, rfl⟩
  have c1 : ∀ W, Calls Tryd.prog 58 #[.string x.b] W fun e w' => e = .returned (.int .i64 m1) ∧ Below W.heap.size W w' := fun W => by rw [e1]; exact Id.member_any W x.b hx.1
  have c2 : ∀ W, Calls Tryd.prog 58 #[.string x.s] W fun e w' => e = .returned (.int .i64 m2) ∧ Below W.heap.size W w' := fun W => by rw [e2]; exact Id.member_any W x.s hx.2.1
  have c3 : ∀ W, Calls Tryd.prog 57 #[.string x.i] W fun e w' => e = .returned (.int .i64 m3) ∧ Below W.heap.size W w' := fun W => by rw [e3]; exact Id.isin_any W x.i hx.2.2
  obtain ⟨o, ho⟩ : ∃ z, z = orL [m1, m2, m3] := ⟨_, rfl⟩
  have HR : Hid (r = if o ≠ 0 then o else if x.b = x.s then 6 else if badN x.q x.p = true then 2 else 0) := by
    show _ = _
    rw [hr.out]; unfold chk nameE; rw [if_neg h1, ← e1, ← e2, ← e3, ← ho]
  have C1 := Lib.hid c1
  have C2 := Lib.hid c2
  have C3 := Lib.hid c3
  have HO := Lib.hid ho
  clear c1 c2 c3 e1 e2 e3 hr ho hx
  go_enter Tryd.func56, Tryd.ntmps56
  go_upto_region 3 with fail
  obtain ⟨W0, hW0⟩ : ∃ W0, W0 = w.alloc (.cells #[.int .i64 x.n, .string x.b, .string x.s, .string x.i, .int .i64 x.q, .int .i64 x.p] 28) := ⟨_, rfl⟩
  have E0 := block_new w (.cells #[.int .i64 x.n, .string x.b, .string x.s, .string x.i, .int .i64 x.q, .int .i64 x.p] 28)
  have HB0 : Hid (Below w.heap.size w (w.alloc (.cells #[.int .i64 x.n, .string x.b, .string x.s, .string x.i, .int .i64 x.q, .int .i64 x.p] 28)).drew) := ((Below.refl _ _).alloc (Nat.le_refl _) _).drew
  rw [← hW0] at E0 HB0 ⊢
  clear hW0
  obtain ⟨_, x1, x2, x3, x4, x5⟩ := blk6 E0
  have S0 : W0.cell? ⟨w.heap.size, 1, none⟩ = some (.string x.b) ∧ W0.cell? ⟨w.heap.size, 2, none⟩ = some (.string x.s) ∧ W0.cell? ⟨w.heap.size, 3, none⟩ = some (.string x.i) ∧ W0.cell? ⟨w.heap.size, 4, none⟩ = some (.int .i64 x.q) ∧ W0.cell? ⟨w.heap.size, 5, none⟩ = some (.int .i64 x.p) := ⟨x1, x2, x3, x4, x5⟩
  have S0d : W0.drew.cell? ⟨w.heap.size, 1, none⟩ = some (.string x.b) ∧ W0.drew.cell? ⟨w.heap.size, 2, none⟩ = some (.string x.s) ∧ W0.drew.cell? ⟨w.heap.size, 3, none⟩ = some (.string x.i) ∧ W0.drew.cell? ⟨w.heap.size, 4, none⟩ = some (.int .i64 x.q) ∧ W0.drew.cell? ⟨w.heap.size, 5, none⟩ = some (.int .i64 x.p) := ⟨x1, x2, x3, x4, x5⟩
  clear E0 x1 x2 x3 x4 x5
  go_region_held3 (fun w' => w'.cell? ⟨w.heap.size, 1, none⟩ = some (.string x.b) ∧ w'.cell? ⟨w.heap.size, 2, none⟩ = some (.string x.s) ∧ w'.cell? ⟨w.heap.size, 3, none⟩ = some (.string x.i) ∧ w'.cell? ⟨w.heap.size, 4, none⟩ = some (.int .i64 x.q) ∧ w'.cell? ⟨w.heap.size, 5, none⟩ = some (.int .i64 x.p)) (first | assumption | exact cell5 ((Below.refl _ _).alloc (Nat.le_refl _) _) S3)
    (first
      | (go_at_call 58; (with_reducible refine (C1.out W0.drew).mono ?_); rintro e w1 ⟨rfl, hb⟩; have S1 := cell5 hb S0d; have HB1 := Lib.hid (HB0.out.trans (hb.mono HB0.out.size)); clear hb S0 S0d)
      | (go_at_call 58; (with_reducible refine (C2.out w1).mono ?_); rintro e w2 ⟨rfl, hb⟩; have S2 := cell5 hb S1; have HB2 := Lib.hid (HB1.out.trans (hb.mono HB1.out.size)); clear hb S1)
      | (go_at_call 57; (with_reducible refine (C3.out w2).mono ?_); rintro e w3 ⟨rfl, hb⟩; have S3 := cell5 hb S2; have HB3 := Lib.hid (HB2.out.trans (hb.mono HB2.out.size)); clear hb S2)
      | (go_at_call 27; (with_reducible refine (orE _ _ 3 [m1, m2, m3] o (row3 _ _ _ _ _) rfl HO three_le).mono ?_); rintro e w4 ⟨rfl, hw4⟩; have S4 := cell5 ((Below.refl _ _).alloc (Nat.le_refl _) (.cells #[.int .i64 m1, .int .i64 m2, .int .i64 m3] 37)) S3; rw [← hw4] at S4; have HB4 := HB3.out.alloc HB3.out.size (.cells #[.int .i64 m1, .int .i64 m2, .int .i64 m3] 37); rw [← hw4] at HB4; have HB5 := Lib.hid HB4; clear hw4 HB4))
  obtain ⟨y1, y2, y3, y4, y5⟩ := S4
  clear HO C1 C2 C3
  by_cases ho : o = 0
  · subst ho
    have HR' : Hid (r = if x.b = x.s then 6 else if badN x.q x.p = true then 2 else 0) := HR
    clear HR
    by_cases hs : x.b = x.s
    · obtain rfl : r = 6 := by rw [HR'.out, if_pos hs]
      have hq : (x.b.toList == x.s.toList) = true := by rw [beqS]; exact decide_eq_true hs
      clear hs HR'
      go_wp2
      go_ret
      exact ⟨rfl, HB5.out⟩
    · have hq : (x.b.toList == x.s.toList) = false := by rw [beqS]; exact decide_eq_false hs
      have HR2 : Hid (r = if badN x.q x.p = true then 2 else 0) := by show _ = _; rw [HR'.out, if_neg hs]
      clear hs HR'
      cases hbad : badN x.q x.p
      · obtain rfl : r = 0 := by rw [HR2.out, hbad]; rfl
        obtain ⟨b1, b2, b3, b4⟩ := bad_no hbad
        clear hbad HR2
        go_wp2
        go_ret
        exact ⟨rfl, HB5.out⟩
      · obtain rfl : r = 2 := by rw [HR2.out, hbad]; rfl
        have hc := bad_yes hbad
        clear hbad HR2
        rcases hc with b1 | ⟨b1, b2⟩ | ⟨b1, b2, b3⟩ | ⟨b1, b2, b3, b4⟩
        · go_wp2
          go_ret
          exact ⟨rfl, HB5.out⟩
        · go_wp2
          go_ret
          exact ⟨rfl, HB5.out⟩
        · go_wp2
          go_ret
          exact ⟨rfl, HB5.out⟩
        · go_wp2
          go_ret
          exact ⟨rfl, HB5.out⟩
  · obtain rfl : r = o := by rw [HR.out, if_pos ho]
    go_wp2
    go_ret
    exact ⟨rfl, HB5.out⟩
end Go.Proofs.YteahloddjekakaaDoor.Td

namespace Go.Proofs.YteahloddjekakaaDoor.Td
open Go.RowKit

/-- The first 40 bytes. -/
def cut40 (s : ByteArray) : ByteArray := s.extract 0 (min s.size 40)
def cutT (t : Tr) : Tr := ⟨t.n, cut40 t.b, cut40 t.s, cut40 t.i, t.q, t.p⟩
theorem cut40_size (s : ByteArray) : (cut40 s).size ≤ 40 := by
  unfold cut40
  rw [ByteArray.size_extract]; omega
theorem cut40_slice (s : ByteArray) : ∃ n : Nat, n ≤ 40 ∧ (if (40 : Int) < (s.size : Int) then 40 else (s.size : Int)) = (n : Int) ∧ min (s.size : Int) 40 = (n : Int) ∧ ∀ W, (Instr.slice 9 (.string s) none (some (.int .i64 (n : Int))) none).run Tryd.prog W = .ok (.string (cut40 s)) W :=
  ⟨min s.size 40, by omega, by split <;> omega, by omega, fun W => Id.slice_to s (min s.size 40) (by omega) W⟩

theorem below6 {B : Nat} {W w : World} {b : Nat} (h : Below B W w) (hB : B ≤ b) (x0 x1 x2 x3 x4 x5 : Value) :
    Below B W ((((((w.setCell ⟨b, 0, none⟩ x0).setCell ⟨b, 1, none⟩ x1).setCell ⟨b, 2, none⟩ x2).setCell ⟨b, 3, none⟩ x3).setCell ⟨b, 4, none⟩ x4).setCell ⟨b, 5, none⟩ x5) :=
  (((((h.setCell (p := ⟨b, 0, none⟩) hB x0).setCell (p := ⟨b, 1, none⟩) hB x1).setCell (p := ⟨b, 2, none⟩) hB x2).setCell (p := ⟨b, 3, none⟩) hB x3).setCell (p := ⟨b, 4, none⟩) hB x4).setCell (p := ⟨b, 5, none⟩) hB x5

theorem st6_alloc (W : World) {c : Nat} (hc : c = W.heap.size) (y0 y1 y2 y3 y4 y5 x0 x1 x2 x3 x4 x5 : Value) (t : TypeId) :
    ((((((((W.alloc (.cells #[y0, y1, y2, y3, y4, y5] t)).setCell ⟨c, 0, none⟩ x0).setCell ⟨c, 1, none⟩ x1).setCell ⟨c, 2, none⟩ x2).setCell ⟨c, 3, none⟩ x3).setCell ⟨c, 4, none⟩ x4).setCell ⟨c, 5, none⟩ x5)) = W.alloc (.cells #[x0, x1, x2, x3, x4, x5] t) := by
  subst hc
  simp only [World.setCell_alloc_at]
  rfl
theorem cells_eq {a b : Array Value} (h : Value.agg a = Value.agg b) : a = b := by injection h

set_option maxRecDepth 100000 in
set_option maxHeartbeats 4000000 in
theorem to_exact (w : World) (x y : Tr) (hy : Hid (y = cutT x)) :
    Calls Tryd.prog 23 #[.agg #[.int .i64 x.n, .string x.b, .string x.s, .string x.i, .int .i64 x.q, .int .i64 x.p]] w fun e w' => e = .returned (.agg #[.int .i64 y.n, .string y.b, .string y.s, .string y.i, .int .i64 y.q, .int .i64 y.p]) ∧ w' = ((w.alloc (.cells #[.int .i64 x.n, .string x.b, .string x.s, .string x.i, .int .i64 x.q, .int .i64 x.p] 23)).alloc (.cells #[.int .i64 y.n, .string y.b, .string y.s, .string y.i, .int .i64 y.q, .int .i64 y.p] 28)).drew := by
  obtain ⟨n1, l1, m1, m1b, s1⟩ := cut40_slice x.b
  obtain ⟨n2, l2, m2, m2b, s2⟩ := cut40_slice x.s
  obtain ⟨n3, l3, m3, m3b, s3⟩ := cut40_slice x.i
  have hv : Hid (Value.agg #[.int .i64 y.n, .string y.b, .string y.s, .string y.i, .int .i64 y.q, .int .i64 y.p] = .agg #[.int .i64 x.n, .string (cut40 x.b), .string (cut40 x.s), .string (cut40 x.i), .int .i64 x.q, .int .i64 x.p]) := by
    show _ = _
    rw [hy.out]; rfl
  obtain ⟨t1, ht1⟩ : ∃ t, t = cut40 x.b := ⟨_, rfl⟩
  obtain ⟨t2, ht2⟩ : ∃ t, t = cut40 x.s := ⟨_, rfl⟩
  obtain ⟨t3, ht3⟩ : ∃ t, t = cut40 x.i := ⟨_, rfl⟩
  rw [← ht1] at s1 hv
  rw [← ht2] at s2 hv
  rw [← ht3] at s3 hv
  clear ht1 ht2 ht3 hy
  have E1 := two_new2 w (.cells #[.int .i64 x.n, .string x.b, .string x.s, .string x.i, .int .i64 x.q, .int .i64 x.p] 23) (.cells #[.int .i64 0, .string { data := #[] }, .string { data := #[] }, .string { data := #[] }, .int .i64 0, .int .i64 0] 28)
  go_enter Tryd.func23, Tryd.ntmps23
  go_upto_region 1 with fail
  obtain ⟨W0, hW0⟩ : ∃ W0, W0 = (w.alloc (.cells #[.int .i64 x.n, .string x.b, .string x.s, .string x.i, .int .i64 x.q, .int .i64 x.p] 23)).alloc (.cells #[.int .i64 0, .string { data := #[] }, .string { data := #[] }, .string { data := #[] }, .int .i64 0, .int .i64 0] 28) := ⟨_, rfl⟩
  rw [← hW0] at E1 ⊢
  have HW0 := Lib.hid hW0
  clear hW0
  obtain ⟨x0, x1, x2, x3, x4, x5⟩ := blk6 E1.1
  obtain ⟨r0, r1, r2, r3, r4, r5⟩ := blk6 E1.2.1
  obtain ⟨f0, f1, f2, f3, f4, f5⟩ := fro6 E1.2.1
  clear E1
  go_still_tail 28, (by kernel_rfl)
  change wpList _ _ _ _ _ W0.drew
  clear m1 m2 m3 m1b m2b m3b s1 s2 s3 l1 l2 l3 x0 x1 x2 x3 x4 x5
  go_wp2
  refine bodyPost_ret (v := .agg #[.int .i64 x.n, .string t1, .string t2, .string t3, .int .i64 x.q, .int .i64 x.p]) (by simp [results, Tryd.results23, go_sem, r0, r1, r2, r3, r4, r5]) rfl ⟨by rw [hv.out], by rw [HW0.out, st6_alloc _ (by simp), cells_eq hv.out]⟩

set_option maxRecDepth 100000 in
set_option maxHeartbeats 2000000 in
theorem of_exact (w : World) (x : Tr) : Calls Tryd.prog 24 #[.agg #[.int .i64 x.n, .string x.b, .string x.s, .string x.i, .int .i64 x.q, .int .i64 x.p]] w fun e w' => e = .returned (.agg #[.int .i64 x.n, .string x.b, .string x.s, .string x.i, .int .i64 x.q, .int .i64 x.p]) ∧ w' = (w.alloc (.cells #[.int .i64 x.n, .string x.b, .string x.s, .string x.i, .int .i64 x.q, .int .i64 x.p] 28)).alloc (.cells #[.int .i64 x.n, .string x.b, .string x.s, .string x.i, .int .i64 x.q, .int .i64 x.p] 23) := by
  have E1 := two_new2 w (.cells #[.int .i64 x.n, .string x.b, .string x.s, .string x.i, .int .i64 x.q, .int .i64 x.p] 28) (.cells #[.int .i64 0, .string { data := #[] }, .string { data := #[] }, .string { data := #[] }, .int .i64 0, .int .i64 0] 23)
  go_enter Tryd.func24, Tryd.ntmps24
  go_upto_region 1 with fail
  obtain ⟨W0, hW0⟩ : ∃ W0, W0 = (w.alloc (.cells #[.int .i64 x.n, .string x.b, .string x.s, .string x.i, .int .i64 x.q, .int .i64 x.p] 28)).alloc (.cells #[.int .i64 0, .string { data := #[] }, .string { data := #[] }, .string { data := #[] }, .int .i64 0, .int .i64 0] 23) := ⟨_, rfl⟩
  rw [← hW0] at E1 ⊢
  have HW0 := Lib.hid hW0
  clear hW0
  obtain ⟨x0, x1, x2, x3, x4, x5⟩ := blk6 E1.1
  obtain ⟨r0, r1, r2, r3, r4, r5⟩ := blk6 E1.2.1
  obtain ⟨f0, f1, f2, f3, f4, f5⟩ := fro6 E1.2.1
  clear E1
  go_wp2
  refine bodyPost_ret (v := .agg #[.int .i64 x.n, .string x.b, .string x.s, .string x.i, .int .i64 x.q, .int .i64 x.p]) (by simp [results, Tryd.results24, go_sem, r0, r1, r2, r3, r4, r5]) rfl ⟨rfl, by rw [HW0.out, st6_alloc _ (by simp)]⟩
end Go.Proofs.YteahloddjekakaaDoor.Td

namespace Go.Proofs.YteahloddjekakaaDoor
open Go Go.RowKit

/-- A world in which what lay in W lies as it lay. -/
structure InW (W : World) where
  val : World
  bel : Below W.heap.size W val
instance (W : World) : Inhabited (InW W) := ⟨⟨W, Below.refl _ _⟩⟩
theorem InW.cell {W : World} (p : InW W) {a : Addr} {v : Value} (h : W.cell? a = some v) : p.val.cell? a = some v := (p.bel.cell (World.block_lt_of_cell? _ _ h)).trans h
theorem wp_region_below {P : Program} {id : Nat} {Q : Exit → Act → World → Prop} {a : Act} {w W : World} {l : List Oper} (hm : P.follows .mixedOrders = true) (hB : Region.lexB .any l.toArray = true) (hb : Below W.heap.size W w)
    (h : wpQuiet P l.toArray (fun w' => ∃ p : InW W, w' = p.val) (fun a' => ∀ w', (∃ p : InW W, w' = p.val) → Q .normal a' w') l a) : (Code.region id l.toArray true).wp P Q a w :=
  wp_region_quiet (C := fun w' => ∃ p : InW W, w' = p.val) hm hB ⟨⟨w.drew, hb.drew⟩, rfl⟩ (by simpa using h)
theorem calls_in {P : Program} {W : World} {f : FuncId} {args : Array Value} {p : InW W} {v : Value} (h : Calls P f args p.val fun e w' => e = .returned v ∧ Below p.val.heap.size p.val w') :
    Calls P f args p.val fun e w'' => e = .returned v ∧ ∃ q : InW W, w'' = q.val :=
  h.mono fun _ _ ⟨he, hb⟩ => ⟨he, ⟨_, p.bel.trans (hb.mono p.bel.size)⟩, rfl⟩
end Go.Proofs.YteahloddjekakaaDoor
