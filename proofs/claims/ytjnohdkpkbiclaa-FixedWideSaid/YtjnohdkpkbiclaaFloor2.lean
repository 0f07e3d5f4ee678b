/-
  The contract of the reference's Floor, where what it asks holds. Conditions: the numbers have at most nine digits; the divisor is not nought.
-/
import Derived.Test.YtjnohdkpkbiclaaFloor
namespace Go.Proofs.Ytjnohdkpkbiclaa
open Go.RowKit

theorem NumAt.below {w w' : World} {b : Nat} {z : Int} (h : NumAt w b z) (hb : Below w.heap.size w w') : NumAt w' b z := by
  obtain ⟨A, n, c, h1, h2⟩ := h
  exact ⟨A, n, c, block_kept h1 hb, h2.below hb (Nat.le_refl _)⟩
theorem three_nums (w : World) (o1 o2 o3 : Obj) : ((w.alloc o1).alloc o2).alloc o3 = ((w.alloc o1).alloc o2).alloc o3 ∧ (((w.alloc o1).alloc o2).alloc o3).heap[w.heap.size]? = some o1 ∧ (((w.alloc o1).alloc o2).alloc o3).heap[w.heap.size + 1]? = some o2 ∧
    (((w.alloc o1).alloc o2).alloc o3).heap[w.heap.size + 1 + 1]? = some o3 ∧ Below w.heap.size w (((w.alloc o1).alloc o2).alloc o3) := by
  have h := three_new w o1 o2 o3 0
  exact ⟨rfl, h.1, h.2.1, h.2.2.1, h.2.2.2.2.1⟩
/-- Nine digits at most. -/
def Bd (x : Int) : Prop := (x.natAbs : Int) < bp 9
theorem Bd.few {x : Int} (h : Bd x) : Few x := few_of_lt (k := 9) (by decide) h
theorem Bd.neg {x : Int} (h : Bd x) : Bd (-x) := by unfold Bd at *; rw [Int.natAbs_neg]; exact h
theorem Bd.mul_few {x y : Int} (h : Bd x) (h' : Bd y) : Few (x * y) := by
  refine few_of_lt (k := 18) (by decide) ?_
  unfold Bd at h h'
  rw [Int.natAbs_mul, show bp 18 = bp 9 * bp 9 by decide]
  have h1 := Int.mul_le_mul_of_nonneg_left (show (y.natAbs : Int) ≤ bp 9 by omega) (show (0 : Int) ≤ x.natAbs by omega)
  have h2 := Int.mul_lt_mul_of_pos_right h (show 0 < bp 9 by decide)
  push_cast
  omega
theorem Bd.muladd_few {x y z : Int} (h : Bd x) (h' : Bd y) (h'' : Bd z) : Few (x * y + z) := by
  refine few_of_lt (k := 19) (by decide) ?_
  unfold Bd at h h' h''
  have e : ((x * y).natAbs : Int) < bp 9 * bp 9 := by
    rw [Int.natAbs_mul]
    have h1 := Int.mul_le_mul_of_nonneg_left (show (y.natAbs : Int) ≤ bp 9 by omega) (show (0 : Int) ≤ x.natAbs by omega)
    have h2 := Int.mul_lt_mul_of_pos_right h (show 0 < bp 9 by decide)
    push_cast
    omega
  have e2 : bp 9 * bp 9 + bp 9 < bp 19 := by decide
  have e3 := Int.natAbs_add_le (x * y) z
  omega

theorem two_stored {W w : World} {b b' c : Nat} {v1 v2 v1' v2' : Value} {z z' q : Int} {A A' : Option Addr} {n n' k k' : Nat}
    (hb : Below W.heap.size W w) (l1 : W.heap.size ≤ b) (l2 : W.heap.size ≤ b') (hne : b ≠ b') (hc : c ≠ b) (hc' : c ≠ b')
    (h1 : w.heap[b]? = some (.cells #[v1, v2] 25 (0, 0))) (h2 : w.heap[b']? = some (.cells #[v1', v2'] 25 (0, 0)))
    (k1 : NumIs w (.agg #[.bool (decide (z < 0)), .slice A n k]) z) (k2 : NumIs w (.agg #[.bool (decide (z' < 0)), .slice A' n' k']) z') (k3 : NumAt w c q) :
    ∀ w', w' = (((w.setCell ⟨b, 0, none⟩ (.bool (decide (z < 0)))).setCell ⟨b, 1, none⟩ (.slice A n k)).setCell ⟨b', 0, none⟩ (.bool (decide (z' < 0)))).setCell ⟨b', 1, none⟩ (.slice A' n' k') →
    NumAt w' b z ∧ NumAt w' b' z' ∧ NumAt w' c q ∧ Below W.heap.size W w' := by
  intro w' hw'
  have f1 := blk_store2 h1 (.bool (decide (z < 0))) (.slice A n k)
  have f2 : ((w.setCell ⟨b, 0, none⟩ (.bool (decide (z < 0)))).setCell ⟨b, 1, none⟩ (.slice A n k)).heap[b']? = _ := block_set (block_set h2 (p := ⟨b, 0, none⟩) (Ne.symm hne) _) (p := ⟨b, 1, none⟩) (Ne.symm hne) _
  have g1 := num_stored k1 h1 (.bool (decide (z < 0))) (.slice A n k)
  have g2 := num_stored k2 h1 (.bool (decide (z < 0))) (.slice A n k)
  obtain ⟨A3, n3, c3, e1, e2⟩ := k3
  have g3 := num_stored e2 h1 (.bool (decide (z < 0))) (.slice A n k)
  have f3 : ((w.setCell ⟨b, 0, none⟩ (.bool (decide (z < 0)))).setCell ⟨b, 1, none⟩ (.slice A n k)).heap[c]? = _ := block_set (block_set e1 (p := ⟨b, 0, none⟩) hc _) (p := ⟨b, 1, none⟩) hc _
  subst hw'
  refine ⟨⟨A, n, k, block_set (block_set f1 (p := ⟨b', 0, none⟩) hne _) (p := ⟨b', 1, none⟩) hne _, num_stored g1 f2 _ _⟩, ⟨A', n', k', blk_store2 f2 _ _, num_stored g2 f2 _ _⟩, ⟨A3, n3, c3, block_set (block_set f3 (p := ⟨b', 0, none⟩) hc' _) (p := ⟨b', 1, none⟩) hc' _, num_stored g3 f2 _ _⟩, below_stored (below_stored hb l1 _ _) l2 _ _⟩

theorem neg_is (w : World) (v : Value) (x : Int) {z : Int} (hz : Hid (z = -x)) (h : NumIs w v x) :
    Calls Try.prog 16 #[v] w fun e w' => ∃ u, e = .returned u ∧ NumIs w' u z ∧ Below w.heap.size w w' := by
  rw [hz.out]
  exact neg_any w v x h

theorem mul_is (w : World) (u v : Value) (x y : Int) {z : Int} (hz : Hid (z = x * y)) (h : NumIs w u x) (h' : NumIs w v y) (hf : Few x) (hf' : Few y) :
    Calls Try.prog 17 #[u, v] w fun e w' => ∃ u, e = .returned u ∧ NumIs w' u z ∧ Below w.heap.size w w' := by
  rw [hz.out]
  exact mul_any w u v x y h h' hf hf'
theorem add_is (w : World) (u v : Value) (x y : Int) {z : Int} (hz : Hid (z = x + y)) (h : NumIs w u x) (h' : NumIs w v y) (hf : Few x) (hf' : Few y) :
    Calls Try.prog 13 #[u, v] w fun e w' => ∃ u, e = .returned u ∧ NumIs w' u z ∧ Below w.heap.size w w' := by
  rw [hz.out]
  exact add_any w u v x y h h' hf hf'
theorem compare_is (w : World) (u v : Value) (x y : Int) {c : Int} (hc : Hid (c = cmpI x y)) (h : NumIs w u x) (h' : NumIs w v y) :
    Calls Try.prog 24 #[u, v] w fun e w' => e = .returned (.int .i64 c) ∧ Below w.heap.size w w' := by
  rw [hc.out]
  exact compare_any w u v x y h h'
theorem cmpI_low {m n : Int} (h : m ≤ n) : cmpI m n ≤ 0 := by unfold cmpI; split <;> (try split) <;> omega
theorem cmpI_lt {m n : Int} (h : m < n) : cmpI m n < 0 := by unfold cmpI; split <;> (try split) <;> omega
theorem cell_of_blk {w : World} {b : Nat} {x y : Value} {t : TypeId} (h : w.heap[b]? = some (.cells #[x, y] t (0, 0))) : b < w.heap.size := (Array.getElem?_eq_some_iff.1 h).1
theorem cell6 {W w1 : World} (hb : Below W.heap.size W w1) {p1 p2 p3 p4 p5 p6 : Addr} {v1 v2 v3 v4 v5 v6 : Value}
    (h : W.cell? p1 = some v1 ∧ W.cell? p2 = some v2 ∧ W.cell? p3 = some v3 ∧ W.cell? p4 = some v4 ∧ W.cell? p5 = some v5 ∧ W.cell? p6 = some v6) :
    w1.cell? p1 = some v1 ∧ w1.cell? p2 = some v2 ∧ w1.cell? p3 = some v3 ∧ w1.cell? p4 = some v4 ∧ w1.cell? p5 = some v5 ∧ w1.cell? p6 = some v6 :=
  ⟨(hb.cell (World.block_lt_of_cell? _ _ h.1)).trans h.1, (hb.cell (World.block_lt_of_cell? _ _ h.2.1)).trans h.2.1, (hb.cell (World.block_lt_of_cell? _ _ h.2.2.1)).trans h.2.2.1,
    (hb.cell (World.block_lt_of_cell? _ _ h.2.2.2.1)).trans h.2.2.2.1, (hb.cell (World.block_lt_of_cell? _ _ h.2.2.2.2.1)).trans h.2.2.2.2.1, (hb.cell (World.block_lt_of_cell? _ _ h.2.2.2.2.2)).trans h.2.2.2.2.2⟩

set_option maxRecDepth 100000 in
set_option maxHeartbeats 2000000 in
theorem floor_any (w : World) (u v t : Value) (x y q : Int) (hu : NumIs w u x) (hv : NumIs w v y) (ht : NumIs w t q) (bx : Bd x) (by_ : Bd y) (bq : Bd q)
    (x' y' : Int) (hx' : x' = if y < 0 then -x else x) (hy' : y' = y.natAbs) (h1 : q * y' ≤ x') (h2 : x' < q * y' + y') :
    Calls Try.prog 53 #[u, v, t] w fun e w' => e = .returned (.bool true) ∧ Below w.heap.size w w' := by
  have HU := Lib.hid hu
  have HV := Lib.hid hv
  have HT := Lib.hid ht
  obtain ⟨A1, n1, c1, rfl, hd1⟩ := hu
  obtain ⟨A2, n2, c2, rfl, hd2⟩ := hv
  obtain ⟨A3, n3, c3, rfl, hd3⟩ := ht
  clear hd1 hd2 hd3
  have HX := Lib.hid hx'
  have HY := Lib.hid hy'
  have H1 := Lib.hid h1
  have H2 := Lib.hid h2
  have hbx' : Hid (Bd x') := by show Bd _; rw [hx']; split; exact bx.neg; exact bx
  have hby' : Hid (Bd y') := by show Bd _; rw [hy']; unfold Bd at *; simpa using by_
  have hbq : Hid (Bd q) := bq
  clear hx' hy' h1 h2 bx by_ bq
  obtain ⟨g1, hg1⟩ : ∃ b, b = decide (x < 0) := ⟨_, rfl⟩
  obtain ⟨g2, hg2⟩ : ∃ b, b = decide (y < 0) := ⟨_, rfl⟩
  obtain ⟨g3, hg3⟩ : ∃ b, b = decide (q < 0) := ⟨_, rfl⟩
  rw [← hg1] at HU
  rw [← hg2] at HV
  rw [← hg3] at HT
  rw [← hg1, ← hg2, ← hg3]
  have G1 := Lib.hid hg1
  have G2 := Lib.hid hg2
  have G3 := Lib.hid hg3
  clear hg1 hg2 hg3
  go_enter Try.func53, Try.ntmps53
  go_upto_if 9 with (fail)
  obtain ⟨W0, hW0⟩ : ∃ W0, W0 = ((w.alloc (.cells #[.bool g1, .slice A1 n1 c1] 25)).alloc (.cells #[.bool g2, .slice A2 n2 c2] 25)).alloc (.cells #[.bool g3, .slice A3 n3 c3] 25) := ⟨_, rfl⟩
  rw [← hW0]
  have j0 : Hid (W0.heap[w.heap.size]? = some (.cells #[.bool g1, .slice A1 n1 c1] 25 (0, 0)) ∧ W0.heap[w.heap.size + 1]? = some (.cells #[.bool g2, .slice A2 n2 c2] 25 (0, 0)) ∧
      W0.heap[w.heap.size + 1 + 1]? = some (.cells #[.bool g3, .slice A3 n3 c3] 25 (0, 0)) ∧ Below w.heap.size w W0) := by
    rw [hW0]
    exact (three_nums w _ _ _).2
  clear hW0
  have hk := IntKept.of_below j0.out.2.2.2 (Nat.le_refl _)
  have KU := Lib.hid (HU.out.keep hk)
  have KV := Lib.hid (HV.out.keep hk)
  have KT := Lib.hid (HT.out.keep hk)
  clear hk HU HV HT
  go_cut [] from 8 (fun wx => Hid (NumAt wx w.heap.size x' ∧ NumAt wx (w.heap.size + 1) y' ∧ NumAt wx (w.heap.size + 1 + 1) q ∧ Below w.heap.size w wx))
  case first =>
    cases g2
    · go_wp2
      go_meet
      case rel =>
        have hy : ¬ y < 0 := by have := G2.out; simpa using this.symm
        have e1 : x' = x := by rw [HX.out, if_neg hy]
        have e2 : y' = y := by rw [HY.out]; omega
        rw [e1, e2]
        refine ⟨⟨A1, n1, c1, ?_, ?_⟩, ⟨A2, n2, c2, ?_, ?_⟩, ⟨A3, n3, c3, ?_, ?_⟩, j0.out.2.2.2⟩
        · rw [← G1.out]; exact j0.out.1
        · rw [← G1.out]; exact KU.out
        · rw [← G2.out]; exact j0.out.2.1
        · rw [← G2.out]; exact KV.out
        · rw [← G3.out]; exact j0.out.2.2.1
        · rw [← G3.out]; exact KT.out
    · obtain ⟨a0, a1, af0, af1⟩ := blk2 j0.out.1
      obtain ⟨b0, b1, bf0, bf1⟩ := blk2 j0.out.2.1
      have hy : y < 0 := by have := G2.out; simpa using this.symm
      have ZX : Hid (x' = -x) := by show _ = _; rw [HX.out, if_pos hy]
      have ZY : Hid (y' = -y) := by show _ = _; rw [HY.out]; omega
      clear hy
      have KUd : Hid (NumIs W0.drew (.agg #[.bool g1, .slice A1 n1 c1]) x) := KU
      have KVd : Hid (NumIs W0.drew (.agg #[.bool true, .slice A2 n2 c2]) y) := KV
      have KTd : Hid (NumIs W0.drew (.agg #[.bool g3, .slice A3 n3 c3]) q) := KT
      have hl0 : w.heap.size + 1 + 1 < W0.heap.size := World.block_lt_of_cell? _ ⟨w.heap.size + 1 + 1, 0, none⟩ (blk2 j0.out.2.2.1).1
      go_wp2
      go_region_with (first
        | (go_at_call 16; (with_reducible refine (neg_is W0.drew _ x ZX KUd.out).mono ?_); rintro e w1 ⟨u1, rfl, ⟨A4, n4, c4, rfl, hd4⟩, hb1⟩; have hs1 : W0.heap.size ≤ w1.heap.size := hb1.size; have hc1 := (bcell hb1).1; have hf1 := (bcell hb1).2; have m0 : w1.cell? ⟨w.heap.size, 0, none⟩ = some (.bool g1) := (hc1 _ _ (by show _ < W0.heap.size; omega)).trans a0; have m1 : w1.cell? ⟨w.heap.size, 1, none⟩ = some (.slice A1 n1 c1) := (hc1 _ _ (by show _ < W0.heap.size; omega)).trans a1; have m2 : w1.cell? ⟨w.heap.size + 1, 0, none⟩ = some (.bool true) := (hc1 _ _ (by show _ < W0.heap.size; omega)).trans b0; have m3 : w1.cell? ⟨w.heap.size + 1, 1, none⟩ = some (.slice A2 n2 c2) := (hc1 _ _ (by show _ < W0.heap.size; omega)).trans b1; have KW := Lib.hid (KVd.out.below hb1 (Nat.le_refl _)); have HD4 := Lib.hid hd4; have HB1 := Lib.hid hb1; clear hd4 hb1 hc1 hf1)
        | (go_at_call 16; (with_reducible refine (neg_is w1 _ y ZY KW.out).mono ?_); rintro e w2 ⟨u2, rfl, ⟨A5, n5, c5, rfl, hd5⟩, hb2⟩; have HB2 := Lib.hid (HB1.out.trans (hb2.mono hs1)); have hc1 := (bcell HB2.out).1; have hf1 := (bcell HB2.out).2; have m4 : w2.frozen? ⟨w.heap.size, 0, none⟩ = false := (hf1 _ _ (by show _ < W0.heap.size; omega)).trans af0; have m5 : w2.frozen? ⟨w.heap.size, 1, none⟩ = false := (hf1 _ _ (by show _ < W0.heap.size; omega)).trans af1; have m6 : w2.frozen? ⟨w.heap.size + 1, 0, none⟩ = false := (hf1 _ _ (by show _ < W0.heap.size; omega)).trans bf0; have m7 : w2.frozen? ⟨w.heap.size + 1, 1, none⟩ = false := (hf1 _ _ (by show _ < W0.heap.size; omega)).trans bf1; have m8 := (hc1 _ 0 (show w.heap.size < W0.heap.size by omega)).trans a0; have m9 := (hc1 _ 1 (show w.heap.size < W0.heap.size by omega)).trans a1; have m10 := (hc1 _ 0 (show w.heap.size + 1 < W0.heap.size by omega)).trans b0; have m11 := (hc1 _ 1 (show w.heap.size + 1 < W0.heap.size by omega)).trans b1; have HD4' := Lib.hid (NumIs.below (⟨_, _, _, rfl, HD4.out⟩ : NumIs w1 _ x') hb2 (Nat.le_refl _)); have HD5 := Lib.hid hd5; clear hd5 hb2 hc1 hf1))
      all_goals (go_wp2; go_meet)
      all_goals (case rel =>
        have r1 := block_kept (show W0.drew.heap[w.heap.size]? = _ from j0.out.1) HB2.out
        have r2 := block_kept (show W0.drew.heap[w.heap.size + 1]? = _ from j0.out.2.1) HB2.out
        have r3 := block_kept (show W0.drew.heap[w.heap.size + 1 + 1]? = _ from j0.out.2.2.1) HB2.out
        exact two_stored (j0.out.2.2.2.drew.trans (HB2.out.mono (show w.heap.size ≤ W0.drew.heap.size by show _ ≤ W0.heap.size; omega))) (Nat.le_refl _) (Nat.le_succ _) (by omega) (by omega) (by omega) r1 r2 HD4'.out ⟨_, _, _, rfl, HD5.out⟩ ⟨_, _, _, by rw [← G3.out]; exact r3, by rw [← G3.out]; exact KTd.out.below HB2.out (Nat.le_refl _)⟩ _ rfl)
  case rest =>
    obtain ⟨⟨A4, n4, c4, e1, k1⟩, ⟨A5, n5, c5, e2, k2⟩, ⟨A6, n6, c6, e3, k3⟩, hbw⟩ := hcut.out
    obtain ⟨lo, hlo⟩ : ∃ lo, lo = q * y' := ⟨_, rfl⟩
    obtain ⟨su, hsu⟩ : ∃ su, su = lo + y' := ⟨_, rfl⟩
    obtain ⟨cm, hcm⟩ : ∃ cm, cm = cmpI lo x' := ⟨_, rfl⟩
    obtain ⟨cn, hcn⟩ : ∃ cn, cn = cmpI x' su := ⟨_, rfl⟩
    have ht1 : cm ≤ 0 := by rw [hcm, hlo]; exact cmpI_low H1.out
    have ht2 : cn < 0 := by rw [hcn, hsu, hlo]; exact cmpI_lt H2.out
    have hfl : Hid (Few lo) := by show Few lo; rw [hlo]; exact Bd.mul_few hbq.out hby'.out
    have HLO := Lib.hid hlo
    have HSU := Lib.hid hsu
    have HCM := Lib.hid hcm
    have HCN := Lib.hid hcn
    clear hlo hsu hcm hcn H1 H2 hcut
    obtain ⟨p1, hp1⟩ : ∃ b, b = decide (x' < 0) := ⟨_, rfl⟩
    obtain ⟨p2, hp2⟩ : ∃ b, b = decide (y' < 0) := ⟨_, rfl⟩
    obtain ⟨p3, hp3⟩ : ∃ b, b = decide (q < 0) := ⟨_, rfl⟩
    rw [← hp1] at e1 k1
    rw [← hp2] at e2 k2
    rw [← hp3] at e3 k3
    have E1 := Lib.hid e1
    have E2 := Lib.hid e2
    have K1 := Lib.hid k1
    have K2 := Lib.hid k2
    have K3 := Lib.hid k3
    have HBW := Lib.hid hbw
    obtain ⟨a0, a1, af0, af1⟩ := blk2 e1
    obtain ⟨b0, b1, bf0, bf1⟩ := blk2 e2
    obtain ⟨d0, d1, df0, df1⟩ := blk2 e3
    clear hp1 hp2 hp3 e1 e2 e3 k1 k2 k3 hbw
    go_upto_region 4 with (go_at_call 17; (with_reducible refine (mul_is wc _ _ q y' HLO K3.out K2.out hbq.out.few hby'.out.few).mono ?_); rintro e w3 ⟨u, rfl, ⟨A7, n7, c7, rfl, hd7⟩, hb3⟩; have HB3 := Lib.hid hb3; have HD7 := Lib.hid hd7; clear hb3 hd7)
    obtain ⟨p4, hp4⟩ : ∃ b, b = decide (lo < 0) := ⟨_, rfl⟩
    rw [← hp4]
    have HN7 : Hid (NumIs w3 (.agg #[.bool p4, .slice A7 n7 c7]) lo) := (⟨A7, n7, c7, by rw [hp4], HD7.out⟩ : NumIs w3 (.agg #[.bool p4, .slice A7 n7 c7]) lo)
    clear hp4 HD7
    obtain ⟨W5, hW5⟩ : ∃ W5, W5 = w3.alloc (.cells #[.bool p4, .slice A7 n7 c7] 25) := ⟨_, rfl⟩
    rw [← hW5]
    have hb5 : Below wc.heap.size wc W5 := by rw [hW5]; exact HB3.out.alloc HB3.out.size _
    have f1 := blk2 (block_kept E1.out hb5)
    have f2 := blk2 (block_kept E2.out hb5)
    have f3 := blk2 (show W5.heap[w3.heap.size]? = some (.cells #[.bool p4, .slice A7 n7 c7] 25 (0, 0)) by rw [hW5]; exact block_new _ _)
    have S5 : W5.drew.cell? ⟨w.heap.size, 0, none⟩ = some (.bool p1) ∧ W5.drew.cell? ⟨w.heap.size, 1, none⟩ = some (.slice A4 n4 c4) ∧ W5.drew.cell? ⟨w.heap.size + 1, 0, none⟩ = some (.bool p2) ∧ W5.drew.cell? ⟨w.heap.size + 1, 1, none⟩ = some (.slice A5 n5 c5) ∧ W5.drew.cell? ⟨w3.heap.size, 0, none⟩ = some (.bool p4) ∧ W5.drew.cell? ⟨w3.heap.size, 1, none⟩ = some (.slice A7 n7 c7) := ⟨f1.1, f1.2.1, f2.1, f2.2.1, f3.1, f3.2.1⟩
    have M1 : Hid (NumIs W5.drew (.agg #[.bool p1, .slice A4 n4 c4]) x') := K1.out.below hb5.drew (Nat.le_refl _)
    have M2 : Hid (NumIs W5.drew (.agg #[.bool p2, .slice A5 n5 c5]) y') := K2.out.below hb5.drew (Nat.le_refl _)
    have M3 : Hid (NumIs W5.drew (.agg #[.bool p4, .slice A7 n7 c7]) lo) := by have := NumIs.alloc HN7.out (.cells #[.bool p4, .slice A7 n7 c7] 25); rw [← hW5] at this; exact this
    have HB5 : Hid (Below w.heap.size w W5.drew) := (HBW.out.trans (hb5.mono HBW.out.size)).drew
    have hd1 : decide (cm ≤ 0) = true := decide_eq_true ht1
    have hd2 : decide (cn < 0) = true := decide_eq_true ht2
    clear hW5 hb5 f1 f2 f3 a0 a1 af0 af1 b0 b1 bf0 bf1 d0 d1 df0 df1 K1 K2 K3 E1 E2 HN7 HB3
    go_region_held3 (fun w' => w'.cell? ⟨w.heap.size, 0, none⟩ = some (.bool p1) ∧ w'.cell? ⟨w.heap.size, 1, none⟩ = some (.slice A4 n4 c4) ∧ w'.cell? ⟨w.heap.size + 1, 0, none⟩ = some (.bool p2) ∧ w'.cell? ⟨w.heap.size + 1, 1, none⟩ = some (.slice A5 n5 c5) ∧ w'.cell? ⟨w3.heap.size, 0, none⟩ = some (.bool p4) ∧ w'.cell? ⟨w3.heap.size, 1, none⟩ = some (.slice A7 n7 c7)) (first | assumption)
      (first
        | (go_at_call 24; (with_reducible refine (compare_is W5.drew _ _ lo x' HCM M3.out M1.out).mono ?_); rintro e w6 ⟨rfl, hb6⟩; have S6 := cell6 hb6 S5; have M16 := Lib.hid (M1.out.below hb6 (Nat.le_refl _)); have M26 := Lib.hid (M2.out.below hb6 (Nat.le_refl _)); have M36 := Lib.hid (M3.out.below hb6 (Nat.le_refl _)); have HB6 := Lib.hid (HB5.out.trans (hb6.mono HB5.out.size)); clear hb6)
        | (go_at_call 13; (with_reducible refine (add_is w6 _ _ lo y' HSU M36.out M26.out hfl.out hby'.out.few).mono ?_); rintro e w7 ⟨u, rfl, ⟨A8, n8, c8, rfl, hd8⟩, hb7⟩; have S7 := cell6 hb7 S6; have M17 := Lib.hid (M16.out.below hb7 (Nat.le_refl _)); have M87 : Hid (NumIs w7 (.agg #[.bool (decide (su < 0)), .slice A8 n8 c8]) su) := (⟨A8, n8, c8, rfl, hd8⟩ : NumIs w7 (.agg #[.bool (decide (su < 0)), .slice A8 n8 c8]) su); have HB7 := Lib.hid (HB6.out.trans (hb7.mono HB6.out.size)); clear hb7 hd8)
        | (go_at_call 24; (with_reducible refine (compare_is w7 _ _ x' su HCN M17.out M87.out).mono ?_); rintro e w8 ⟨rfl, hb8⟩; have S8 := cell6 hb8 S7; have HB8 := Lib.hid (HB7.out.trans (hb8.mono HB7.out.size)); clear hb8))
    go_wp2
    go_ret
    exact ⟨rfl, HB8.out⟩
end Go.Proofs.Ytjnohdkpkbiclaa
