/-
  The contracts of trade's Value and of the reference's. Conditions: quantity and price are numbers of 64 bits.
-/
import Derived.Test.YtkoihpfgleboiaaDoorYCmp
import Derived.Test.YtkoihpfgleboiaaDoorFixA
namespace Go.Proofs.YtkoihpfgleboiaaDoor.Td
open Go.RowKit

set_option maxRecDepth 100000 in
set_option maxHeartbeats 1000000 in
theorem value_any (w : World) (x : Tr) (hq : I64 x.q) (hp : I64 x.p) {z : Int} (hz : Hid (z = x.q * x.p)) :
    Calls Tryd.prog 19 #[.agg #[.int .i64 x.n, .string x.b, .string x.s, .string x.i, .int .i64 x.q, .int .i64 x.p]] w fun e w' => ∃ h l, e = .returned (.agg #[.int .i64 h, .int .u64 l]) ∧ Hid (WOk h l ∧ Hid (z = wv h l)) ∧ Below w.heap.size w w' := by
  obtain ⟨q0, q1⟩ := hq
  obtain ⟨p0, p1⟩ := hp
  have e1 := Lib.hid (two_new2 w (.cells #[.int .i64 x.n, .string x.b, .string x.s, .string x.i, .int .i64 x.q, .int .i64 x.p] 28) (.cells #[.int .i64 0, .int .u64 0] 35))
  go_enter Tryd.func19, Tryd.ntmps19
  go_wp2_with fail
  refine (times_num _ x.q x.p q0 q1 p0 p1 hz).mono ?_
  rintro e w1 ⟨h, l, rfl, hs, hb⟩
  have k1 := block_kept e1.out.2.1 hb
  obtain ⟨r0, r1, rf0, rf1⟩ := blk2 k1
  have HB := Lib.hid (e1.out.2.2.trans (hb.mono e1.out.2.2.size))
  clear k1 hb
  go_wp2
  refine bodyPost_ret (v := .agg #[.int .i64 h, .int .u64 l]) (by simp [results, Tryd.results19, go_sem, r0, r1]) rfl ⟨h, l, rfl, hs, below_stored HB.out (Nat.le_succ _) _ _⟩

theorem few64 {z : Int} (h : I64 z) : Few z := bd_few (by have := h.1; omega) (by have := h.2; omega)
theorem cell2 {W w1 : World} (hb : Below W.heap.size W w1) {p1 p2 : Addr} {v1 v2 : Value} (h : W.cell? p1 = some v1 ∧ W.cell? p2 = some v2) : w1.cell? p1 = some v1 ∧ w1.cell? p2 = some v2 :=
  ⟨(hb.cell (World.block_lt_of_cell? _ _ h.1)).trans h.1, (hb.cell (World.block_lt_of_cell? _ _ h.2)).trans h.2⟩

theorem addr_ne {b c : Nat} (h : b ≠ c) (i j : Nat) : (⟨c, j, none⟩ : Addr) ≠ ⟨b, i, none⟩ := fun e => h (by cases e; rfl)
theorem cell2_stored {W : World} {b c i j : Nat} {v1 v2 : Value} (hne : b ≠ c) (h : W.cell? ⟨b, i, none⟩ = some v1 ∧ W.cell? ⟨b, j, none⟩ = some v2) (x y : Value) :
    ((W.setCell ⟨c, 0, none⟩ x).setCell ⟨c, 1, none⟩ y).cell? ⟨b, i, none⟩ = some v1 ∧ ((W.setCell ⟨c, 0, none⟩ x).setCell ⟨c, 1, none⟩ y).cell? ⟨b, j, none⟩ = some v2 :=
  ⟨((World.cell?_setCell_other _ _ _ _ (addr_ne hne _ _)).trans (World.cell?_setCell_other _ _ _ _ (addr_ne hne _ _))).trans h.1, ((World.cell?_setCell_other _ _ _ _ (addr_ne hne _ _)).trans (World.cell?_setCell_other _ _ _ _ (addr_ne hne _ _))).trans h.2⟩
theorem ne_succ (n : Nat) : n ≠ n + 1 := by omega

set_option maxRecDepth 100000 in
set_option maxHeartbeats 1000000 in
theorem rvalue_any (w : World) (x : Tr) (hq : I64 x.q) (hp : I64 x.p) {z : Int} (hz : Hid (z = x.q * x.p)) :
    Calls Tryd.prog 7 #[.agg #[.int .i64 x.n, .string x.b, .string x.s, .string x.i, .int .i64 x.q, .int .i64 x.p]] w fun e w' => ∃ u, e = .returned u ∧ NumIs w' u z ∧ Below w.heap.size w w' := by
  obtain ⟨q, hqe⟩ : ∃ q, q = x.q := ⟨_, rfl⟩
  obtain ⟨p, hpe⟩ : ∃ p, p = x.p := ⟨_, rfl⟩
  rw [← hqe] at hq hz
  rw [← hpe] at hp hz
  have cm : ∀ (W : World) (u v : Value), NumIs W u q → NumIs W v p → Calls Tryd.prog 17 #[u, v] W fun e w' => ∃ u, e = .returned u ∧ NumIs w' u z ∧ Below W.heap.size W w' := by
    intro W u v hu hv
    rw [hz.out]
    exact mul_any W u v q p hu hv (few64 hq) (few64 hp)
  have CM := Lib.hid cm
  obtain ⟨q0, q1⟩ := hq
  obtain ⟨p0, p1⟩ := hp
  clear cm
  have E1 := two_new2 w (.cells #[.int .i64 x.n, .string x.b, .string x.s, .string x.i, .int .i64 x.q, .int .i64 x.p] 30) (.cells #[.bool false, .slice none 0 0] 26)
  go_enter Tryd.func7, Tryd.ntmps7
  go_upto_region 1 with fail
  obtain ⟨W0, hW0⟩ : ∃ W0, W0 = (w.alloc (.cells #[.int .i64 x.n, .string x.b, .string x.s, .string x.i, .int .i64 x.q, .int .i64 x.p] 30)).alloc (.cells #[.bool false, .slice none 0 0] 26) := ⟨_, rfl⟩
  rw [← hW0] at E1 ⊢
  clear hW0
  have HN0 : Hid (W0.drew.heap[w.heap.size + 1]? = some (.cells #[.bool false, .slice none 0 0] 26 (0, 0))) := E1.2.1
  have HB0 : Hid (Below w.heap.size w W0.drew) := E1.2.2.drew
  obtain ⟨_, _, _, _, x4, x5⟩ := blk6 E1.1
  rw [← hqe] at x4
  rw [← hpe] at x5
  clear E1 hqe hpe
  have S0 : W0.cell? ⟨w.heap.size, 4, none⟩ = some (.int .i64 q) ∧ W0.cell? ⟨w.heap.size, 5, none⟩ = some (.int .i64 p) := ⟨x4, x5⟩
  have S0d : W0.drew.cell? ⟨w.heap.size, 4, none⟩ = some (.int .i64 q) ∧ W0.drew.cell? ⟨w.heap.size, 5, none⟩ = some (.int .i64 p) := ⟨x4, x5⟩
  clear x4 x5
  go_region_held3 (fun w' => w'.cell? ⟨w.heap.size, 4, none⟩ = some (.int .i64 q) ∧ w'.cell? ⟨w.heap.size, 5, none⟩ = some (.int .i64 p)) (first | assumption | exact cell2_stored (ne_succ _) S3 _ _)
    (first
      | (go_at_call 18; (with_reducible refine (narrow_any W0.drew q q0 q1).mono ?_); rintro e w1 ⟨u, rfl, ⟨A1, n1, c1, rfl, hd⟩, hb⟩; have S1 := cell2 hb S0d;
          have N1 : Hid (NumIs w1 (.agg #[.bool (decide (q < 0)), .slice A1 n1 c1]) q) := (⟨A1, n1, c1, rfl, hd⟩ : NumIs w1 (.agg #[.bool (decide (q < 0)), .slice A1 n1 c1]) q); have HB1 := Lib.hid hb; clear hb hd S0 S0d)
      | (go_at_call 18; (with_reducible refine (narrow_any w1 p p0 p1).mono ?_); rintro e w2 ⟨u, rfl, ⟨A2, n2, c2, rfl, hd⟩, hb⟩; have S2 := cell2 hb S1;
          have N2 : Hid (NumIs w2 (.agg #[.bool (decide (p < 0)), .slice A2 n2 c2]) p) := (⟨A2, n2, c2, rfl, hd⟩ : NumIs w2 (.agg #[.bool (decide (p < 0)), .slice A2 n2 c2]) p); have N12 := Lib.hid (NumIs.below N1.out hb (Nat.le_refl _)); have HB2 := Lib.hid (HB1.out.trans (hb.mono HB1.out.size)); clear hb hd S1 N1 HB1)
      | (go_at_call 17; (with_reducible refine (CM.out w2 _ _ N12.out N2.out).mono ?_); rintro e w3 ⟨u, rfl, ⟨A3, n3, c3, rfl, hd⟩, hb⟩; have S3 := cell2 hb S2;
          have N3 : Hid (NumIs w3 (.agg #[.bool (decide (z < 0)), .slice A3 n3 c3]) z) := (⟨A3, n3, c3, rfl, hd⟩ : NumIs w3 (.agg #[.bool (decide (z < 0)), .slice A3 n3 c3]) z); have HB3 := Lib.hid (HB2.out.trans (hb.mono HB2.out.size)); have K3 := Lib.hid (block_kept HN0.out HB3.out); obtain ⟨r0, r1, rf0, rf1⟩ := blk2 K3.out; clear hb hd S2 N12 N2 HB2))
  go_wp2
  refine bodyPost_ret (v := .agg #[.bool (decide (z < 0)), .slice A3 n3 c3]) (by simp [results, Tryd.results7, go_sem, r0, r1]) rfl ⟨_, rfl, num_stored N3.out K3.out _ _, below_stored (HB0.out.trans (HB3.out.mono HB0.out.size)) (Nat.le_succ _) _ _⟩
end Go.Proofs.YtkoihpfgleboiaaDoor.Td
