/-
  The contract of the reference's Rounded, on the ways on which it holds: the nearest. Conditions: the numbers have at most nine digits; the divisor is not nought.
-/
import Derived.Test.YtjnohdkpkbiclaaFloor2
namespace Go.Proofs.Ytjnohdkpkbiclaa
open Go.RowKit

theorem num_digs {w : World} {b : Bool} {A : Option Addr} {n c : Nat} {z : Int} (h : NumIs w (.agg #[.bool b, .slice A n c]) z) : Digs w (.slice A n c) (digs z.natAbs) := by
  obtain ⟨A', n', c', e, hd⟩ := h
  simp only [Value.agg.injEq, Array.mk.injEq, List.cons.injEq, and_true] at e
  rw [e.2]; exact hd
/-- What stands behind the rest. -/
def Rest (w : World) (b : Nat) (A2 : Option Addr) (n2 c2 : Nat) (A3 : Option Addr) (n3 c3 : Nat) (g2 g3 : Bool) (y q re : Int) (wx : World) : Prop :=
  ∃ A n c, wx.heap[b]? = some (.cells #[.bool (decide (re < 0)), .slice A n c] 25 (0, 0)) ∧ NumIs wx (.agg #[.bool (decide (re < 0)), .slice A n c]) re ∧
    wx.cell? ⟨w.heap.size + 1, 1, none⟩ = some (.slice A2 n2 c2) ∧ wx.cell? ⟨w.heap.size + 1 + 1, 0, none⟩ = some (.bool g3) ∧ wx.cell? ⟨w.heap.size + 1 + 1, 1, none⟩ = some (.slice A3 n3 c3) ∧
    NumIs wx (.agg #[.bool g2, .slice A2 n2 c2]) y ∧ NumIs wx (.agg #[.bool g3, .slice A3 n3 c3]) q ∧ Below w.heap.size w wx
theorem rest_of {w w7 wx : World} {b : Nat} {A2 A3 A : Option Addr} {n2 c2 n3 c3 n c : Nat} {g2 g3 : Bool} {y q re : Int} (hb : Below w7.heap.size w7 wx) (hw : Below w.heap.size w w7)
    (hL : wx.heap[b]? = some (.cells #[.bool (decide (re < 0)), .slice A n c] 25 (0, 0))) (hz : NumIs wx (.agg #[.bool (decide (re < 0)), .slice A n c]) re)
    (d3 : w7.cell? ⟨w.heap.size + 1, 1, none⟩ = some (.slice A2 n2 c2)) (d4 : w7.cell? ⟨w.heap.size + 1 + 1, 0, none⟩ = some (.bool g3)) (d5 : w7.cell? ⟨w.heap.size + 1 + 1, 1, none⟩ = some (.slice A3 n3 c3))
    (hy : NumIs w7 (.agg #[.bool g2, .slice A2 n2 c2]) y) (hq : NumIs w7 (.agg #[.bool g3, .slice A3 n3 c3]) q) : Rest w b A2 n2 c2 A3 n3 c3 g2 g3 y q re wx :=
  ⟨A, n, c, hL, hz, (hb.cell (World.block_lt_of_cell? _ _ d3)).trans d3, (hb.cell (World.block_lt_of_cell? _ _ d4)).trans d4, (hb.cell (World.block_lt_of_cell? _ _ d5)).trans d5, hy.below hb (Nat.le_refl _), hq.below hb (Nat.le_refl _), hw.trans (hb.mono hw.size)⟩
theorem rest_stored {w w7 w11 : World} {b : Nat} {A2 A3 A : Option Addr} {n2 c2 n3 c3 n c : Nat} {g2 g3 : Bool} {y q re : Int} {v1 v2 : Value} (hb : Below w7.heap.size w7 w11) (hle : w7.heap.size ≤ b) (hw : Below w.heap.size w w7)
    (hL : w11.heap[b]? = some (.cells #[v1, v2] 25 (0, 0))) (hz : NumIs w11 (.agg #[.bool (decide (re < 0)), .slice A n c]) re)
    (d3 : w7.cell? ⟨w.heap.size + 1, 1, none⟩ = some (.slice A2 n2 c2)) (d4 : w7.cell? ⟨w.heap.size + 1 + 1, 0, none⟩ = some (.bool g3)) (d5 : w7.cell? ⟨w.heap.size + 1 + 1, 1, none⟩ = some (.slice A3 n3 c3))
    (hy : NumIs w7 (.agg #[.bool g2, .slice A2 n2 c2]) y) (hq : NumIs w7 (.agg #[.bool g3, .slice A3 n3 c3]) q) :
    Rest w b A2 n2 c2 A3 n3 c3 g2 g3 y q re ((w11.setCell ⟨b, 0, none⟩ (.bool (decide (re < 0)))).setCell ⟨b, 1, none⟩ (.slice A n c)) :=
  rest_of (below_stored hb hle _ _) hw (blk_store2 hL _ _) (num_stored hz hL _ _) d3 d4 d5 hy hq
theorem rest_new {w w7 w11 : World} {A2 A3 A : Option Addr} {n2 c2 n3 c3 n c : Nat} {g2 g3 : Bool} {y q re : Int} (hb : Below w7.heap.size w7 w11) (hw : Below w.heap.size w w7)
    (hz : NumIs w11 (.agg #[.bool (decide (re < 0)), .slice A n c]) re)
    (d3 : w7.cell? ⟨w.heap.size + 1, 1, none⟩ = some (.slice A2 n2 c2)) (d4 : w7.cell? ⟨w.heap.size + 1 + 1, 0, none⟩ = some (.bool g3)) (d5 : w7.cell? ⟨w.heap.size + 1 + 1, 1, none⟩ = some (.slice A3 n3 c3))
    (hy : NumIs w7 (.agg #[.bool g2, .slice A2 n2 c2]) y) (hq : NumIs w7 (.agg #[.bool g3, .slice A3 n3 c3]) q) :
    Rest w w11.heap.size A2 n2 c2 A3 n3 c3 g2 g3 y q re (w11.alloc (.cells #[.bool (decide (re < 0)), .slice A n c] 25)) :=
  rest_of (hb.alloc hb.size _) hw (block_new _ _) (hz.alloc _) d3 d4 d5 hy hq

set_option maxRecDepth 100000 in
set_option maxHeartbeats 2000000 in
theorem rounded_even (w : World) (u v t : Value) (x y q how : Int) (hu : NumIs w u x) (hv : NumIs w v y) (ht : NumIs w t q) (bx : Bd x) (by_ : Bd y) (bq : Bd q) (hne : ¬ q * y = x) (hh : how = 3) (hre : Bd (x - q * y)) (he : (2 * ((x - q * y).natAbs : Int) < y.natAbs) ∨ (2 * ((x - q * y).natAbs : Int) = y.natAbs ∧ q % 2 = 0)) :
    Calls Try.prog 30 #[u, v, t, .int .i64 how] w fun e w' => e = .returned (.bool true) ∧ Below w.heap.size w w' := by
  subst hh
  obtain ⟨np, hnp⟩ : ∃ z, z = -(q * y) := ⟨_, rfl⟩
  obtain ⟨re, hr⟩ : ∃ z, z = x + np := ⟨_, rfl⟩
  have HRE := Lib.hid hr
  have hfn : Hid (Few np) := by show Few _; rw [hnp]; have := Bd.mul_few bq by_; unfold Few at *; rwa [Int.natAbs_neg]
  have hr2 : x - q * y = re := by omega
  rw [hr2] at hre he
  have hbr : Hid (Bd re) := hre
  have HE := Lib.hid he
  clear hr hre he hr2
  have HU := Lib.hid hu
  have HV := Lib.hid hv
  have HT := Lib.hid ht
  obtain ⟨A1, n1, c1, rfl, hd1⟩ := hu
  obtain ⟨A2, n2, c2, rfl, hd2⟩ := hv
  obtain ⟨A3, n3, c3, rfl, hd3⟩ := ht
  clear hd1 hd2 hd3
  have hbx : Hid (Bd x) := bx
  have hby : Hid (Bd y) := by_
  have hbq : Hid (Bd q) := bq
  clear bx by_ bq
  obtain ⟨pr, hpr⟩ : ∃ z, z = q * y := ⟨_, rfl⟩
  have HPR := Lib.hid hpr
  have hfp : Hid (Few pr) := by show Few _; rw [hpr]; exact Bd.mul_few hbq.out hby.out
  obtain ⟨cm, hcm⟩ : ∃ c, c = cmpI pr x := ⟨_, rfl⟩
  have HCM := Lib.hid hcm
  have hc0 : ¬ cm = 0 := by rw [hcm, hpr]; unfold cmpI; split <;> (try split) <;> omega
  have hc1 : (cm == 0) = false := by simpa using hc0
  have hc2 : decide (cm = 0) = false := by simpa using hc0
  clear hcm
  have HNP : Hid (np = -pr) := by show _ = _; rw [hnp, hpr]
  clear hnp hne
  clear hpr
  obtain ⟨g1, hg1⟩ : ∃ b, b = decide (x < 0) := ⟨_, rfl⟩
  obtain ⟨g2, hg2⟩ : ∃ b, b = decide (y < 0) := ⟨_, rfl⟩
  obtain ⟨g3, hg3⟩ : ∃ b, b = decide (q < 0) := ⟨_, rfl⟩
  rw [← hg1] at HU
  rw [← hg2] at HV
  rw [← hg3] at HT
  rw [← hg1, ← hg2, ← hg3]
  clear hg1 hg2 hg3
  go_enter Try.func30, Try.ntmps30
  go_upto_region 1 with fail
  obtain ⟨W0, hW0⟩ : ∃ W0, W0 = ((w.alloc (.cells #[.bool g1, .slice A1 n1 c1] 25)).alloc (.cells #[.bool g2, .slice A2 n2 c2] 25)).alloc (.cells #[.bool g3, .slice A3 n3 c3] 25) := ⟨_, rfl⟩
  rw [← hW0]
  have j0 : Hid (W0.heap[w.heap.size]? = some (.cells #[.bool g1, .slice A1 n1 c1] 25 (0, 0)) ∧ W0.heap[w.heap.size + 1]? = some (.cells #[.bool g2, .slice A2 n2 c2] 25 (0, 0)) ∧
      W0.heap[w.heap.size + 1 + 1]? = some (.cells #[.bool g3, .slice A3 n3 c3] 25 (0, 0)) ∧ Below w.heap.size w W0) := by
    rw [hW0]
    exact (three_nums w _ _ _).2
  clear hW0
  have hk := IntKept.of_below j0.out.2.2.2 (Nat.le_refl _)
  have M1 : Hid (NumIs W0.drew (.agg #[.bool g1, .slice A1 n1 c1]) x) := HU.out.keep hk
  have M2 : Hid (NumIs W0.drew (.agg #[.bool g2, .slice A2 n2 c2]) y) := HV.out.keep hk
  have M3 : Hid (NumIs W0.drew (.agg #[.bool g3, .slice A3 n3 c3]) q) := HT.out.keep hk
  have HB0 : Hid (Below w.heap.size w W0.drew) := j0.out.2.2.2.drew
  clear hk HU HV HT
  have f1 := blk2 j0.out.1
  have f2 := blk2 j0.out.2.1
  have f3 := blk2 j0.out.2.2.1
  have S5 : W0.drew.cell? ⟨w.heap.size, 0, none⟩ = some (.bool g1) ∧ W0.drew.cell? ⟨w.heap.size, 1, none⟩ = some (.slice A1 n1 c1) ∧ W0.drew.cell? ⟨w.heap.size + 1, 0, none⟩ = some (.bool g2) ∧ W0.drew.cell? ⟨w.heap.size + 1, 1, none⟩ = some (.slice A2 n2 c2) ∧ W0.drew.cell? ⟨w.heap.size + 1 + 1, 0, none⟩ = some (.bool g3) ∧ W0.drew.cell? ⟨w.heap.size + 1 + 1, 1, none⟩ = some (.slice A3 n3 c3) := ⟨f1.1, f1.2.1, f2.1, f2.2.1, f3.1, f3.2.1⟩
  clear f1 f2 f3 j0
  go_region_held3 (fun w' => w'.cell? ⟨w.heap.size, 0, none⟩ = some (.bool g1) ∧ w'.cell? ⟨w.heap.size, 1, none⟩ = some (.slice A1 n1 c1) ∧ w'.cell? ⟨w.heap.size + 1, 0, none⟩ = some (.bool g2) ∧ w'.cell? ⟨w.heap.size + 1, 1, none⟩ = some (.slice A2 n2 c2) ∧ w'.cell? ⟨w.heap.size + 1 + 1, 0, none⟩ = some (.bool g3) ∧ w'.cell? ⟨w.heap.size + 1 + 1, 1, none⟩ = some (.slice A3 n3 c3)) (first | assumption)
    (first
      | (go_at_call 17; (with_reducible refine (mul_is W0.drew _ _ q y HPR M3.out M2.out hbq.out.few hby.out.few).mono ?_); rintro e w6 ⟨u, rfl, ⟨A7, n7, c7, rfl, hd7⟩, hb6⟩; have S6 := cell6 hb6 S5; have M16 := Lib.hid (M1.out.below hb6 (Nat.le_refl _)); have M26 := Lib.hid (M2.out.below hb6 (Nat.le_refl _)); have M36 := Lib.hid (M3.out.below hb6 (Nat.le_refl _)); have M76 : Hid (NumIs w6 (.agg #[.bool (decide (pr < 0)), .slice A7 n7 c7]) pr) := (⟨A7, n7, c7, rfl, hd7⟩ : NumIs w6 (.agg #[.bool (decide (pr < 0)), .slice A7 n7 c7]) pr); have HB6 := Lib.hid (HB0.out.trans (hb6.mono HB0.out.size)); clear hb6 hd7)
      | (go_at_call 24; (with_reducible refine (compare_is w6 _ _ pr x HCM M76.out M16.out).mono ?_); rintro e w7 ⟨rfl, hb7⟩; have S7 := cell6 hb7 S6; have M17 := Lib.hid (M16.out.below hb7 (Nat.le_refl _)); have M27 := Lib.hid (M26.out.below hb7 (Nat.le_refl _)); have M37 := Lib.hid (M36.out.below hb7 (Nat.le_refl _)); have HB7 := Lib.hid (HB6.out.trans (hb7.mono HB6.out.size)); clear hb7))
  clear S5 S6 M1 M2 M3 M16 M26 M36 M76 HB0 HB6
  obtain ⟨d0, d1, d2, d3, d4, d5⟩ := S7
  go_upto_region 9 with fail
  go_cut [11] from 57 (fun s wx => ∃ b, s = .pointer (some ⟨b, 0, none⟩) ∧ Hid (Rest w b A2 n2 c2 A3 n3 c3 g2 g3 y q re wx))
  case first =>
    have Nx7 := M17
    have Ny7 := M27
    have Nq7 := M37
    have Nyd : Hid (NumIs w7.drew (.agg #[.bool g2, .slice A2 n2 c2]) y) := M27
    have Nqd : Hid (NumIs w7.drew (.agg #[.bool g3, .slice A3 n3 c3]) q) := M37
    have Nyf : Hid (NumIs (w7.alloc (.cells #[.bool false, .slice none 0 0] 25)).drew (.agg #[.bool g2, .slice A2 n2 c2]) y) := NumIs.alloc M27.out _
    have Nqf : Hid (NumIs (w7.alloc (.cells #[.bool false, .slice none 0 0] 25)).drew (.agg #[.bool g3, .slice A3 n3 c3]) q) := NumIs.alloc M37.out _
    have i0 : w.heap.size < w7.heap.size := World.block_lt_of_cell? _ _ d0
    have i1 : w.heap.size + 1 < w7.heap.size := World.block_lt_of_cell? _ _ d2
    have i2 : w.heap.size + 1 + 1 < w7.heap.size := World.block_lt_of_cell? _ _ d4
    have SS7 : ∀ b o, b < w7.heap.size → w7.drew.cell? ⟨b, o, none⟩ = w7.cell? ⟨b, o, none⟩ := fun _ _ _ => rfl
    have SS7f : ∀ b o, b < w7.heap.size → (w7.alloc (.cells #[.bool false, .slice none 0 0] 25)).drew.cell? ⟨b, o, none⟩ = w7.cell? ⟨b, o, none⟩ := (bcell (((Below.refl w7.heap.size w7).alloc (Nat.le_refl _) (.cells #[.bool false, .slice none 0 0] 25)).drew)).1
    clear M17 M27 M37
    go_region_held3 (fun w' => ∀ b o, b < w7.heap.size → w'.cell? ⟨b, o, none⟩ = w7.cell? ⟨b, o, none⟩) (first | assumption | exact (bcell (SB9.out.alloc SB9.out.size _)).1 | exact (bcell (SB10.out.alloc SB10.out.size _)).1 | exact (bcell (SB11.out.alloc SB11.out.size _)).1 | exact (bcell (below_stored SB11.out (Nat.le_refl _) _ _)).1 | exact (bcell (below_stored SB11.out sz9 _ _)).1 | exact (bcell (below_stored SB11.out sz10 _ _)).1)
      (first
        | (go_at_call 17; (with_reducible refine (mul_is w7.drew _ _ q y HPR Nqd.out Nyd.out hbq.out.few hby.out.few).mono ?_); rintro e w9 ⟨u, rfl, ⟨A9, n9, c9, rfl, hd⟩, hb⟩; have SB9 : Hid (Below w7.heap.size w7 w9) := ((Below.refl w7.heap.size w7).drew).trans (hb.mono (((Below.refl w7.heap.size w7).drew)).size); have SS9 := (bcell SB9.out).1; have sz9 : w7.heap.size ≤ w9.heap.size := SB9.out.size; have Nx9 : Hid (NumIs w9 (.agg #[.bool g1, .slice A1 n1 c1]) x) := Nx7.out.below SB9.out (Nat.le_refl _); have Ny9 : Hid (NumIs w9 (.agg #[.bool g2, .slice A2 n2 c2]) y) := Ny7.out.below SB9.out (Nat.le_refl _); have Nq9 : Hid (NumIs w9 (.agg #[.bool g3, .slice A3 n3 c3]) q) := Nq7.out.below SB9.out (Nat.le_refl _); have Nz9 : Hid (NumIs w9 (.agg #[.bool (decide (pr < 0)), .slice A9 n9 c9]) pr) := (⟨A9, n9, c9, rfl, hd⟩ : NumIs w9 (.agg #[.bool (decide (pr < 0)), .slice A9 n9 c9]) pr); clear hb hd)
        | (go_at_call 17; (with_reducible refine (mul_is (w7.alloc (.cells #[.bool false, .slice none 0 0] 25)).drew _ _ q y HPR Nqf.out Nyf.out hbq.out.few hby.out.few).mono ?_); rintro e w9 ⟨u, rfl, ⟨A9, n9, c9, rfl, hd⟩, hb⟩; have SB9 : Hid (Below w7.heap.size w7 w9) := ((Below.refl w7.heap.size w7).alloc (Nat.le_refl _) (.cells #[.bool false, .slice none 0 0] 25)).drew.trans (hb.mono (((Below.refl w7.heap.size w7).alloc (Nat.le_refl _) (.cells #[.bool false, .slice none 0 0] 25)).drew).size); have SS9 := (bcell SB9.out).1; have sz9 : w7.heap.size ≤ w9.heap.size := SB9.out.size; have Nx9 : Hid (NumIs w9 (.agg #[.bool g1, .slice A1 n1 c1]) x) := Nx7.out.below SB9.out (Nat.le_refl _); have Ny9 : Hid (NumIs w9 (.agg #[.bool g2, .slice A2 n2 c2]) y) := Ny7.out.below SB9.out (Nat.le_refl _); have Nq9 : Hid (NumIs w9 (.agg #[.bool g3, .slice A3 n3 c3]) q) := Nq7.out.below SB9.out (Nat.le_refl _); have Nz9 : Hid (NumIs w9 (.agg #[.bool (decide (pr < 0)), .slice A9 n9 c9]) pr) := (⟨A9, n9, c9, rfl, hd⟩ : NumIs w9 (.agg #[.bool (decide (pr < 0)), .slice A9 n9 c9]) pr); have L9 := block_kept (show (w7.alloc (.cells #[.bool false, .slice none 0 0] 25)).drew.heap[w7.heap.size]? = _ from block_new w7 (.cells #[.bool false, .slice none 0 0] 25)) hb; obtain ⟨l0, l1, l2, l3⟩ := blk2 L9; clear hb hd)
        | (go_at_call 16; (with_reducible refine (neg_is w9 _ pr HNP Nz9.out).mono ?_); rintro e w10 ⟨u, rfl, ⟨A10, n10, c10, rfl, hd⟩, hb⟩; have SB10 : Hid (Below w7.heap.size w7 w10) := SB9.out.trans (hb.mono (SB9.out).size); have SS10 := (bcell SB10.out).1; have sz10 : w7.heap.size ≤ w10.heap.size := SB10.out.size; have Nx10 : Hid (NumIs w10 (.agg #[.bool g1, .slice A1 n1 c1]) x) := Nx7.out.below SB10.out (Nat.le_refl _); have Ny10 : Hid (NumIs w10 (.agg #[.bool g2, .slice A2 n2 c2]) y) := Ny7.out.below SB10.out (Nat.le_refl _); have Nq10 : Hid (NumIs w10 (.agg #[.bool g3, .slice A3 n3 c3]) q) := Nq7.out.below SB10.out (Nat.le_refl _); have Nz10 : Hid (NumIs w10 (.agg #[.bool (decide (np < 0)), .slice A10 n10 c10]) np) := (⟨A10, n10, c10, rfl, hd⟩ : NumIs w10 (.agg #[.bool (decide (np < 0)), .slice A10 n10 c10]) np); (try (have L10 := block_kept L9 hb; obtain ⟨l0, l1, l2, l3⟩ := blk2 L10)); clear hb hd)
        | (go_at_call 16; (with_reducible refine (neg_is (w9.alloc (.cells #[.bool false, .slice none 0 0] 25)) _ pr HNP (NumIs.alloc Nz9.out (.cells #[.bool false, .slice none 0 0] 25))).mono ?_); rintro e w10 ⟨u, rfl, ⟨A10, n10, c10, rfl, hd⟩, hb⟩; have SB10 : Hid (Below w7.heap.size w7 w10) := (SB9.out.alloc SB9.out.size (.cells #[.bool false, .slice none 0 0] 25)).trans (hb.mono ((SB9.out.alloc SB9.out.size (.cells #[.bool false, .slice none 0 0] 25))).size); have SS10 := (bcell SB10.out).1; have sz10 : w7.heap.size ≤ w10.heap.size := SB10.out.size; have Nx10 : Hid (NumIs w10 (.agg #[.bool g1, .slice A1 n1 c1]) x) := Nx7.out.below SB10.out (Nat.le_refl _); have Ny10 : Hid (NumIs w10 (.agg #[.bool g2, .slice A2 n2 c2]) y) := Ny7.out.below SB10.out (Nat.le_refl _); have Nq10 : Hid (NumIs w10 (.agg #[.bool g3, .slice A3 n3 c3]) q) := Nq7.out.below SB10.out (Nat.le_refl _); have Nz10 : Hid (NumIs w10 (.agg #[.bool (decide (np < 0)), .slice A10 n10 c10]) np) := (⟨A10, n10, c10, rfl, hd⟩ : NumIs w10 (.agg #[.bool (decide (np < 0)), .slice A10 n10 c10]) np); have L10 := block_kept (block_new w9 (.cells #[.bool false, .slice none 0 0] 25)) hb; obtain ⟨l0, l1, l2, l3⟩ := blk2 L10; clear hb hd)
        | (go_at_call 13; (with_reducible refine (add_is w10 _ _ x np HRE Nx10.out Nz10.out hbx.out.few hfn.out).mono ?_); rintro e w11 ⟨u, rfl, ⟨A11, n11, c11, rfl, hd⟩, hb⟩; have SB11 : Hid (Below w7.heap.size w7 w11) := SB10.out.trans (hb.mono (SB10.out).size); have SS11 := (bcell SB11.out).1; have sz11 : w7.heap.size ≤ w11.heap.size := SB11.out.size; have Nx11 : Hid (NumIs w11 (.agg #[.bool g1, .slice A1 n1 c1]) x) := Nx7.out.below SB11.out (Nat.le_refl _); have Ny11 : Hid (NumIs w11 (.agg #[.bool g2, .slice A2 n2 c2]) y) := Ny7.out.below SB11.out (Nat.le_refl _); have Nq11 : Hid (NumIs w11 (.agg #[.bool g3, .slice A3 n3 c3]) q) := Nq7.out.below SB11.out (Nat.le_refl _); have Nz11 : Hid (NumIs w11 (.agg #[.bool (decide (re < 0)), .slice A11 n11 c11]) re) := (⟨A11, n11, c11, rfl, hd⟩ : NumIs w11 (.agg #[.bool (decide (re < 0)), .slice A11 n11 c11]) re); (try (have L11 := block_kept L10 hb; obtain ⟨l0, l1, l2, l3⟩ := blk2 L11)); clear hb hd)
        | (go_at_call 13; (with_reducible refine (add_is (w10.alloc (.cells #[.bool false, .slice none 0 0] 25)) _ _ x np HRE (NumIs.alloc Nx10.out (.cells #[.bool false, .slice none 0 0] 25)) (NumIs.alloc Nz10.out (.cells #[.bool false, .slice none 0 0] 25)) hbx.out.few hfn.out).mono ?_); rintro e w11 ⟨u, rfl, ⟨A11, n11, c11, rfl, hd⟩, hb⟩; have SB11 : Hid (Below w7.heap.size w7 w11) := (SB10.out.alloc SB10.out.size (.cells #[.bool false, .slice none 0 0] 25)).trans (hb.mono ((SB10.out.alloc SB10.out.size (.cells #[.bool false, .slice none 0 0] 25))).size); have SS11 := (bcell SB11.out).1; have sz11 : w7.heap.size ≤ w11.heap.size := SB11.out.size; have Nx11 : Hid (NumIs w11 (.agg #[.bool g1, .slice A1 n1 c1]) x) := Nx7.out.below SB11.out (Nat.le_refl _); have Ny11 : Hid (NumIs w11 (.agg #[.bool g2, .slice A2 n2 c2]) y) := Ny7.out.below SB11.out (Nat.le_refl _); have Nq11 : Hid (NumIs w11 (.agg #[.bool g3, .slice A3 n3 c3]) q) := Nq7.out.below SB11.out (Nat.le_refl _); have Nz11 : Hid (NumIs w11 (.agg #[.bool (decide (re < 0)), .slice A11 n11 c11]) re) := (⟨A11, n11, c11, rfl, hd⟩ : NumIs w11 (.agg #[.bool (decide (re < 0)), .slice A11 n11 c11]) re); have L11 := block_kept (block_new w10 (.cells #[.bool false, .slice none 0 0] 25)) hb; obtain ⟨l0, l1, l2, l3⟩ := blk2 L11; clear hb hd))
    all_goals (go_wp2; go_meet)
    all_goals (case rel => exact ⟨_, rfl, by
      first
        | exact rest_new SB11.out HB7.out Nz11.out d3 d4 d5 Ny7.out Nq7.out
        | exact rest_stored SB11.out (Nat.le_refl _) HB7.out L11 Nz11.out d3 d4 d5 Ny7.out Nq7.out
        | exact rest_stored SB11.out sz9 HB7.out L11 Nz11.out d3 d4 d5 Ny7.out Nq7.out
        | exact rest_stored SB11.out sz10 HB7.out L11 Nz11.out d3 d4 d5 Ny7.out Nq7.out⟩)
  case rest =>
    obtain ⟨b, rfl, hR⟩ := hcut
    obtain ⟨A, n, c, hL, hz, e3, e4, e5, hy, hq, hbw⟩ := hR.out
    obtain ⟨l0, l1, _, _⟩ := blk2 hL
    have hfld := fld_D
    obtain ⟨rr, hrr⟩ : ∃ z, z = re + re := ⟨_, rfl⟩
    have HRR := Lib.hid hrr
    obtain ⟨p4, hp4⟩ : ∃ p, p = decide (re < 0) := ⟨_, rfl⟩
    rw [← hp4] at l0 hz
    have T5 : wc.drew.cell? ⟨b, 0, none⟩ = some (.bool p4) ∧ wc.drew.cell? ⟨b, 1, none⟩ = some (.slice A n c) ∧ wc.drew.cell? ⟨w.heap.size + 1, 1, none⟩ = some (.slice A2 n2 c2) ∧ wc.drew.cell? ⟨w.heap.size + 1, 1, none⟩ = some (.slice A2 n2 c2) ∧ wc.drew.cell? ⟨w.heap.size + 1 + 1, 0, none⟩ = some (.bool g3) ∧ wc.drew.cell? ⟨w.heap.size + 1 + 1, 1, none⟩ = some (.slice A3 n3 c3) := ⟨l0, l1, e3, e3, e4, e5⟩
    have Nr : Hid (NumIs wc.drew (.agg #[.bool p4, .slice A n c]) re) := hz
    have Ny : Hid (NumIs wc.drew (.agg #[.bool g2, .slice A2 n2 c2]) y) := hy
    have Nq : Hid (NumIs wc.drew (.agg #[.bool g3, .slice A3 n3 c3]) q) := hq
    have HBW : Hid (Below w.heap.size w wc.drew) := hbw.drew
    clear hR hL hz hy hq hbw hp4 M17 M27 M37 d0 d1 d2 d3 d4 d5 HB7 l0 l1 e3 e4 e5
    have HEE := HE.out
    rcases HEE with he | ⟨he, hpar⟩
    · have HC : Hid (-1 = cmpN rr.natAbs y.natAbs) := by show _ = _; rw [hrr]; unfold cmpN; rw [if_pos (by omega)]
      clear hrr he
      go_upto_region 10 with fail
      go_region_held3 (fun w' => w'.cell? ⟨b, 0, none⟩ = some (.bool p4) ∧ w'.cell? ⟨b, 1, none⟩ = some (.slice A n c) ∧ w'.cell? ⟨w.heap.size + 1, 1, none⟩ = some (.slice A2 n2 c2) ∧ w'.cell? ⟨w.heap.size + 1, 1, none⟩ = some (.slice A2 n2 c2) ∧ w'.cell? ⟨w.heap.size + 1 + 1, 0, none⟩ = some (.bool g3) ∧ w'.cell? ⟨w.heap.size + 1 + 1, 1, none⟩ = some (.slice A3 n3 c3)) (first | assumption | exact T11)
        (first
          | (go_at_call 13; (with_reducible refine (add_is wc.drew _ _ re re HRR Nr.out Nr.out hbr.out.few hbr.out.few).mono ?_); rintro e w11 ⟨u, rfl, ⟨A11, n11, c11, rfl, hd⟩, hb⟩; have T11 := cell6 hb T5; have Ny11 := Lib.hid (Ny.out.below hb (Nat.le_refl _)); have Nq11 := Lib.hid (Nq.out.below hb (Nat.le_refl _)); have HD := Lib.hid hd; have HB11 := Lib.hid (HBW.out.trans (hb.mono HBW.out.size)); clear hb hd)
          | (go_at_call 40; (with_reducible refine (size_any w11 _ _ rr.natAbs y.natAbs HD.out (num_digs Ny11.out)).mono ?_); rw [← HC.out]; rintro e w12 ⟨rfl, nd, rfl⟩))
      go_wp2
      go_ret
      exact ⟨rfl, below_drewN HB11.out _⟩
    · have HC : Hid (0 = cmpN rr.natAbs y.natAbs) := by show _ = _; rw [hrr]; unfold cmpN; rw [if_neg (by omega), if_neg (by omega)]
      have HP := Lib.hid hpar
      clear hrr he hpar
      go_upto_region 10 with fail
      go_region_held3 (fun w' => w'.cell? ⟨b, 0, none⟩ = some (.bool p4) ∧ w'.cell? ⟨b, 1, none⟩ = some (.slice A n c) ∧ w'.cell? ⟨w.heap.size + 1, 1, none⟩ = some (.slice A2 n2 c2) ∧ w'.cell? ⟨w.heap.size + 1, 1, none⟩ = some (.slice A2 n2 c2) ∧ w'.cell? ⟨w.heap.size + 1 + 1, 0, none⟩ = some (.bool g3) ∧ w'.cell? ⟨w.heap.size + 1 + 1, 1, none⟩ = some (.slice A3 n3 c3)) (first | assumption | exact T11)
        (first
          | (go_at_call 13; (with_reducible refine (add_is wc.drew _ _ re re HRR Nr.out Nr.out hbr.out.few hbr.out.few).mono ?_); rintro e w11 ⟨u, rfl, ⟨A11, n11, c11, rfl, hd⟩, hb⟩; have T11 := cell6 hb T5; have Ny11 := Lib.hid (Ny.out.below hb (Nat.le_refl _)); have Nq11 := Lib.hid (Nq.out.below hb (Nat.le_refl _)); have HD := Lib.hid hd; have HB11 := Lib.hid (HBW.out.trans (hb.mono HBW.out.size)); clear hb hd)
          | (go_at_call 40; (with_reducible refine (size_any w11 _ _ rr.natAbs y.natAbs HD.out (num_digs Ny11.out)).mono ?_); rw [← HC.out]; rintro e w12 ⟨rfl, nd, rfl⟩))
      have Nqe : Hid (NumIs (w11.drewN nd) (.agg #[.bool g3, .slice A3 n3 c3]) q) := Nq11
      have HBe : Hid (Below w.heap.size w (w11.drewN nd)) := below_drewN HB11.out _
      go_wp2_with (go_at_call 55; (with_reducible refine (odd_no (w11.drewN nd) _ q Nqe.out HP.out).mono ?_); rintro e w13 ⟨rfl, hb13⟩; have HB13 := Lib.hid (HBe.out.trans (hb13.mono HBe.out.size)); clear hb13)
      go_ret
      exact ⟨rfl, HB13.out⟩
end Go.Proofs.Ytjnohdkpkbiclaa
