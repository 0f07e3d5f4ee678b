/-
  The law FixedTexts answers true: its walk. Conditions: the types' own ranges.
-/
import Derived.Test.YtjnohdkpkbiclaaTexts0
import Derived.Outline
namespace Go.Proofs.Ytjnohdkpkbiclaa
open Go.RowKit

theorem text_is (w : World) (h l : Int) (k : WOk h l) {z : Int} {t : ByteArray} (hz : Hid (z = wv h l)) (ht : Hid (t = mkStr (textOf z))) :
    Calls Try.prog 31 #[.agg #[.int .i64 h, .int .u64 l]] w fun e w' => e = .returned (.string t) ∧ Below w.heap.size w w' := by
  rw [ht.out, hz.out]
  exact text_any w h l k
theorem digits_text (w : World) {z : Int} {t : ByteArray} (hz : Hid (In128 z)) (ht : Hid (t = mkStr (textOf z))) :
    Calls Try.prog 32 #[.string t] w fun e w' => ∃ u, e = .returned (.tuple #[u, .bool true]) ∧ NumIs w' u z ∧ Below w.heap.size w w' := by
  rw [ht.out]
  obtain ⟨t1, t0, t2, t3, t4, t5, t6⟩ := text_facts z hz.out
  refine (digits_walk w _ (by rw [← sb_len, t1]; omega)).mono ?_
  rintro e w' ⟨u, b, rfl, hd, hb⟩
  have hd2 := hd.out
  unfold DSpec at hd2
  rw [t1] at hd2
  rcases hd2 with ⟨rfl, _, _, h3⟩ | ⟨_, _, h3 | h3⟩
  · rw [t2, t3, t6] at h3
    refine ⟨u, rfl, ?_, hb⟩
    have hv : (if decide (z < 0) = true then -(z.natAbs : Int) else z.natAbs) = z := by
      by_cases hn : z < 0 <;> simp [hn] <;> omega
    rwa [hv] at h3
  · rw [t3, t4] at h3; cases h3
  · exact absurd h3 t5
theorem parse_back (w : World) (a b : Int) (k : WOk a b) {z : Int} {t : ByteArray} (hz : Hid (z = wv a b)) (ht : Hid (t = mkStr (textOf z))) :
    Calls Try.prog 33 #[.string t] w fun e w' => e = .returned (.tuple #[.agg #[.int .i64 a, .int .u64 b], .int .i64 0]) ∧ Below w.heap.size w w' := by
  have h128 : In128 z := by rw [hz.out]; exact wv_bd k
  rw [ht.out]
  obtain ⟨t1, t0, _⟩ := text_facts z h128
  refine (parse_any w _ (by rw [← sb_len, t1]; omega)).mono ?_
  rintro e w' ⟨h, l, er, rfl, hs, hb⟩
  obtain ⟨rfl, k2, hv⟩ := parse_text h128 hs.out
  obtain ⟨rfl, rfl⟩ := wv_inj k2 k (hv.trans hz.out)
  exact ⟨rfl, hb⟩
/-- A whole number's text. -/
def GoodT (s : ByteArray) : Prop := plainB (digsOf (sb s)) = true ∧ ¬ (negB (sb s) = true ∧ digsOf (sb s) = [48])
theorem digits_good (w : World) (s : ByteArray) (hs : s.size ≤ 200) (hg : Hid (GoodT s)) {z : Int} (hz : Hid (z = if negB (sb s) then - numOf (digsOf (sb s)) else numOf (digsOf (sb s)))) :
    Calls Try.prog 32 #[.string s] w fun e w' => ∃ u, e = .returned (.tuple #[u, .bool true]) ∧ NumIs w' u z ∧ Below w.heap.size w w' := by
  refine (digits_walk w s (by omega)).mono ?_
  rintro e w' ⟨u, b, rfl, hd, hb⟩
  have hd2 := hd.out
  unfold DSpec at hd2
  rw [← hz.out] at hd2
  rcases hd2 with ⟨rfl, _, _, h3⟩ | ⟨_, _, h3 | h3⟩
  · exact ⟨u, rfl, h3, hb⟩
  · rw [hg.out.1] at h3; cases h3
  · exact absurd h3 hg.out.2
theorem digits_bad (w : World) (s : ByteArray) (hs : s.size ≤ 200) (hg : Hid (¬ GoodT s)) :
    Calls Try.prog 32 #[.string s] w fun e w' => e = .returned (.tuple #[.agg #[.bool false, .slice none 0 0], .bool false]) ∧ Below w.heap.size w w' := by
  refine (digits_walk w s (by omega)).mono ?_
  rintro e w' ⟨u, b, rfl, hd, hb⟩
  have hd2 := hd.out
  unfold DSpec at hd2
  rcases hd2 with ⟨rfl, h1, h2, h3⟩ | ⟨rfl, rfl, _⟩
  · exact absurd ⟨h1, h2⟩ hg.out
  · exact ⟨rfl, hb⟩
theorem parse_good (w : World) (s : ByteArray) (hs : s.size ≤ 200) (hg : Hid (GoodT s)) {z : Int} (hz : Hid (z = if negB (sb s) then - numOf (digsOf (sb s)) else numOf (digsOf (sb s)))) :
    Calls Try.prog 33 #[.string s] w fun e w' => ∃ h l er, e = .returned (.tuple #[.agg #[.int .i64 h, .int .u64 l], .int .i64 er]) ∧ Hid (WSpec z h l er) ∧ Below w.heap.size w w' := by
  refine (parse_any w s (by omega)).mono ?_
  rintro e w' ⟨h, l, er, rfl, hp, hb⟩
  refine ⟨h, l, er, rfl, ?_, hb⟩
  show WSpec z h l er
  rw [hz.out]
  rcases hp.out with ⟨g | g, _⟩ | ⟨_, _, hsg⟩
  · rw [hg.out.1] at g; cases g
  · exact absurd g hg.out.2
  · unfold Signed at hsg
    rcases hsg with ⟨e0, e1, e2, k, v⟩ | ⟨n, e1, e2, e3⟩
    · exact .inl ⟨⟨e0, e1⟩, k, v, e2⟩
    · exact .inr ⟨n, e2, e3, e1⟩
theorem parse_bad (w : World) (s : ByteArray) (hs : s.size ≤ 200) (hg : Hid (¬ GoodT s)) :
    Calls Try.prog 33 #[.string s] w fun e w' => e = .returned (.tuple #[.agg #[.int .i64 0, .int .u64 0], .int .i64 3]) ∧ Below w.heap.size w w' := by
  refine (parse_any w s (by omega)).mono ?_
  rintro e w' ⟨h, l, er, rfl, hp, hb⟩
  rcases hp.out with ⟨_, rfl, rfl, rfl⟩ | ⟨h1, h2, _⟩
  · exact ⟨rfl, hb⟩
  · exact absurd ⟨h1, h2⟩ hg.out

set_option maxRecDepth 100000 in
set_option maxHeartbeats 4000000 in
theorem texts_good (w : World) (a b : Int) (s : ByteArray) (n : Nat) (k : WOk a b) (hmin : min (s.size : Int) 200 = (n : Int)) (hn : n ≤ s.size) (hn2 : n ≤ 200)
    (hg : GoodT (s.extract 0 n)) :
    Calls Try.prog 7 #[.agg #[.int .i64 a, .int .u64 b], .string s] w fun e w' => e = .returned (.bool true) ∧ Below w.heap.size w w' := by
  obtain ⟨x, hx⟩ : ∃ z, z = wv a b := ⟨_, rfl⟩
  obtain ⟨t, ht⟩ : ∃ t, t = mkStr (textOf x) := ⟨_, rfl⟩
  obtain ⟨u, hu⟩ : ∃ u, u = s.extract 0 n := ⟨_, rfl⟩
  have hus : u.size ≤ 200 := by rw [hu]; simp; omega
  have hsl := fun W => slice_to s n hn W
  rw [← hu] at hsl hg
  have HX := Lib.hid hx
  have HT := Lib.hid ht
  have HI : Hid (In128 x) := by show In128 x; rw [hx]; exact wv_bd k
  have K := Lib.hid k
  have HG := Lib.hid hg
  have HC : Hid (0 = cmpI x x) := by show _ = _; unfold cmpI; simp
  obtain ⟨z, hz⟩ : ∃ z, z = if negB (sb u) then - numOf (digsOf (sb u)) else numOf (digsOf (sb u)) := ⟨_, rfl⟩
  have HZ := Lib.hid hz
  clear hz
  clear hx ht hu k hg
  go_enter Try.func7, Try.ntmps7
  go_upto_region 2 with fail
  obtain ⟨W0, hW0⟩ : ∃ W0, W0 = w.alloc (.cells #[.int .i64 a, .int .u64 b] 38) := ⟨_, rfl⟩
  rw [← hW0]
  have j := one_new w (.cells #[.int .i64 a, .int .u64 b] 38)
  rw [← hW0] at j
  have A_0 := Lib.hid j.1
  have HB0 := Lib.hid j.2
  clear hW0 j hsl
  obtain ⟨x0, x1, _, _⟩ := blk2 A_0.out
  go_upto_region 3 with (go_at_call 31; (with_reducible refine (text_is W0 a b K.out HX HT).mono ?_); rintro e w0 ⟨rfl, hb⟩; have A_x := Lib.hid (block_kept A_0.out hb); have HBx := Lib.hid (HB0.out.trans (hb.mono HB0.out.size)); clear hb)
  clear x0 x1 A_0 HB0
  go_upto_region 4 with (go_at_call 32; (with_reducible refine (digits_text w0 HI HT).mono ?_); rintro e w1 ⟨u1, rfl, ⟨A1, n1, c1, rfl, hd⟩, hb⟩; have ND := Lib.hid hd; have BW1 := Lib.hid hb; clear hb hd)
  obtain ⟨g, hgd⟩ : ∃ g, g = decide (x < 0) := ⟨_, rfl⟩
  rw [← hgd]
  have N_1 : Hid (NumIs w1 (.agg #[.bool g, .slice A1 n1 c1]) x) := ⟨A1, n1, c1, by rw [hgd], ND.out⟩
  clear hgd ND
  obtain ⟨W1, hW1⟩ : ∃ W, W = w1.alloc (.cells #[.bool g, .slice A1 n1 c1] 25) := ⟨_, rfl⟩
  rw [← hW1]
  have j := one_new w1 (.cells #[.bool g, .slice A1 n1 c1] 25)
  rw [← hW1] at j
  have BV1 := Lib.hid (BW1.out.trans (j.2.mono BW1.out.size))
  have HB1 := Lib.hid (HBx.out.trans (BV1.out.mono HBx.out.size))
  have A_1 := Lib.hid (block_kept A_x.out BV1.out)
  have D1_1 := Lib.hid j.1
  have HBq := Lib.hid j.2
  clear hW1 j BW1 A_x
  have N2_1 : Hid (NumIs W1 (.agg #[.bool g, .slice A1 n1 c1]) x) := NumIs.below N_1.out HBq.out (Nat.le_refl _)
  clear N_1 HBq BV1 HBx
  have N_1 := N2_1
  clear N2_1
  go_upto_region 5 with (go_at_call 33; (with_reducible refine (parse_back W1 a b K.out HX HT).mono ?_); rintro e w2 ⟨rfl, hb⟩; have BW2 := Lib.hid hb; clear hb)
  obtain ⟨W2, hW2⟩ : ∃ W, W = w2.alloc (.cells #[.int .i64 a, .int .u64 b] 38) := ⟨_, rfl⟩
  rw [← hW2]
  have j := one_new w2 (.cells #[.int .i64 a, .int .u64 b] 38)
  rw [← hW2] at j
  have BV2 := Lib.hid (BW2.out.trans (j.2.mono BW2.out.size))
  have HB2 := Lib.hid (HB1.out.trans (BV2.out.mono HB1.out.size))
  have A_2 := Lib.hid (block_kept A_1.out BV2.out)
  have D1_2 := Lib.hid (block_kept D1_1.out BV2.out)
  have N_2 := Lib.hid (NumIs.below N_1.out BV2.out (Nat.le_refl _))
  have D2_2 := Lib.hid j.1
  clear hW2 j BW2 A_1 D1_1
  clear BV2 HB1 N_1
  go_upto_region 6 with (go_at_call 33; (with_reducible refine (parse_good W2 u hus HG HZ).mono ?_); rintro e w3 ⟨ph, pl, pe, rfl, SP, hb⟩; have BW3 := Lib.hid hb; clear hb)
  obtain ⟨W3, hW3⟩ : ∃ W, W = w3.alloc (.cells #[.int .i64 ph, .int .u64 pl] 38) := ⟨_, rfl⟩
  rw [← hW3]
  have j := one_new w3 (.cells #[.int .i64 ph, .int .u64 pl] 38)
  rw [← hW3] at j
  have BV3 := Lib.hid (BW3.out.trans (j.2.mono BW3.out.size))
  have HB3 := Lib.hid (HB2.out.trans (BV3.out.mono HB2.out.size))
  have A_3 := Lib.hid (block_kept A_2.out BV3.out)
  have D1_3 := Lib.hid (block_kept D1_2.out BV3.out)
  have D2_3 := Lib.hid (block_kept D2_2.out BV3.out)
  have N_3 := Lib.hid (NumIs.below N_2.out BV3.out (Nat.le_refl _))
  have D3_3 := Lib.hid j.1
  clear hW3 j BW3 A_2 D1_2 D2_2
  clear BV3 HB2 N_2
  go_upto_region 7 with (go_at_call 32; (with_reducible refine (digits_good W3 u hus HG HZ).mono ?_); rintro e w4 ⟨u4, rfl, ⟨A4, n4, c4, rfl, hd⟩, hb⟩; have ND := Lib.hid hd; have BW4 := Lib.hid hb; clear hb hd)
  obtain ⟨gz, hgz⟩ : ∃ g, g = decide (z < 0) := ⟨_, rfl⟩
  rw [← hgz]
  have M_x : Hid (NumIs w4 (.agg #[.bool gz, .slice A4 n4 c4]) z) := ⟨A4, n4, c4, by rw [hgz], ND.out⟩
  clear hgz ND
  obtain ⟨W4, hW4⟩ : ∃ W, W = w4.alloc (.cells #[.bool gz, .slice A4 n4 c4] 25) := ⟨_, rfl⟩
  rw [← hW4]
  have j := one_new w4 (.cells #[.bool gz, .slice A4 n4 c4] 25)
  rw [← hW4] at j
  have BV4 := Lib.hid (BW4.out.trans (j.2.mono BW4.out.size))
  have HB4 := Lib.hid (HB3.out.trans (BV4.out.mono HB3.out.size))
  have A_4 := Lib.hid (block_kept A_3.out BV4.out)
  have D1_4 := Lib.hid (block_kept D1_3.out BV4.out)
  have D2_4 := Lib.hid (block_kept D2_3.out BV4.out)
  have D3_4 := Lib.hid (block_kept D3_3.out BV4.out)
  have N_4 := Lib.hid (NumIs.below N_3.out BV4.out (Nat.le_refl _))
  have D4_4 := Lib.hid j.1
  have M_4 : Hid (NumIs W4 (.agg #[.bool gz, .slice A4 n4 c4]) z) := NumIs.below M_x.out j.2 (Nat.le_refl _)
  clear M_x
  clear hW4 j BW4 A_3 D1_3 D2_3 D3_3
  clear BV4 HB3 N_3
  obtain ⟨x0, x1, _, _⟩ := blk2 A_4.out
  obtain ⟨y0, y1, _, _⟩ := blk2 D1_4.out
  obtain ⟨z0, z1, _, _⟩ := blk2 D2_4.out
  have S1 : W4.drew.cell? ⟨w1.heap.size, 0, none⟩ = some (.bool g) ∧ W4.drew.cell? ⟨w1.heap.size, 1, none⟩ = some (.slice A1 n1 c1) ∧ W4.drew.cell? ⟨w.heap.size, 0, none⟩ = some (.int .i64 a) ∧ W4.drew.cell? ⟨w.heap.size, 1, none⟩ = some (.int .u64 b) ∧ W4.drew.cell? ⟨w2.heap.size, 0, none⟩ = some (.int .i64 a) ∧ W4.drew.cell? ⟨w2.heap.size, 1, none⟩ = some (.int .u64 b) := ⟨y0, y1, x0, x1, z0, z1⟩
  have NN : Hid (NumIs W4.drew (.agg #[.bool g, .slice A1 n1 c1]) x) := N_4
  have HB1 : Hid (Below W4.heap.size W4 W4.drew) := (Below.refl _ _).drew
  clear x0 x1 y0 y1 z0 z1 N_4 A_4 D1_4 D2_4
  go_region_held3 (fun w' => w'.cell? ⟨w1.heap.size, 0, none⟩ = some (.bool g) ∧ w'.cell? ⟨w1.heap.size, 1, none⟩ = some (.slice A1 n1 c1) ∧ w'.cell? ⟨w.heap.size, 0, none⟩ = some (.int .i64 a) ∧ w'.cell? ⟨w.heap.size, 1, none⟩ = some (.int .u64 b) ∧ w'.cell? ⟨w2.heap.size, 0, none⟩ = some (.int .i64 a) ∧ w'.cell? ⟨w2.heap.size, 1, none⟩ = some (.int .u64 b)) (first | assumption)
    (first
        | (go_at_call 14; (with_reducible refine (known_any W4.drew).mono ?_); rintro e w11 ⟨rfl, hb⟩; have S11 := cell6 hb S1; have N_11 := Lib.hid (NumIs.below NN.out hb (Nat.le_refl _)); have HB11 := Lib.hid (HB1.out.trans (hb.mono HB1.out.size)); clear hb; (try clear S1 HB1 NN))
        | (go_at_call 21; (with_reducible refine (num_is w11 a b K.out HX).mono ?_); rintro e w12 ⟨u, rfl, ⟨A12, n12, c12, rfl, hd⟩, hb⟩; have S12 := cell6 hb S11; have N_12 := Lib.hid (NumIs.below N_11.out hb (Nat.le_refl _)); have V_12 : Hid (NumIs w12 (.agg #[.bool (decide (x < 0)), .slice A12 n12 c12]) x) := (⟨A12, n12, c12, rfl, hd⟩ : NumIs w12 (.agg #[.bool (decide (x < 0)), .slice A12 n12 c12]) x); have HB12 := Lib.hid (HB11.out.trans (hb.mono HB11.out.size)); clear hb hd; (try clear S11 HB11 N_11))
        | (go_at_call 24; (with_reducible refine (compare_is w12 _ _ x x HC N_12.out V_12.out).mono ?_); rintro e w13 ⟨rfl, hb⟩; have S13 := cell6 hb S12; have HB13 := Lib.hid (HB12.out.trans (hb.mono HB12.out.size)); clear hb; (try clear S12 HB12 N_12 V_12)))
  obtain ⟨p0, p1, _, _⟩ := blk2 (block_kept D3_4.out HB13.out)
  obtain ⟨q0, q1, _, _⟩ := blk2 (block_kept D4_4.out HB13.out)
  have M_5 := Lib.hid (NumIs.below M_4.out HB13.out (Nat.le_refl _))
  go_wp2_with (go_at_call 22; (with_reducible refine (wide_ok w13 _ z ph pl pe SP M_5.out).mono ?_); rintro e w9 ⟨rfl, hb⟩; have HB9 := Lib.hid (HB13.out.trans (hb.mono HB13.out.size)); clear hb)
  go_ret
  exact ⟨rfl, HB4.out.trans (HB9.out.mono HB4.out.size)⟩

set_option maxRecDepth 100000 in
set_option maxHeartbeats 4000000 in
theorem texts_bad (w : World) (a b : Int) (s : ByteArray) (n : Nat) (k : WOk a b) (hmin : min (s.size : Int) 200 = (n : Int)) (hn : n ≤ s.size) (hn2 : n ≤ 200)
    (hg : ¬ GoodT (s.extract 0 n)) :
    Calls Try.prog 7 #[.agg #[.int .i64 a, .int .u64 b], .string s] w fun e w' => e = .returned (.bool true) ∧ Below w.heap.size w w' := by
  obtain ⟨x, hx⟩ : ∃ z, z = wv a b := ⟨_, rfl⟩
  obtain ⟨t, ht⟩ : ∃ t, t = mkStr (textOf x) := ⟨_, rfl⟩
  obtain ⟨u, hu⟩ : ∃ u, u = s.extract 0 n := ⟨_, rfl⟩
  have hus : u.size ≤ 200 := by rw [hu]; simp; omega
  have hsl := fun W => slice_to s n hn W
  rw [← hu] at hsl hg
  have HX := Lib.hid hx
  have HT := Lib.hid ht
  have HI : Hid (In128 x) := by show In128 x; rw [hx]; exact wv_bd k
  have K := Lib.hid k
  have HG := Lib.hid hg
  have HC : Hid (0 = cmpI x x) := by show _ = _; unfold cmpI; simp
  clear hx ht hu k hg
  go_enter Try.func7, Try.ntmps7
  go_upto_region 2 with fail
  obtain ⟨W0, hW0⟩ : ∃ W0, W0 = w.alloc (.cells #[.int .i64 a, .int .u64 b] 38) := ⟨_, rfl⟩
  rw [← hW0]
  have j := one_new w (.cells #[.int .i64 a, .int .u64 b] 38)
  rw [← hW0] at j
  have A_0 := Lib.hid j.1
  have HB0 := Lib.hid j.2
  clear hW0 j hsl
  obtain ⟨x0, x1, _, _⟩ := blk2 A_0.out
  go_upto_region 3 with (go_at_call 31; (with_reducible refine (text_is W0 a b K.out HX HT).mono ?_); rintro e w0 ⟨rfl, hb⟩; have A_x := Lib.hid (block_kept A_0.out hb); have HBx := Lib.hid (HB0.out.trans (hb.mono HB0.out.size)); clear hb)
  clear x0 x1 A_0 HB0
  go_upto_region 4 with (go_at_call 32; (with_reducible refine (digits_text w0 HI HT).mono ?_); rintro e w1 ⟨u1, rfl, ⟨A1, n1, c1, rfl, hd⟩, hb⟩; have ND := Lib.hid hd; have BW1 := Lib.hid hb; clear hb hd)
  obtain ⟨g, hgd⟩ : ∃ g, g = decide (x < 0) := ⟨_, rfl⟩
  rw [← hgd]
  have N_1 : Hid (NumIs w1 (.agg #[.bool g, .slice A1 n1 c1]) x) := ⟨A1, n1, c1, by rw [hgd], ND.out⟩
  clear hgd ND
  obtain ⟨W1, hW1⟩ : ∃ W, W = w1.alloc (.cells #[.bool g, .slice A1 n1 c1] 25) := ⟨_, rfl⟩
  rw [← hW1]
  have j := one_new w1 (.cells #[.bool g, .slice A1 n1 c1] 25)
  rw [← hW1] at j
  have BV1 := Lib.hid (BW1.out.trans (j.2.mono BW1.out.size))
  have HB1 := Lib.hid (HBx.out.trans (BV1.out.mono HBx.out.size))
  have A_1 := Lib.hid (block_kept A_x.out BV1.out)
  have D1_1 := Lib.hid j.1
  have HBq := Lib.hid j.2
  clear hW1 j BW1 A_x
  have N2_1 : Hid (NumIs W1 (.agg #[.bool g, .slice A1 n1 c1]) x) := NumIs.below N_1.out HBq.out (Nat.le_refl _)
  clear N_1 HBq BV1 HBx
  have N_1 := N2_1
  clear N2_1
  go_upto_region 5 with (go_at_call 33; (with_reducible refine (parse_back W1 a b K.out HX HT).mono ?_); rintro e w2 ⟨rfl, hb⟩; have BW2 := Lib.hid hb; clear hb)
  obtain ⟨W2, hW2⟩ : ∃ W, W = w2.alloc (.cells #[.int .i64 a, .int .u64 b] 38) := ⟨_, rfl⟩
  rw [← hW2]
  have j := one_new w2 (.cells #[.int .i64 a, .int .u64 b] 38)
  rw [← hW2] at j
  have BV2 := Lib.hid (BW2.out.trans (j.2.mono BW2.out.size))
  have HB2 := Lib.hid (HB1.out.trans (BV2.out.mono HB1.out.size))
  have A_2 := Lib.hid (block_kept A_1.out BV2.out)
  have D1_2 := Lib.hid (block_kept D1_1.out BV2.out)
  have N_2 := Lib.hid (NumIs.below N_1.out BV2.out (Nat.le_refl _))
  have D2_2 := Lib.hid j.1
  clear hW2 j BW2 A_1 D1_1
  clear BV2 HB1 N_1
  go_upto_region 6 with (go_at_call 33; (with_reducible refine (parse_bad W2 u hus HG).mono ?_); rintro e w3 ⟨rfl, hb⟩; have BW3 := Lib.hid hb; clear hb)
  obtain ⟨W3, hW3⟩ : ∃ W, W = w3.alloc (.cells #[.int .i64 0, .int .u64 0] 38) := ⟨_, rfl⟩
  rw [← hW3]
  have j := one_new w3 (.cells #[.int .i64 0, .int .u64 0] 38)
  rw [← hW3] at j
  have BV3 := Lib.hid (BW3.out.trans (j.2.mono BW3.out.size))
  have HB3 := Lib.hid (HB2.out.trans (BV3.out.mono HB2.out.size))
  have A_3 := Lib.hid (block_kept A_2.out BV3.out)
  have D1_3 := Lib.hid (block_kept D1_2.out BV3.out)
  have D2_3 := Lib.hid (block_kept D2_2.out BV3.out)
  have N_3 := Lib.hid (NumIs.below N_2.out BV3.out (Nat.le_refl _))
  have D3_3 := Lib.hid j.1
  clear hW3 j BW3 A_2 D1_2 D2_2
  clear BV3 HB2 N_2
  go_upto_region 7 with (go_at_call 32; (with_reducible refine (digits_bad W3 u hus HG).mono ?_); rintro e w4 ⟨rfl, hb⟩; have BW4 := Lib.hid hb; clear hb)
  obtain ⟨W4, hW4⟩ : ∃ W, W = w4.alloc (.cells #[.bool false, .slice none 0 0] 25) := ⟨_, rfl⟩
  rw [← hW4]
  have j := one_new w4 (.cells #[.bool false, .slice none 0 0] 25)
  rw [← hW4] at j
  have BV4 := Lib.hid (BW4.out.trans (j.2.mono BW4.out.size))
  have HB4 := Lib.hid (HB3.out.trans (BV4.out.mono HB3.out.size))
  have A_4 := Lib.hid (block_kept A_3.out BV4.out)
  have D1_4 := Lib.hid (block_kept D1_3.out BV4.out)
  have D2_4 := Lib.hid (block_kept D2_3.out BV4.out)
  have D3_4 := Lib.hid (block_kept D3_3.out BV4.out)
  have N_4 := Lib.hid (NumIs.below N_3.out BV4.out (Nat.le_refl _))
  have D4_4 := Lib.hid j.1
  clear hW4 j BW4 A_3 D1_3 D2_3 D3_3
  clear BV4 HB3 N_3
  obtain ⟨x0, x1, _, _⟩ := blk2 A_4.out
  obtain ⟨y0, y1, _, _⟩ := blk2 D1_4.out
  obtain ⟨z0, z1, _, _⟩ := blk2 D2_4.out
  have S1 : W4.drew.cell? ⟨w1.heap.size, 0, none⟩ = some (.bool g) ∧ W4.drew.cell? ⟨w1.heap.size, 1, none⟩ = some (.slice A1 n1 c1) ∧ W4.drew.cell? ⟨w.heap.size, 0, none⟩ = some (.int .i64 a) ∧ W4.drew.cell? ⟨w.heap.size, 1, none⟩ = some (.int .u64 b) ∧ W4.drew.cell? ⟨w2.heap.size, 0, none⟩ = some (.int .i64 a) ∧ W4.drew.cell? ⟨w2.heap.size, 1, none⟩ = some (.int .u64 b) := ⟨y0, y1, x0, x1, z0, z1⟩
  have NN : Hid (NumIs W4.drew (.agg #[.bool g, .slice A1 n1 c1]) x) := N_4
  have HB1 : Hid (Below W4.heap.size W4 W4.drew) := (Below.refl _ _).drew
  clear x0 x1 y0 y1 z0 z1 N_4 A_4 D1_4 D2_4
  go_region_held3 (fun w' => w'.cell? ⟨w1.heap.size, 0, none⟩ = some (.bool g) ∧ w'.cell? ⟨w1.heap.size, 1, none⟩ = some (.slice A1 n1 c1) ∧ w'.cell? ⟨w.heap.size, 0, none⟩ = some (.int .i64 a) ∧ w'.cell? ⟨w.heap.size, 1, none⟩ = some (.int .u64 b) ∧ w'.cell? ⟨w2.heap.size, 0, none⟩ = some (.int .i64 a) ∧ w'.cell? ⟨w2.heap.size, 1, none⟩ = some (.int .u64 b)) (first | assumption)
    (first
        | (go_at_call 14; (with_reducible refine (known_any W4.drew).mono ?_); rintro e w11 ⟨rfl, hb⟩; have S11 := cell6 hb S1; have N_11 := Lib.hid (NumIs.below NN.out hb (Nat.le_refl _)); have HB11 := Lib.hid (HB1.out.trans (hb.mono HB1.out.size)); clear hb; (try clear S1 HB1 NN))
        | (go_at_call 21; (with_reducible refine (num_is w11 a b K.out HX).mono ?_); rintro e w12 ⟨u, rfl, ⟨A12, n12, c12, rfl, hd⟩, hb⟩; have S12 := cell6 hb S11; have N_12 := Lib.hid (NumIs.below N_11.out hb (Nat.le_refl _)); have V_12 : Hid (NumIs w12 (.agg #[.bool (decide (x < 0)), .slice A12 n12 c12]) x) := (⟨A12, n12, c12, rfl, hd⟩ : NumIs w12 (.agg #[.bool (decide (x < 0)), .slice A12 n12 c12]) x); have HB12 := Lib.hid (HB11.out.trans (hb.mono HB11.out.size)); clear hb hd; (try clear S11 HB11 N_11))
        | (go_at_call 24; (with_reducible refine (compare_is w12 _ _ x x HC N_12.out V_12.out).mono ?_); rintro e w13 ⟨rfl, hb⟩; have S13 := cell6 hb S12; have HB13 := Lib.hid (HB12.out.trans (hb.mono HB12.out.size)); clear hb; (try clear S12 HB12 N_12 V_12)))
  obtain ⟨p0, p1, _, _⟩ := blk2 (block_kept D3_4.out HB13.out)
  obtain ⟨q0, q1, _, _⟩ := blk2 (block_kept D4_4.out HB13.out)
  go_wp2
  go_ret
  exact ⟨rfl, HB4.out.trans (HB13.out.mono HB4.out.size)⟩

theorem law_texts (w : World) (a b : Int) (s : ByteArray) (k : WOk a b) :
    Calls Try.prog 7 #[.agg #[.int .i64 a, .int .u64 b], .string s] w fun e w' => e = .returned (.bool true) ∧ Below w.heap.size w w' := by
  by_cases hg : GoodT (s.extract 0 (min s.size 200))
  · exact texts_good w a b s (min s.size 200) k (by omega) (by omega) (by omega) hg
  · exact texts_bad w a b s (min s.size 200) k (by omega) (by omega) (by omega) hg
end Go.Proofs.Ytjnohdkpkbiclaa
