/-
  The law FixedWide answers true: its walk. Conditions: the types' own ranges.
-/
import Derived.Test.YtjnohdkpkbiclaaPlus
import Derived.Test.YtjnohdkpkbiclaaLawNar
import Derived.Outline
namespace Go.Proofs.Ytjnohdkpkbiclaa
open Go.RowKit

theorem cell14 {W w1 : World} (hb : Below W.heap.size W w1) {p1 p2 p3 p4 p5 p6 p7 p8 p9 p10 p11 p12 p13 p14 : Addr} {v1 v2 v3 v4 v5 v6 v7 v8 v9 v10 v11 v12 v13 v14 : Value}
    (h : W.cell? p1 = some v1 ∧ W.cell? p2 = some v2 ∧ W.cell? p3 = some v3 ∧ W.cell? p4 = some v4 ∧ W.cell? p5 = some v5 ∧ W.cell? p6 = some v6 ∧ W.cell? p7 = some v7 ∧ W.cell? p8 = some v8 ∧ W.cell? p9 = some v9 ∧ W.cell? p10 = some v10 ∧ W.cell? p11 = some v11 ∧ W.cell? p12 = some v12 ∧ W.cell? p13 = some v13 ∧ W.cell? p14 = some v14) :
    w1.cell? p1 = some v1 ∧ w1.cell? p2 = some v2 ∧ w1.cell? p3 = some v3 ∧ w1.cell? p4 = some v4 ∧ w1.cell? p5 = some v5 ∧ w1.cell? p6 = some v6 ∧ w1.cell? p7 = some v7 ∧ w1.cell? p8 = some v8 ∧ w1.cell? p9 = some v9 ∧ w1.cell? p10 = some v10 ∧ w1.cell? p11 = some v11 ∧ w1.cell? p12 = some v12 ∧ w1.cell? p13 = some v13 ∧ w1.cell? p14 = some v14 :=
  ⟨(hb.cell (World.block_lt_of_cell? _ _ h.1)).trans h.1, (hb.cell (World.block_lt_of_cell? _ _ h.2.1)).trans h.2.1, (hb.cell (World.block_lt_of_cell? _ _ h.2.2.1)).trans h.2.2.1, (hb.cell (World.block_lt_of_cell? _ _ h.2.2.2.1)).trans h.2.2.2.1, (hb.cell (World.block_lt_of_cell? _ _ h.2.2.2.2.1)).trans h.2.2.2.2.1, (hb.cell (World.block_lt_of_cell? _ _ h.2.2.2.2.2.1)).trans h.2.2.2.2.2.1, (hb.cell (World.block_lt_of_cell? _ _ h.2.2.2.2.2.2.1)).trans h.2.2.2.2.2.2.1, (hb.cell (World.block_lt_of_cell? _ _ h.2.2.2.2.2.2.2.1)).trans h.2.2.2.2.2.2.2.1, (hb.cell (World.block_lt_of_cell? _ _ h.2.2.2.2.2.2.2.2.1)).trans h.2.2.2.2.2.2.2.2.1, (hb.cell (World.block_lt_of_cell? _ _ h.2.2.2.2.2.2.2.2.2.1)).trans h.2.2.2.2.2.2.2.2.2.1, (hb.cell (World.block_lt_of_cell? _ _ h.2.2.2.2.2.2.2.2.2.2.1)).trans h.2.2.2.2.2.2.2.2.2.2.1, (hb.cell (World.block_lt_of_cell? _ _ h.2.2.2.2.2.2.2.2.2.2.2.1)).trans h.2.2.2.2.2.2.2.2.2.2.2.1, (hb.cell (World.block_lt_of_cell? _ _ h.2.2.2.2.2.2.2.2.2.2.2.2.1)).trans h.2.2.2.2.2.2.2.2.2.2.2.2.1, (hb.cell (World.block_lt_of_cell? _ _ h.2.2.2.2.2.2.2.2.2.2.2.2.2)).trans h.2.2.2.2.2.2.2.2.2.2.2.2.2⟩

theorem fplus_is (w : World) (A : Option Addr) (n c : Nat) (ps : List (Int × Int)) {z : Int} (hz : Hid (z = wtot ps)) (h : Pairs w A n ps) (hn : n ≤ 1000) :
    Calls Try.prog 20 #[.slice A n c] w fun e w' => ∃ h l er, e = .returned (.tuple #[.agg #[.int .i64 h, .int .u64 l], .int .i64 er]) ∧ Hid (WSpec z h l er) ∧ Below w.heap.size w w' := by
  rw [hz.out]
  exact fplus_any w A n c ps h hn
theorem fminus_is (w : World) (a b c d : Int) (k : WOk a b) (k' : WOk c d) {z : Int} (hz : Hid (z = wv a b - wv c d)) :
    Calls Try.prog 18 #[.agg #[.int .i64 a, .int .u64 b], .agg #[.int .i64 c, .int .u64 d]] w fun e w' => ∃ h l er, e = .returned (.tuple #[.agg #[.int .i64 h, .int .u64 l], .int .i64 er]) ∧ Hid (WSpec z h l er) ∧ Below w.heap.size w w' := by
  rw [hz.out]
  exact fminus_any w a b c d k k'
theorem fopposite_is (w : World) (a b : Int) (k : WOk a b) {z : Int} (hz : Hid (z = - wv a b)) :
    Calls Try.prog 19 #[.agg #[.int .i64 a, .int .u64 b]] w fun e w' => ∃ h l er, e = .returned (.tuple #[.agg #[.int .i64 h, .int .u64 l], .int .i64 er]) ∧ Hid (WSpec z h l er) ∧ Below w.heap.size w w' := by
  rw [hz.out]
  exact fopposite_any w a b k
theorem wtot_bound {w : World} {A : Option Addr} {n : Nat} {ps : List (Int × Int)} (h : Pairs w A n ps) (k : Nat) (hk : k ≤ n) :
    -170141183460469231731687303715884105728 * (k : Int) ≤ wtot (ps.take k) ∧ wtot (ps.take k) ≤ 170141183460469231731687303715884105727 * (k : Int) := by
  induction k with
  | zero => simp [wtot]
  | succ k ih =>
    have h1 := ih (by omega)
    have h2 := wv_bd (h.2.1 k)
    rw [wtot_take_succ _ _ (by rw [h.1]; omega)]
    push_cast
    omega
theorem bd_few2 {z : Int} (h : -22300745198530623141535718272648361505980416 < z) (k : z < 22300745198530623141535718272648361505980416) : Few z := by
  refine Bd.few ?_
  unfold Bd; rw [show bp 9 = 22300745198530623141535718272648361505980416 by decide]; omega

theorem pairs_two {w : World} {b : Nat} {x y z u : Int} (h : w.heap[b]? = some (.cells #[.int .i64 x, .int .u64 y, .int .i64 z, .int .u64 u] 38 (0, 0))) (k : WOk x y) (k' : WOk z u) : Pairs w (some ⟨b, 0, none⟩) 2 [(x, y), (z, u)] := by
  refine ⟨rfl, fun i => ?_, fun _ => ⟨b, 0, rfl, (Array.getElem?_eq_some_iff.1 h).1, fun i hi => ?_⟩⟩
  · rcases i with _ | _ | i
    · exact k
    · exact k'
    · exact ⟨by simp, by simp, by simp, by simp⟩
  · rcases i with _ | _ | i
    · exact ⟨by rw [cell_of_row w b _ _ _ _ h]; rfl, by rw [cell_of_row w b _ _ _ _ h]; rfl⟩
    · exact ⟨by rw [cell_of_row w b _ _ _ _ h]; rfl, by rw [cell_of_row w b _ _ _ _ h]; rfl⟩
    · omega

set_option maxRecDepth 100000 in
set_option maxHeartbeats 8000000 in
theorem wide_walk (w : World) (a b c d : Int) (A : Option Addr) (len cap n : Nat) (ps : List (Int × Int)) (k : WOk a b) (k' : WOk c d)
    (hmin : min (len : Int) 30 = (n : Int)) (hcap : n ≤ cap) (hn : n ≤ 30) (hin : Pairs w A n ps) :
    Calls Try.prog 4 #[.agg #[.int .i64 a, .int .u64 b], .agg #[.int .i64 c, .int .u64 d], .slice A len cap] w fun e w' => e = .returned (.bool true) ∧ Below w.heap.size w w' := by
  obtain ⟨x, hx⟩ : ∃ z, z = wv a b := ⟨_, rfl⟩
  obtain ⟨y, hy⟩ : ∃ z, z = wv c d := ⟨_, rfl⟩
  obtain ⟨nx, hnx⟩ : ∃ z, z = -x := ⟨_, rfl⟩
  obtain ⟨ny, hny⟩ : ∃ z, z = -y := ⟨_, rfl⟩
  obtain ⟨zd, hzd⟩ : ∃ z, z = x + ny := ⟨_, rfl⟩
  obtain ⟨zp, hzp⟩ : ∃ z, z = x + y := ⟨_, rfl⟩
  obtain ⟨zt, hzt⟩ : ∃ z, z = wtot ps := ⟨_, rfl⟩
  have bx := wv_bd k
  have by' := wv_bd k'
  rw [← hx] at bx
  rw [← hy] at by'
  have FX : Hid (Few x) := bd_few2 (by omega) (by omega)
  have FY : Hid (Few y) := bd_few2 (by omega) (by omega)
  have FNY : Hid (Few ny) := bd_few2 (by omega) (by omega)
  have HMI : Hid (zd = wv a b - wv c d) := by show _ = _; omega
  have HOP : Hid (nx = - wv a b) := by show _ = _; omega
  have HP2 : Hid (zp = wtot [(a, b), (c, d)]) := by show _ = _; simp only [wtot]; omega
  have HX := Lib.hid hx
  have HY := Lib.hid hy
  have HNX := Lib.hid hnx
  have HNY := Lib.hid hny
  have HD := Lib.hid hzd
  have HP := Lib.hid hzp
  have HT := Lib.hid hzt
  have K := Lib.hid k
  have K' := Lib.hid k'
  have TB := Lib.hid (wtot_bound hin)
  have IN := Lib.hid hin
  clear hx hy hnx hny hzd hzp hzt bx by' k k' hin
  go_enter Try.func4, Try.ntmps4
  go_upto_region 2 with fail
  obtain ⟨W0, hW0⟩ : ∃ W0, W0 = (w.alloc (.cells #[.int .i64 a, .int .u64 b] 38)).alloc (.cells #[.int .i64 c, .int .u64 d] 38) := ⟨_, rfl⟩
  rw [← hW0]
  have j := two_new w (.cells #[.int .i64 a, .int .u64 b] 38) (.cells #[.int .i64 c, .int .u64 d] 38)
  rw [← hW0] at j
  have A_0 := Lib.hid j.1
  have B_0 := Lib.hid j.2.1
  have HB0 := Lib.hid j.2.2
  clear hW0 j
  obtain ⟨ac0, ac1, _, _⟩ := blk2 A_0.out
  obtain ⟨bc0, bc1, _, _⟩ := blk2 B_0.out
  go_upto_region 3 with (go_at_call 18; (with_reducible refine (fminus_is W0 a b c d K.out K'.out HMI).mono ?_); rintro e w1 ⟨dh, dl, de, rfl, SD, hb⟩; have BW1 := Lib.hid hb; clear hb)
  obtain ⟨W1, hW1⟩ : ∃ W, W = w1.alloc (.cells #[.int .i64 dh, .int .u64 dl] 38) := ⟨_, rfl⟩
  rw [← hW1]
  have j := one_new w1 (.cells #[.int .i64 dh, .int .u64 dl] 38)
  rw [← hW1] at j
  have BV1 := Lib.hid (BW1.out.trans (j.2.mono BW1.out.size))
  have HB1 := Lib.hid (HB0.out.trans (BV1.out.mono HB0.out.size))
  have A_1 := Lib.hid (block_kept A_0.out BV1.out)
  have B_1 := Lib.hid (block_kept B_0.out BV1.out)
  have D1_1 := Lib.hid j.1
  clear hW1 j BW1 BV1 A_0 B_0
  clear ac0 ac1 bc0 bc1
  obtain ⟨ac0, ac1, _, _⟩ := blk2 A_1.out
  go_upto_region 4 with (go_at_call 19; (with_reducible refine (fopposite_is W1 a b K.out HOP).mono ?_); rintro e w2 ⟨oh, ol, oe, rfl, SO, hb⟩; have BW2 := Lib.hid hb; clear hb)
  obtain ⟨W2, hW2⟩ : ∃ W, W = w2.alloc (.cells #[.int .i64 oh, .int .u64 ol] 38) := ⟨_, rfl⟩
  rw [← hW2]
  have j := one_new w2 (.cells #[.int .i64 oh, .int .u64 ol] 38)
  rw [← hW2] at j
  have BV2 := Lib.hid (BW2.out.trans (j.2.mono BW2.out.size))
  have HB2 := Lib.hid (HB1.out.trans (BV2.out.mono HB1.out.size))
  have A_2 := Lib.hid (block_kept A_1.out BV2.out)
  have B_2 := Lib.hid (block_kept B_1.out BV2.out)
  have D1_2 := Lib.hid (block_kept D1_1.out BV2.out)
  have D2_2 := Lib.hid j.1
  clear hW2 j BW2 BV2 A_1 B_1 D1_1
  clear ac0 ac1
  go_upto_region 5 with (go_at_call 20; (with_reducible refine (fplus_is W2 A n cap ps HT (IN.out.below HB2.out) (by omega)).mono ?_); rintro e w3 ⟨sh, sl, se, rfl, SS, hb⟩; have BW3 := Lib.hid hb; clear hb)
  obtain ⟨W3, hW3⟩ : ∃ W, W = w3.alloc (.cells #[.int .i64 sh, .int .u64 sl] 38) := ⟨_, rfl⟩
  rw [← hW3]
  have j := one_new w3 (.cells #[.int .i64 sh, .int .u64 sl] 38)
  rw [← hW3] at j
  have BV3 := Lib.hid (BW3.out.trans (j.2.mono BW3.out.size))
  have HB3 := Lib.hid (HB2.out.trans (BV3.out.mono HB2.out.size))
  have A_3 := Lib.hid (block_kept A_2.out BV3.out)
  have B_3 := Lib.hid (block_kept B_2.out BV3.out)
  have D1_3 := Lib.hid (block_kept D1_2.out BV3.out)
  have D2_3 := Lib.hid (block_kept D2_2.out BV3.out)
  have D3_3 := Lib.hid j.1
  clear hW3 j BW3 BV3 A_2 B_2 D1_2 D2_2
  obtain ⟨ac0, ac1, _, _⟩ := blk2 A_3.out
  obtain ⟨bc0, bc1, _, _⟩ := blk2 B_3.out
  have jj := one_new W3 (.cells #[.int .i64 a, .int .u64 b, .int .i64 c, .int .u64 d] 38)
  go_upto_region 6 with (go_at_call 20; (obtain ⟨Wq, hWq⟩ : ∃ W, W = W3.alloc (.cells #[.int .i64 a, .int .u64 b, .int .i64 c, .int .u64 d] 38) := ⟨_, rfl⟩); rw [← hWq] at jj ⊢; (with_reducible refine (fplus_is Wq (some ⟨W3.heap.size, 0, none⟩) 2 2 [(a, b), (c, d)] HP2 (pairs_two jj.1 K.out K'.out) (by decide)).mono ?_); rintro e w4 ⟨ph, pl, pe, rfl, SP, hb⟩; have BW4 := Lib.hid (jj.2.trans (hb.mono jj.2.size)); clear hb jj hWq)
  obtain ⟨W4, hW4⟩ : ∃ W, W = w4.alloc (.cells #[.int .i64 ph, .int .u64 pl] 38) := ⟨_, rfl⟩
  rw [← hW4]
  have j := one_new w4 (.cells #[.int .i64 ph, .int .u64 pl] 38)
  rw [← hW4] at j
  have BV4 := Lib.hid (BW4.out.trans (j.2.mono BW4.out.size))
  have HB4 := Lib.hid (HB3.out.trans (BV4.out.mono HB3.out.size))
  have A_4 := Lib.hid (block_kept A_3.out BV4.out)
  have B_4 := Lib.hid (block_kept B_3.out BV4.out)
  have D1_4 := Lib.hid (block_kept D1_3.out BV4.out)
  have D2_4 := Lib.hid (block_kept D2_3.out BV4.out)
  have D3_4 := Lib.hid (block_kept D3_3.out BV4.out)
  have D4_4 := Lib.hid j.1
  clear hW4 j BW4 BV4 A_3 B_3 D1_3 D2_3 D3_3
  clear ac0 ac1 bc0 bc1
  go_wp2
  obtain ⟨W5, hW5⟩ : ∃ W, W = W4.alloc (.cells #[.bool false, .slice none 0 0] 25) := ⟨_, rfl⟩
  rw [← hW5]
  have j := one_new W4 (.cells #[.bool false, .slice none 0 0] 25)
  rw [← hW5] at j
  have J := Lib.hid j
  clear hW5 j
  go_loopg [16] n (fun (g : Nat) si wx => ∃ (k : Nat), g = n - k ∧ k ≤ n ∧ si = .int .i64 (k : Int) ∧ Hid (NumAt wx W4.heap.size (wtot (ps.take k)) ∧ Below W4.heap.size W4 wx))
  case atStart => exact ⟨0, rfl, Nat.zero_le _, rfl, ⟨none, 0, 0, J.out.1, num_zero _⟩, J.out.2⟩
  case round =>
    obtain ⟨k, rfl, hk, rfl, hinv⟩ := hrel
    obtain ⟨s, hs⟩ : ∃ s, s = wtot (ps.take k) := ⟨_, rfl⟩
    have hinv2 := hinv
    rw [← hs] at hinv2
    obtain ⟨⟨A3, n3, c3, kt, nt⟩, bw⟩ := hinv2.out
    clear hinv2
    obtain ⟨ga, hga⟩ : ∃ g, g = decide (s < 0) := ⟨_, rfl⟩
    rw [← hga] at kt nt
    obtain ⟨t0, t1, tf0, tf1⟩ := blk2 kt
    have KT := Lib.hid kt
    have NT' := Lib.hid nt
    have BW := Lib.hid bw
    have TBk := TB.out k hk
    clear kt nt bw hga hinv
    by_cases hlt : k < n
    · obtain ⟨eb, eo, rfl, hbl, hcs⟩ := IN.out.2.2 (by omega)
      obtain ⟨p, hp⟩ : ∃ z, z = (ps.getD k (0, 0)).1 := ⟨_, rfl⟩
      obtain ⟨q, hq⟩ : ∃ z, z = (ps.getD k (0, 0)).2 := ⟨_, rfl⟩
      obtain ⟨z, hz⟩ : ∃ z, z = wv p q := ⟨_, rfl⟩
      obtain ⟨s', hs'⟩ : ∃ s', s' = s + z := ⟨_, rfl⟩
      have hok := IN.out.2.1 k
      rw [← hp, ← hq] at hok
      have hall := HB4.out.trans (BW.out.mono HB4.out.size)
      have hcp : wr.cell? ⟨eb, eo + k * 2, none⟩ = some (.int .i64 p) := by
        rw [hp]; exact (hall.cell (p := ⟨eb, eo + k * 2, none⟩) hbl).trans (hcs k hlt).1
      have hcq : wr.cell? ⟨eb, eo + k * 2 + 1, none⟩ = some (.int .u64 q) := by
        rw [hq]; exact (hall.cell (p := ⟨eb, eo + k * 2 + 1, none⟩) hbl).trans (hcs k hlt).2
      have HT' : Hid (wtot (ps.take (k + 1)) = s') := by show _ = _; rw [hs', hs, hz, hp, hq, wtot_take_succ _ _ (by rw [IN.out.1]; exact hlt)]
      have bz := wv_bd hok
      rw [← hz] at bz
      rw [← hs] at TBk
      have FS : Hid (Few s) := bd_few2 (by omega) (by omega)
      have FZ : Hid (Few z) := bd_few2 (by omega) (by omega)
      have KPQ := Lib.hid hok
      have HZ := Lib.hid hz
      have HS' := Lib.hid hs'
      have BWd : Hid (Below W4.heap.size W4 wr.drew) := BW.out.drew
      have KTd : Hid (wr.drew.heap[W4.heap.size]? = some (.cells #[.bool ga, .slice A3 n3 c3] 25 (0, 0))) := KT
      have NTd : Hid (NumIs wr.drew (.agg #[.bool ga, .slice A3 n3 c3]) s) := NT'
      clear hz hs hs' hcs TBk KT NT' BW hp hq hok hall bz
      go_upto_region 10 with fail
      go_region_with (first
        | (go_at_call 21; (with_reducible refine (num_is wr.drew p q KPQ.out HZ).mono ?_); rintro e w8 ⟨u8, rfl, ⟨A8, n8, c8, rfl, hd8⟩, hb⟩; have KT8 := Lib.hid (block_kept KTd.out hb); obtain ⟨m0, m1, _, _⟩ := blk2 KT8.out; have NT8 := Lib.hid (NumIs.below NTd.out hb (Nat.le_refl _)); have NZ8 : Hid (NumIs w8 (.agg #[.bool (decide (z < 0)), .slice A8 n8 c8]) z) := (⟨A8, n8, c8, rfl, hd8⟩ : NumIs w8 (.agg #[.bool (decide (z < 0)), .slice A8 n8 c8]) z); have BW8 := Lib.hid (BWd.out.trans (hb.mono BWd.out.size)); clear hb hd8)
        | (go_at_call 13; (with_reducible refine (add_is w8 _ _ s z HS' NT8.out NZ8.out FS.out FZ.out).mono ?_); rintro e w9 ⟨u9, rfl, ⟨A9, n9, c9, rfl, hd9⟩, hb⟩; have KT9 := Lib.hid (block_kept KT8.out hb); obtain ⟨_, _, mf0, mf1⟩ := blk2 KT9.out; have NS9 : Hid (NumIs w9 (.agg #[.bool (decide (s' < 0)), .slice A9 n9 c9]) s') := (⟨A9, n9, c9, rfl, hd9⟩ : NumIs w9 (.agg #[.bool (decide (s' < 0)), .slice A9 n9 c9]) s'); have BW9 := Lib.hid (BW8.out.trans (hb.mono BW8.out.size)); clear hb hd9))
      all_goals
        go_wp2
        go_roundg (n - (k + 1))
        case measure => omega
        case rel => exact ⟨k + 1, rfl, by omega, by go_num, by rw [HT'.out]; exact ⟨A9, n9, c9, blk_store2 KT9.out _ _, num_stored NS9.out KT9.out _ _⟩, below_stored BW9.out (Nat.le_refl _) _ _⟩
    · have hkn : k = n := by omega
      obtain rfl : s = zt := by rw [hs, HT.out, List.take_of_length_le (by rw [IN.out.1]; omega)]
      clear hs TBk t0 t1 tf0 tf1
      obtain ⟨x0, y0, _, _⟩ := blk2 (block_kept A_4.out BW.out)
      obtain ⟨x1, y1, _, _⟩ := blk2 (block_kept B_4.out BW.out)
      obtain ⟨x2, y2, _, _⟩ := blk2 (block_kept D1_4.out BW.out)
      obtain ⟨x3, y3, _, _⟩ := blk2 (block_kept D2_4.out BW.out)
      obtain ⟨x4, y4, _, _⟩ := blk2 (block_kept D3_4.out BW.out)
      obtain ⟨x5, y5, _, _⟩ := blk2 (block_kept D4_4.out BW.out)
      obtain ⟨x6, y6, _, _⟩ := blk2 KT.out
      have S1 : wr.drew.cell? ⟨w.heap.size, 0, none⟩ = some (.int .i64 a) ∧ wr.drew.cell? ⟨w.heap.size, 1, none⟩ = some (.int .u64 b) ∧ wr.drew.cell? ⟨w.heap.size + 1, 0, none⟩ = some (.int .i64 c) ∧ wr.drew.cell? ⟨w.heap.size + 1, 1, none⟩ = some (.int .u64 d) ∧ wr.drew.cell? ⟨w1.heap.size, 0, none⟩ = some (.int .i64 dh) ∧ wr.drew.cell? ⟨w1.heap.size, 1, none⟩ = some (.int .u64 dl) ∧ wr.drew.cell? ⟨w2.heap.size, 0, none⟩ = some (.int .i64 oh) ∧ wr.drew.cell? ⟨w2.heap.size, 1, none⟩ = some (.int .u64 ol) ∧ wr.drew.cell? ⟨w3.heap.size, 0, none⟩ = some (.int .i64 sh) ∧ wr.drew.cell? ⟨w3.heap.size, 1, none⟩ = some (.int .u64 sl) ∧ wr.drew.cell? ⟨w4.heap.size, 0, none⟩ = some (.int .i64 ph) ∧ wr.drew.cell? ⟨w4.heap.size, 1, none⟩ = some (.int .u64 pl) ∧ wr.drew.cell? ⟨W4.heap.size, 0, none⟩ = some (.bool ga) ∧ wr.drew.cell? ⟨W4.heap.size, 1, none⟩ = some (.slice A3 n3 c3) := ⟨x0, y0, x1, y1, x2, y2, x3, y3, x4, y4, x5, y5, x6, y6⟩
      have NT : Hid (NumIs wr.drew (.agg #[.bool ga, .slice A3 n3 c3]) s) := NT'
      have HB1 : Hid (Below w.heap.size w wr.drew) := (HB4.out.trans (BW.out.mono HB4.out.size)).drew
      clear x0 y0 x1 y1 x2 y2 x3 y3 x4 y4 x5 y5 x6 y6 KT NT' BW HB2 HB3 HB4 A_4 B_4 D1_4 D2_4 D3_4 D4_4
      go_upto_region 11 with fail
      go_region_held3 (fun w' => w'.cell? ⟨w.heap.size, 0, none⟩ = some (.int .i64 a) ∧ w'.cell? ⟨w.heap.size, 1, none⟩ = some (.int .u64 b) ∧ w'.cell? ⟨w.heap.size + 1, 0, none⟩ = some (.int .i64 c) ∧ w'.cell? ⟨w.heap.size + 1, 1, none⟩ = some (.int .u64 d) ∧ w'.cell? ⟨w1.heap.size, 0, none⟩ = some (.int .i64 dh) ∧ w'.cell? ⟨w1.heap.size, 1, none⟩ = some (.int .u64 dl) ∧ w'.cell? ⟨w2.heap.size, 0, none⟩ = some (.int .i64 oh) ∧ w'.cell? ⟨w2.heap.size, 1, none⟩ = some (.int .u64 ol) ∧ w'.cell? ⟨w3.heap.size, 0, none⟩ = some (.int .i64 sh) ∧ w'.cell? ⟨w3.heap.size, 1, none⟩ = some (.int .u64 sl) ∧ w'.cell? ⟨w4.heap.size, 0, none⟩ = some (.int .i64 ph) ∧ w'.cell? ⟨w4.heap.size, 1, none⟩ = some (.int .u64 pl) ∧ w'.cell? ⟨W4.heap.size, 0, none⟩ = some (.bool ga) ∧ w'.cell? ⟨W4.heap.size, 1, none⟩ = some (.slice A3 n3 c3)) (first | assumption)
        (first
            | (go_at_call 14; (with_reducible refine (known_any wr.drew).mono ?_); rintro e w101 ⟨rfl, hb⟩; have S101 := cell14 hb S1; have T_101 := Lib.hid (NumIs.below NT.out hb (Nat.le_refl _)); have HB101 := Lib.hid (HB1.out.trans (hb.mono HB1.out.size)); clear hb; (try clear S1 HB1 NT))
            | (go_at_call 21; (with_reducible refine (num_is w101 a b K.out HX).mono ?_); rintro e w102 ⟨u, rfl, ⟨A102, n102, c102, rfl, hd⟩, hb⟩; have S102 := cell14 hb S101; have T_102 := Lib.hid (NumIs.below T_101.out hb (Nat.le_refl _)); have X_102 : Hid (NumIs w102 (.agg #[.bool (decide (x < 0)), .slice A102 n102 c102]) x) := (⟨A102, n102, c102, rfl, hd⟩ : NumIs w102 (.agg #[.bool (decide (x < 0)), .slice A102 n102 c102]) x); have HB102 := Lib.hid (HB101.out.trans (hb.mono HB101.out.size)); clear hb hd; (try clear S101 HB101 T_101))
            | (go_at_call 21; (with_reducible refine (num_is w102 c d K'.out HY).mono ?_); rintro e w103 ⟨u, rfl, ⟨A103, n103, c103, rfl, hd⟩, hb⟩; have S103 := cell14 hb S102; have T_103 := Lib.hid (NumIs.below T_102.out hb (Nat.le_refl _)); have X_103 := Lib.hid (NumIs.below X_102.out hb (Nat.le_refl _)); have Y_103 : Hid (NumIs w103 (.agg #[.bool (decide (y < 0)), .slice A103 n103 c103]) y) := (⟨A103, n103, c103, rfl, hd⟩ : NumIs w103 (.agg #[.bool (decide (y < 0)), .slice A103 n103 c103]) y); have HB103 := Lib.hid (HB102.out.trans (hb.mono HB102.out.size)); clear hb hd; (try clear S102 HB102 T_102 X_102))
            | (go_at_call 16; (with_reducible refine (neg_is w103 _ y HNY Y_103.out).mono ?_); rintro e w104 ⟨u, rfl, ⟨A104, n104, c104, rfl, hd⟩, hb⟩; have S104 := cell14 hb S103; have T_104 := Lib.hid (NumIs.below T_103.out hb (Nat.le_refl _)); have X_104 := Lib.hid (NumIs.below X_103.out hb (Nat.le_refl _)); have V_104 : Hid (NumIs w104 (.agg #[.bool (decide (ny < 0)), .slice A104 n104 c104]) ny) := (⟨A104, n104, c104, rfl, hd⟩ : NumIs w104 (.agg #[.bool (decide (ny < 0)), .slice A104 n104 c104]) ny); have HB104 := Lib.hid (HB103.out.trans (hb.mono HB103.out.size)); clear hb hd; (try clear S103 HB103 Y_103 T_103 X_103))
            | (go_at_call 13; (with_reducible refine (add_is w104 _ _ x ny HD X_104.out V_104.out FX.out FNY.out).mono ?_); rintro e w105 ⟨u, rfl, ⟨A105, n105, c105, rfl, hd⟩, hb⟩; have S105 := cell14 hb S104; have T_105 := Lib.hid (NumIs.below T_104.out hb (Nat.le_refl _)); have U_105 : Hid (NumIs w105 (.agg #[.bool (decide (zd < 0)), .slice A105 n105 c105]) zd) := (⟨A105, n105, c105, rfl, hd⟩ : NumIs w105 (.agg #[.bool (decide (zd < 0)), .slice A105 n105 c105]) zd); have HB105 := Lib.hid (HB104.out.trans (hb.mono HB104.out.size)); clear hb hd; (try clear S104 HB104 X_104 V_104 T_104))
            | (go_at_call 22; (with_reducible refine (wide_ok w105 _ zd dh dl de SD U_105.out).mono ?_); rintro e w106 ⟨rfl, hb⟩; have S106 := cell14 hb S105; have T_106 := Lib.hid (NumIs.below T_105.out hb (Nat.le_refl _)); have HB106 := Lib.hid (HB105.out.trans (hb.mono HB105.out.size)); clear hb; (try clear S105 HB105 U_105 T_105))
            | (go_at_call 21; (with_reducible refine (num_is w106 a b K.out HX).mono ?_); rintro e w107 ⟨u, rfl, ⟨A107, n107, c107, rfl, hd⟩, hb⟩; have S107 := cell14 hb S106; have T_107 := Lib.hid (NumIs.below T_106.out hb (Nat.le_refl _)); have X_107 : Hid (NumIs w107 (.agg #[.bool (decide (x < 0)), .slice A107 n107 c107]) x) := (⟨A107, n107, c107, rfl, hd⟩ : NumIs w107 (.agg #[.bool (decide (x < 0)), .slice A107 n107 c107]) x); have HB107 := Lib.hid (HB106.out.trans (hb.mono HB106.out.size)); clear hb hd; (try clear S106 HB106 T_106))
            | (go_at_call 16; (with_reducible refine (neg_is w107 _ x HNX X_107.out).mono ?_); rintro e w108 ⟨u, rfl, ⟨A108, n108, c108, rfl, hd⟩, hb⟩; have S108 := cell14 hb S107; have T_108 := Lib.hid (NumIs.below T_107.out hb (Nat.le_refl _)); have V_108 : Hid (NumIs w108 (.agg #[.bool (decide (nx < 0)), .slice A108 n108 c108]) nx) := (⟨A108, n108, c108, rfl, hd⟩ : NumIs w108 (.agg #[.bool (decide (nx < 0)), .slice A108 n108 c108]) nx); have HB108 := Lib.hid (HB107.out.trans (hb.mono HB107.out.size)); clear hb hd; (try clear S107 HB107 X_107 T_107))
            | (go_at_call 22; (with_reducible refine (wide_ok w108 _ nx oh ol oe SO V_108.out).mono ?_); rintro e w109 ⟨rfl, hb⟩; have S109 := cell14 hb S108; have T_109 := Lib.hid (NumIs.below T_108.out hb (Nat.le_refl _)); have HB109 := Lib.hid (HB108.out.trans (hb.mono HB108.out.size)); clear hb; (try clear S108 HB108 V_108 T_108))
            | (go_at_call 22; (with_reducible refine (wide_ok w109 _ s sh sl se SS T_109.out).mono ?_); rintro e w110 ⟨rfl, hb⟩; have S110 := cell14 hb S109; have HB110 := Lib.hid (HB109.out.trans (hb.mono HB109.out.size)); clear hb; (try clear S109 HB109 T_109))
            | (go_at_call 21; (with_reducible refine (num_is w110 a b K.out HX).mono ?_); rintro e w111 ⟨u, rfl, ⟨A111, n111, c111, rfl, hd⟩, hb⟩; have S111 := cell14 hb S110; have X_111 : Hid (NumIs w111 (.agg #[.bool (decide (x < 0)), .slice A111 n111 c111]) x) := (⟨A111, n111, c111, rfl, hd⟩ : NumIs w111 (.agg #[.bool (decide (x < 0)), .slice A111 n111 c111]) x); have HB111 := Lib.hid (HB110.out.trans (hb.mono HB110.out.size)); clear hb hd; (try clear S110 HB110))
            | (go_at_call 21; (with_reducible refine (num_is w111 c d K'.out HY).mono ?_); rintro e w112 ⟨u, rfl, ⟨A112, n112, c112, rfl, hd⟩, hb⟩; have S112 := cell14 hb S111; have X_112 := Lib.hid (NumIs.below X_111.out hb (Nat.le_refl _)); have Y_112 : Hid (NumIs w112 (.agg #[.bool (decide (y < 0)), .slice A112 n112 c112]) y) := (⟨A112, n112, c112, rfl, hd⟩ : NumIs w112 (.agg #[.bool (decide (y < 0)), .slice A112 n112 c112]) y); have HB112 := Lib.hid (HB111.out.trans (hb.mono HB111.out.size)); clear hb hd; (try clear S111 HB111 X_111))
            | (go_at_call 13; (with_reducible refine (add_is w112 _ _ x y HP X_112.out Y_112.out FX.out FY.out).mono ?_); rintro e w113 ⟨u, rfl, ⟨A113, n113, c113, rfl, hd⟩, hb⟩; have S113 := cell14 hb S112; have U_113 : Hid (NumIs w113 (.agg #[.bool (decide (zp < 0)), .slice A113 n113 c113]) zp) := (⟨A113, n113, c113, rfl, hd⟩ : NumIs w113 (.agg #[.bool (decide (zp < 0)), .slice A113 n113 c113]) zp); have HB113 := Lib.hid (HB112.out.trans (hb.mono HB112.out.size)); clear hb hd; (try clear S112 HB112 X_112 Y_112))
            | (go_at_call 22; (with_reducible refine (wide_ok w113 _ zp ph pl pe SP U_113.out).mono ?_); rintro e w114 ⟨rfl, hb⟩; have S114 := cell14 hb S113; have HB114 := Lib.hid (HB113.out.trans (hb.mono HB113.out.size)); clear hb; (try clear S113 HB113 U_113)))
      go_wp2
      go_ret
      exact ⟨rfl, HB114.out⟩
end Go.Proofs.Ytjnohdkpkbiclaa
