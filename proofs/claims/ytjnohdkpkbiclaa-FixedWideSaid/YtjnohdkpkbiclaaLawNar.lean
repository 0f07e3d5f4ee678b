/-
  The law FixedNarrow answers true: its walk. Conditions: the types' own ranges.
-/
import Derived.Test.YtjnohdkpkbiclaaSums2
namespace Go.Proofs.Ytjnohdkpkbiclaa
open Go.RowKit

theorem num_zero (w : World) : NumIs w (.agg #[.bool false, .slice none 0 0]) 0 := ⟨none, 0, 0, rfl, by rw [show (0 : Int).natAbs = 0 from rfl, digs_zero]; exact Digs.nil w⟩
theorem fsum_is (w : World) (A : Option Addr) (n c : Nat) (zs : List Int) {z : Int} (hz : Hid (z = tot zs)) (h : Ints w A n zs) (hn : n ≤ 1000) :
    Calls Try.prog 12 #[.slice A n c] w fun e w' => ∃ m er, e = .returned (.tuple #[.int .i64 m, .int .i64 er]) ∧ Hid (NSpec z m er) ∧ Below w.heap.size w w' := by
  rw [hz.out]
  exact fsum_any w A n c zs h hn
theorem bd_few {z : Int} (h : -170141183460469231731687303715884105729 ≤ z) (k : z < 170141183460469231731687303715884105728) : Few z := (bd_of ⟨h, k⟩).few

set_option maxRecDepth 100000 in
set_option maxHeartbeats 4000000 in
theorem narrow_walk (w : World) (a b : Int) (A : Option Addr) (len cap n : Nat) (zs : List Int) (a0 : -9223372036854775808 ≤ a) (a1 : a ≤ 9223372036854775807) (b0 : -9223372036854775808 ≤ b) (b1 : b ≤ 9223372036854775807)
    (hmin : min (len : Int) 30 = (n : Int)) (hcap : n ≤ cap) (hn : n ≤ 30) (hin : Ints w A n zs) :
    Calls Try.prog 3 #[.int .i64 a, .int .i64 b, .slice A len cap] w fun e w' => e = .returned (.bool true) ∧ Below w.heap.size w w' := by
  obtain ⟨za, hza⟩ : ∃ z, z = a + b := ⟨_, rfl⟩
  obtain ⟨nb, hnb⟩ : ∃ z, z = -b := ⟨_, rfl⟩
  obtain ⟨zs', hzs⟩ : ∃ z, z = a + nb := ⟨_, rfl⟩
  obtain ⟨zm, hzm⟩ : ∃ z, z = a * b := ⟨_, rfl⟩
  obtain ⟨zt, hzt⟩ : ∃ z, z = tot zs := ⟨_, rfl⟩
  have hsub : a - b = zs' := by omega
  have HA := Lib.hid hza
  have HNB := Lib.hid hnb
  have HS := Lib.hid hzs
  have HM := Lib.hid hzm
  have HT := Lib.hid hzt
  have FA : Hid (Few a) := bd_few (by omega) (by omega)
  have FB : Hid (Few b) := bd_few (by omega) (by omega)
  have FNB : Hid (Few nb) := bd_few (by omega) (by omega)
  have TB := Lib.hid (tot_bound hin (by omega))
  have IN := Lib.hid hin
  have fa := fun W => fadd_any W a b a0 a1 b0 b1
  have fs := fun W => fsub_any W a b a0 a1 b0 b1
  have fm := fun W => fmul_any W a b a0 a1 b0 b1
  rw [← hza] at fa
  rw [hsub] at fs
  rw [← hzm] at fm
  have GA := Lib.hid fa
  have GS := Lib.hid fs
  have GM := Lib.hid fm
  have RA := Lib.hid (And.intro a0 a1)
  have RB := Lib.hid (And.intro b0 b1)
  clear hza hnb hzs hzm hzt hsub hin fa fs fm a0 a1 b0 b1
  go_enter Try.func3, Try.ntmps3
  go_upto_region 3 with (first
    | (go_at_call 8; (with_reducible refine (narrow_any _ a RA.out.1 RA.out.2).mono ?_); rintro e w1 ⟨u1, rfl, ⟨A1, n1, c1, rfl, hd1⟩, hb⟩; have NX1 := Lib.hid hd1; have B1 := Lib.hid hb; clear hb hd1)
    | (go_at_call 8; (with_reducible refine (narrow_any _ b RB.out.1 RB.out.2).mono ?_); rintro e w2 ⟨u2, rfl, ⟨A2, n2, c2, rfl, hd2⟩, hb⟩; have NX2 := Lib.hid (Digs.below NX1.out hb (Nat.le_refl _)); have NY2 := Lib.hid hd2; have B2 := Lib.hid (B1.out.trans (hb.mono B1.out.size)); clear hb hd2))
  obtain ⟨gx, hgx⟩ : ∃ g, g = decide (a < 0) := ⟨_, rfl⟩
  obtain ⟨gy, hgy⟩ : ∃ g, g = decide (b < 0) := ⟨_, rfl⟩
  rw [← hgx, ← hgy]
  have NX2' : Hid (NumIs w2 (.agg #[.bool gx, .slice A1 n1 c1]) a) := ⟨A1, n1, c1, by rw [hgx], NX2.out⟩
  have NY2' : Hid (NumIs w2 (.agg #[.bool gy, .slice A2 n2 c2]) b) := ⟨A2, n2, c2, by rw [hgy], NY2.out⟩
  obtain ⟨W3, hW3⟩ : ∃ W3, W3 = (w2.alloc (.cells #[.bool gx, .slice A1 n1 c1] 25)).alloc (.cells #[.bool gy, .slice A2 n2 c2] 25) := ⟨_, rfl⟩
  rw [← hW3]
  have j := two_new w2 (.cells #[.bool gx, .slice A1 n1 c1] 25) (.cells #[.bool gy, .slice A2 n2 c2] 25)
  rw [← hW3] at j
  have KX3 := Lib.hid j.1
  have KY3 := Lib.hid j.2.1
  have HB3 := Lib.hid (B2.out.trans (j.2.2.mono B2.out.size))
  have NX3 := Lib.hid (NumIs.below NX2'.out j.2.2 (Nat.le_refl _))
  have NY3 := Lib.hid (NumIs.below NY2'.out j.2.2 (Nat.le_refl _))
  clear hW3 j hgx hgy NX1 NX2 NY2 NX2' NY2' B1 B2
  go_upto_region 7 with (first
    | (go_at_call 9; (with_reducible refine (GA.out W3).mono ?_); rintro e w4 ⟨ra, ea, rfl, SA, hb⟩; have KX4 := Lib.hid (block_kept KX3.out hb); have KY4 := Lib.hid (block_kept KY3.out hb); have NX4 := Lib.hid (NumIs.below NX3.out hb (Nat.le_refl _)); have NY4 := Lib.hid (NumIs.below NY3.out hb (Nat.le_refl _)); have HB4 := Lib.hid (HB3.out.trans (hb.mono HB3.out.size)); clear hb; (try clear KX3 KY3 NX3 NY3))
    | (go_at_call 10; (with_reducible refine (GS.out w4).mono ?_); rintro e w5 ⟨rs, es, rfl, SS, hb⟩; have KX5 := Lib.hid (block_kept KX4.out hb); have KY5 := Lib.hid (block_kept KY4.out hb); have NX5 := Lib.hid (NumIs.below NX4.out hb (Nat.le_refl _)); have NY5 := Lib.hid (NumIs.below NY4.out hb (Nat.le_refl _)); have HB5 := Lib.hid (HB4.out.trans (hb.mono HB4.out.size)); clear hb; (try clear KX4 KY4 NX4 NY4))
    | (go_at_call 11; (with_reducible refine (GM.out w5).mono ?_); rintro e w6 ⟨rm, em, rfl, SM, hb⟩; have KX6 := Lib.hid (block_kept KX5.out hb); have KY6 := Lib.hid (block_kept KY5.out hb); have NX6 := Lib.hid (NumIs.below NX5.out hb (Nat.le_refl _)); have NY6 := Lib.hid (NumIs.below NY5.out hb (Nat.le_refl _)); have HB6 := Lib.hid (HB5.out.trans (hb.mono HB5.out.size)); clear hb; (try clear KX5 KY5 NX5 NY5))
    | (go_at_call 12; (with_reducible refine (fsum_is w6 A n cap zs HT (IN.out.below HB6.out) (by omega)).mono ?_); rintro e w7 ⟨rt, et, rfl, ST, hb⟩; have KX7 := Lib.hid (block_kept KX6.out hb); have KY7 := Lib.hid (block_kept KY6.out hb); have NX7 := Lib.hid (NumIs.below NX6.out hb (Nat.le_refl _)); have NY7 := Lib.hid (NumIs.below NY6.out hb (Nat.le_refl _)); have HB7 := Lib.hid (HB6.out.trans (hb.mono HB6.out.size)); clear hb; (try clear KX6 KY6 NX6 NY6)))
  go_wp2
  obtain ⟨W7, hW7⟩ : ∃ W7, W7 = w7.alloc (.cells #[.bool false, .slice none 0 0] 25) := ⟨_, rfl⟩
  rw [← hW7]
  have j := one_new w7 (.cells #[.bool false, .slice none 0 0] 25)
  rw [← hW7] at j
  have J := Lib.hid j
  clear hW7 j
  go_loopg [18] n (fun (g : Nat) si wx => ∃ (k : Nat), g = n - k ∧ k ≤ n ∧ si = .int .i64 (k : Int) ∧ Hid (NumAt wx w7.heap.size (tot (zs.take k)) ∧ Below w7.heap.size w7 wx))
  case atStart => exact ⟨0, rfl, Nat.zero_le _, rfl, ⟨none, 0, 0, J.out.1, num_zero _⟩, J.out.2⟩
  case round =>
    obtain ⟨k, rfl, hk, rfl, hinv⟩ := hrel
    obtain ⟨s, hs⟩ : ∃ s, s = tot (zs.take k) := ⟨_, rfl⟩
    have hinv2 := hinv
    rw [← hs] at hinv2
    obtain ⟨⟨A3, n3, c3, kt, nt⟩, bw⟩ := hinv2.out
    clear hinv2
    obtain ⟨ga, hga⟩ : ∃ g, g = decide (s < 0) := ⟨_, rfl⟩
    rw [← hga] at kt nt
    obtain ⟨t0, t1, tf0, tf1⟩ := blk2 kt
    have KT := Lib.hid kt
    have NT' := Lib.hid nt
    have BW := Lib.hid bw
    have TBk := TB.out k hk
    clear kt nt bw hga hinv
    by_cases hlt : k < n
    · obtain ⟨eb, eo, rfl, hbl, hcs⟩ := IN.out.2.2 (by omega)
      obtain ⟨z, hz⟩ : ∃ z, z = zs.getD k 0 := ⟨_, rfl⟩
      obtain ⟨s', hs'⟩ : ∃ s', s' = s + z := ⟨_, rfl⟩
      have hcz : wr.cell? ⟨eb, eo + k, none⟩ = some (.int .i64 z) := by
        rw [hz]
        exact ((HB7.out.trans (BW.out.mono HB7.out.size)).cell (p := ⟨eb, eo + k, none⟩) hbl).trans (hcs k hlt)
      have hcd : wr.drew.cell? ⟨eb, eo + k, none⟩ = some (.int .i64 z) := hcz
      have HT' : Hid (tot (zs.take (k + 1)) = s') := by show _ = _; rw [hs', hs, hz, tot_take_succ _ _ (by rw [IN.out.1]; exact hlt)]
      have HZ : Hid (-9223372036854775808 ≤ z ∧ z ≤ 9223372036854775807) := by show _ ∧ _; rw [hz]; exact IN.out.2.1 k
      have FS : Hid (Few s) := by rw [← hs] at TBk; exact bd_few (by omega) (by omega)
      have FZ : Hid (Few z) := bd_few (by have := HZ.out.1; omega) (by have := HZ.out.2; omega)
      have HS' := Lib.hid hs'
      have BWd : Hid (Below w7.heap.size w7 wr.drew) := BW.out.drew
      have KTd : Hid (wr.drew.heap[w7.heap.size]? = some (.cells #[.bool ga, .slice A3 n3 c3] 25 (0, 0))) := KT
      have NTd : Hid (NumIs wr.drew (.agg #[.bool ga, .slice A3 n3 c3]) s) := NT'
      clear hz hs hs' hcs TBk KT NT' BW
      go_upto_region 11 with fail
      go_region_with (first
        | (go_at_call 8; (with_reducible refine (narrow_any wr.drew z HZ.out.1 HZ.out.2).mono ?_); rintro e w8 ⟨u8, rfl, ⟨A8, n8, c8, rfl, hd8⟩, hb⟩; have KT8 := Lib.hid (block_kept KTd.out hb); obtain ⟨m0, m1, _, _⟩ := blk2 KT8.out; have NT8 := Lib.hid (NumIs.below NTd.out hb (Nat.le_refl _)); have NZ8 : Hid (NumIs w8 (.agg #[.bool (decide (z < 0)), .slice A8 n8 c8]) z) := (⟨A8, n8, c8, rfl, hd8⟩ : NumIs w8 (.agg #[.bool (decide (z < 0)), .slice A8 n8 c8]) z); have BW8 := Lib.hid (BWd.out.trans (hb.mono BWd.out.size)); clear hb hd8)
        | (go_at_call 13; (with_reducible refine (add_is w8 _ _ s z HS' NT8.out NZ8.out FS.out FZ.out).mono ?_); rintro e w9 ⟨u9, rfl, ⟨A9, n9, c9, rfl, hd9⟩, hb⟩; have KT9 := Lib.hid (block_kept KT8.out hb); obtain ⟨_, _, mf0, mf1⟩ := blk2 KT9.out; have NS9 : Hid (NumIs w9 (.agg #[.bool (decide (s' < 0)), .slice A9 n9 c9]) s') := (⟨A9, n9, c9, rfl, hd9⟩ : NumIs w9 (.agg #[.bool (decide (s' < 0)), .slice A9 n9 c9]) s'); have BW9 := Lib.hid (BW8.out.trans (hb.mono BW8.out.size)); clear hb hd9))
      all_goals
        go_wp2
        go_roundg (n - (k + 1))
        case measure => omega
        case rel => exact ⟨k + 1, rfl, by omega, by go_num, by rw [HT'.out]; exact ⟨A9, n9, c9, blk_store2 KT9.out _ _, num_stored NS9.out KT9.out _ _⟩, below_stored BW9.out (Nat.le_refl _) _ _⟩
    · have hkn : k = n := by omega
      obtain rfl : s = zt := by rw [hs, HT.out, List.take_of_length_le (by rw [IN.out.1]; omega)]
      clear hs TBk t0 t1 tf0 tf1
      have bX := block_kept KX7.out BW.out
      have bY := block_kept KY7.out BW.out
      obtain ⟨x0, x1, _, _⟩ := blk2 bX
      obtain ⟨y0, y1, _, _⟩ := blk2 bY
      obtain ⟨z0, z1, _, _⟩ := blk2 KT.out
      have S1 : wr.drew.cell? ⟨w2.heap.size, 0, none⟩ = some (.bool gx) ∧ wr.drew.cell? ⟨w2.heap.size, 1, none⟩ = some (.slice A1 n1 c1) ∧ wr.drew.cell? ⟨w2.heap.size + 1, 0, none⟩ = some (.bool gy) ∧ wr.drew.cell? ⟨w2.heap.size + 1, 1, none⟩ = some (.slice A2 n2 c2) ∧ wr.drew.cell? ⟨w7.heap.size, 0, none⟩ = some (.bool ga) ∧ wr.drew.cell? ⟨w7.heap.size, 1, none⟩ = some (.slice A3 n3 c3) := ⟨x0, x1, y0, y1, z0, z1⟩
      have NX : Hid (NumIs wr.drew (.agg #[.bool gx, .slice A1 n1 c1]) a) := NumIs.below NX7.out BW.out.drew (Nat.le_refl _)
      have NY : Hid (NumIs wr.drew (.agg #[.bool gy, .slice A2 n2 c2]) b) := NumIs.below NY7.out BW.out.drew (Nat.le_refl _)
      have NT : Hid (NumIs wr.drew (.agg #[.bool ga, .slice A3 n3 c3]) s) := NT'
      have HB1 : Hid (Below w.heap.size w wr.drew) := (HB7.out.trans (BW.out.mono HB7.out.size)).drew
      clear bX bY x0 x1 y0 y1 z0 z1 KT NT' BW KX7 KY7 NX7 NY7
      go_upto_region 12 with fail
      go_region_held3 (fun w' => w'.cell? ⟨w2.heap.size, 0, none⟩ = some (.bool gx) ∧ w'.cell? ⟨w2.heap.size, 1, none⟩ = some (.slice A1 n1 c1) ∧ w'.cell? ⟨w2.heap.size + 1, 0, none⟩ = some (.bool gy) ∧ w'.cell? ⟨w2.heap.size + 1, 1, none⟩ = some (.slice A2 n2 c2) ∧ w'.cell? ⟨w7.heap.size, 0, none⟩ = some (.bool ga) ∧ w'.cell? ⟨w7.heap.size, 1, none⟩ = some (.slice A3 n3 c3)) (first | assumption)
        (first
          | (go_at_call 14; (with_reducible refine (known_any wr.drew).mono ?_); rintro e w101 ⟨rfl, hb⟩; have S101 := cell6 hb S1; have X_101 := Lib.hid (NumIs.below NX.out hb (Nat.le_refl _)); have Y_101 := Lib.hid (NumIs.below NY.out hb (Nat.le_refl _)); have T_101 := Lib.hid (NumIs.below NT.out hb (Nat.le_refl _)); have HB101 := Lib.hid (HB1.out.trans (hb.mono HB1.out.size)); clear hb; (try clear S1 HB1 NX NY NT))
          | (go_at_call 13; (with_reducible refine (add_is w101 _ _ a b HA X_101.out Y_101.out FA.out FB.out).mono ?_); rintro e w102 ⟨u, rfl, ⟨A102, n102, c102, rfl, hd⟩, hb⟩; have S102 := cell6 hb S101; have X_102 := Lib.hid (NumIs.below X_101.out hb (Nat.le_refl _)); have Y_102 := Lib.hid (NumIs.below Y_101.out hb (Nat.le_refl _)); have T_102 := Lib.hid (NumIs.below T_101.out hb (Nat.le_refl _)); have U_102 : Hid (NumIs w102 (.agg #[.bool (decide (za < 0)), .slice A102 n102 c102]) za) := (⟨A102, n102, c102, rfl, hd⟩ : NumIs w102 (.agg #[.bool (decide (za < 0)), .slice A102 n102 c102]) za); have HB102 := Lib.hid (HB101.out.trans (hb.mono HB101.out.size)); clear hb hd; (try clear S101 HB101 X_101 Y_101 T_101))
          | (go_at_call 15; (with_reducible refine (narrow_ok w102 _ za ra ea SA U_102.out).mono ?_); rintro e w103 ⟨rfl, hb⟩; have S103 := cell6 hb S102; have X_103 := Lib.hid (NumIs.below X_102.out hb (Nat.le_refl _)); have Y_103 := Lib.hid (NumIs.below Y_102.out hb (Nat.le_refl _)); have T_103 := Lib.hid (NumIs.below T_102.out hb (Nat.le_refl _)); have HB103 := Lib.hid (HB102.out.trans (hb.mono HB102.out.size)); clear hb; (try clear S102 HB102 U_102 X_102 Y_102 T_102))
          | (go_at_call 16; (with_reducible refine (neg_is w103 _ b HNB Y_103.out).mono ?_); rintro e w104 ⟨u, rfl, ⟨A104, n104, c104, rfl, hd⟩, hb⟩; have S104 := cell6 hb S103; have X_104 := Lib.hid (NumIs.below X_103.out hb (Nat.le_refl _)); have Y_104 := Lib.hid (NumIs.below Y_103.out hb (Nat.le_refl _)); have T_104 := Lib.hid (NumIs.below T_103.out hb (Nat.le_refl _)); have U_104 : Hid (NumIs w104 (.agg #[.bool (decide (nb < 0)), .slice A104 n104 c104]) nb) := (⟨A104, n104, c104, rfl, hd⟩ : NumIs w104 (.agg #[.bool (decide (nb < 0)), .slice A104 n104 c104]) nb); have HB104 := Lib.hid (HB103.out.trans (hb.mono HB103.out.size)); clear hb hd; (try clear S103 HB103 X_103 Y_103 T_103))
          | (go_at_call 13; (with_reducible refine (add_is w104 _ _ a nb HS X_104.out U_104.out FA.out FNB.out).mono ?_); rintro e w105 ⟨u, rfl, ⟨A105, n105, c105, rfl, hd⟩, hb⟩; have S105 := cell6 hb S104; have X_105 := Lib.hid (NumIs.below X_104.out hb (Nat.le_refl _)); have Y_105 := Lib.hid (NumIs.below Y_104.out hb (Nat.le_refl _)); have T_105 := Lib.hid (NumIs.below T_104.out hb (Nat.le_refl _)); have V_105 : Hid (NumIs w105 (.agg #[.bool (decide (zs' < 0)), .slice A105 n105 c105]) zs') := (⟨A105, n105, c105, rfl, hd⟩ : NumIs w105 (.agg #[.bool (decide (zs' < 0)), .slice A105 n105 c105]) zs'); have HB105 := Lib.hid (HB104.out.trans (hb.mono HB104.out.size)); clear hb hd; (try clear S104 HB104 U_104 X_104 Y_104 T_104))
          | (go_at_call 15; (with_reducible refine (narrow_ok w105 _ zs' rs es SS V_105.out).mono ?_); rintro e w106 ⟨rfl, hb⟩; have S106 := cell6 hb S105; have X_106 := Lib.hid (NumIs.below X_105.out hb (Nat.le_refl _)); have Y_106 := Lib.hid (NumIs.below Y_105.out hb (Nat.le_refl _)); have T_106 := Lib.hid (NumIs.below T_105.out hb (Nat.le_refl _)); have HB106 := Lib.hid (HB105.out.trans (hb.mono HB105.out.size)); clear hb; (try clear S105 HB105 V_105 X_105 Y_105 T_105))
          | (go_at_call 17; (with_reducible refine (mul_is w106 _ _ a b HM X_106.out Y_106.out FA.out FB.out).mono ?_); rintro e w107 ⟨u, rfl, ⟨A107, n107, c107, rfl, hd⟩, hb⟩; have S107 := cell6 hb S106; have X_107 := Lib.hid (NumIs.below X_106.out hb (Nat.le_refl _)); have Y_107 := Lib.hid (NumIs.below Y_106.out hb (Nat.le_refl _)); have T_107 := Lib.hid (NumIs.below T_106.out hb (Nat.le_refl _)); have U_107 : Hid (NumIs w107 (.agg #[.bool (decide (zm < 0)), .slice A107 n107 c107]) zm) := (⟨A107, n107, c107, rfl, hd⟩ : NumIs w107 (.agg #[.bool (decide (zm < 0)), .slice A107 n107 c107]) zm); have HB107 := Lib.hid (HB106.out.trans (hb.mono HB106.out.size)); clear hb hd; (try clear S106 HB106 X_106 Y_106 T_106))
          | (go_at_call 15; (with_reducible refine (narrow_ok w107 _ zm rm em SM U_107.out).mono ?_); rintro e w108 ⟨rfl, hb⟩; have S108 := cell6 hb S107; have T_108 := Lib.hid (NumIs.below T_107.out hb (Nat.le_refl _)); have HB108 := Lib.hid (HB107.out.trans (hb.mono HB107.out.size)); clear hb; (try clear S107 HB107 U_107 X_107 Y_107 T_107))
          | (go_at_call 15; (with_reducible refine (narrow_ok w108 _ s rt et ST T_108.out).mono ?_); rintro e w109 ⟨rfl, hb⟩; have S109 := cell6 hb S108; have HB109 := Lib.hid (HB108.out.trans (hb.mono HB108.out.size)); clear hb; (try clear S108 HB108 T_108)))
      go_wp2
      go_ret
      exact ⟨rfl, HB109.out⟩
end Go.Proofs.Ytjnohdkpkbiclaa
