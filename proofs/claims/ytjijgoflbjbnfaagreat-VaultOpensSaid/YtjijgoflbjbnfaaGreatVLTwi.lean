/-
  VaultTwice's law. Conditions: none.
-/
import Derived.Test.YtjijgoflbjbnfaaGreatVTwo1
import Derived.Test.YtjijgoflbjbnfaaGreatVM31
import Derived.Test.YtjijgoflbjbnfaaGreatVM32
namespace Go.Proofs.YtjijgoflbjbnfaaGreat.Vt
open Go.RowKit Fr Sr Jo
attribute [local go_sem] Oper.semAt_some

/-- A new store. -/
theorem ts_new (w w0 : World) (hb : Below w.heap.size w w0) (hs : w0.heap.size = w.heap.size) : Calls Tryz.prog 8 #[.int .i64 100000] w0 fun e W => e = .returned (.tuple #[.pointer (some ⟨w.heap.size, 0, none⟩), .int .i64 0]) ∧ StR W w.heap.size (VS 0) none [] ∧ Below w.heap.size w W := by
  refine (Sr.new_any w0 100000 (by decide) (by decide)).mono ?_
  rintro e W ⟨rfl, h1, h2, _⟩
  rw [hs] at h1 h2 ⊢
  exact ⟨rfl, h1, hb.trans h2⟩
set_option maxRecDepth 100000 in
set_option maxHeartbeats 8000000 in
theorem law_twice (w : World) (A0 : Option Addr) (n0 c0 : Nat) (l0 : List Int) (h0 : BAt w (.slice A0 n0 c0) l0) (b0 : bok l0) (A1 : Option Addr) (n1 c1 : Nat) (l1 : List Int) (h1 : BAt w (.slice A1 n1 c1) l1) (b1 : bok l1) :
    Calls Tryz.prog 7 #[.slice A0 n0 c0, .slice A1 n1 c1] w fun e w' => e = .returned (.bool true) ∧ Below w.heap.size w w' := by
  have hl0 := h0.len
  have hl1 := h1.len
  obtain ⟨q0, hq0⟩ : ∃ q0, q0 = min n0 600 := ⟨_, rfl⟩
  obtain ⟨q1, hq1⟩ : ∃ q1, q1 = min n1 600 := ⟨_, rfl⟩
  have hmin0 : (if (600 : Int) < (n0 : Int) then 600 else (n0 : Int)) = (q0 : Int) := by split <;> omega
  have hmin1 : (if (600 : Int) < (n1 : Int) then 600 else (n1 : Int)) = (q1 : Int) := by split <;> omega
  have hs0 := slice_to A0 n0 c0 q0 (by omega)
  have hs1 := slice_to A1 n1 c1 q1 (by omega)
  obtain ⟨G, hG⟩ : ∃ G, G = l0.take q0 := ⟨_, rfl⟩
  obtain ⟨B, hB⟩ : ∃ B, B = l1.take q1 := ⟨_, rfl⟩
  have HGA : Hid (BAt w (.slice A0 q0 c0) G) := Lib.hid (by rw [hG]; exact (h0.take q0 (by omega)).1)
  have HBA : Hid (BAt w (.slice A1 q1 c1) B) := Lib.hid (by rw [hB]; exact (h1.take q1 (by omega)).1)
  have HGK : Hid (bok G ∧ G.length ≤ 600 ∧ q0 ≤ 600) := Lib.hid ⟨by rw [hG]; exact fun z hz => b0 z (List.mem_of_mem_take hz), by rw [hG, List.length_take]; omega, by omega⟩
  have HBK : Hid (bok B ∧ B.length ≤ 600 ∧ q1 ≤ 600) := Lib.hid ⟨by rw [hB]; exact fun z hz => b1 z (List.mem_of_mem_take hz), by rw [hB, List.length_take]; omega, by omega⟩
  obtain ⟨C, hC⟩ : ∃ C, B.take (whole (cnt B)) = C := ⟨_, rfl⟩
  obtain ⟨rs, hrs⟩ : ∃ rs, recs (cnt B) = rs := ⟨_, rfl⟩
  obtain ⟨nc, hnc⟩ : ∃ nc, nxt (cnt B) = nc := ⟨_, rfl⟩
  obtain ⟨pk, hpk⟩ : ∃ pk, Sp.decL G = pk := ⟨_, rfl⟩
  obtain ⟨nx, hnx⟩ : ∃ nx, (if rs = [] then pk.length else nc) = nx := ⟨_, rfl⟩
  have hcc : cnt C = cnt B := by rw [← hC]; exact cnt_whole B
  have hC2 : C.take (whole (cnt C)) = C := by rw [hcc, ← hC, List.take_take, Nat.min_self]
  have HCK : Hid (bok C ∧ C.length ≤ 600) := Lib.hid ⟨by rw [← hC]; exact fun z hz => HBK.out.1 z (List.mem_of_mem_take hz), by rw [← hC, List.length_take]; have := HBK.out.2.1; omega⟩
  have HRS : Hid ((∀ r ∈ rs, r.2.length ≤ 600) ∧ rs.length ≤ 600) := Lib.hid (by
    have h := recs_bnd B
    rw [hrs] at h
    exact ⟨fun r hr => Nat.le_trans (h.1 r hr) HBK.out.2.1, Nat.le_trans h.2 HBK.out.2.1⟩)
  have HPK : Hid (pk.length ≤ 10000 ∧ ∀ x ∈ pk, x.length ≤ 2000000) := Lib.hid (by
    rw [← hpk]
    exact ⟨(decL_10 G).1, fun x hx => by have := (decL_10 G).2 x hx; have := HGK.out.2.1; omega⟩)
  have HVL := Lib.hid (vls_bnd HRS.out HPK.out)
  obtain ⟨p, hp⟩ : ∃ p, w.heap.size = p := ⟨_, rfl⟩
  have HNW := ts_new w w.drew ((Below.refl _ _).drew) rfl
  rw [hp] at HNW
  have HNW := Lib.hid HNW
  have HWR : Hid (∀ W, StR W p (VS 0) none [] → Below p w W → Calls Tryz.prog 23 #[.pointer (some ⟨p, 0, none⟩), .string klog, .slice A1 q1 c1] W fun e W' => e = .returned (.int .i64 0) ∧ TW w W' p B) := Lib.hid (fun W h hb => ts_write1 h (by omega) (by rw [hp]; exact hb) HBA.out HBK.out.2.2)
  have HWS : Hid (∀ W, TW w W p B → Calls Tryz.prog 23 #[.pointer (some ⟨p, 0, none⟩), .string ksnap, .slice A0 q0 c0] W fun e W' => e = .returned (.int .i64 0) ∧ TS w W' p B G rs nx pk [] (.slice none 0 0) []) := Lib.hid (fun W h => (ts_write2 h HGA.out HGK.out.2.2).mono fun e W' ⟨h1, h2⟩ => ⟨h1, h2 rs nx pk⟩)
  have HRD : Hid (∀ W vs xv xl, TS w W p C G rs nx pk vs xv xl → Calls Tryz.prog 25 #[.pointer (some ⟨p, 0, none⟩), .string ksnap] W fun e W' => ∃ A n c q, e = .returned (.tuple #[.slice A n c, .bool q]) ∧ BAt W' (.slice A n c) G ∧ Below W.heap.size W W') := Lib.hid (fun W vs xv xl h => ts_readS h)
  have hjs : joE rs nc pk.length = 0 ∨ joE rs nc pk.length = 8 := by
    unfold joE
    split
    · exact .inl rfl
    · split
      · exact .inr rfl
      · exact .inl rfl
  have HSM : Hid (∀ W u v, Sp.RowsA W u (vlsL rs pk) → Sp.RowsA W v (vlsL rs pk) → Calls Tryz.prog 15 #[u, v] W fun e W' => e = .returned (.bool true) ∧ Below W.heap.size W W') := Lib.hid (fun W u v h1 h2 => by
    have h := Sp.rsame_any W u v _ _ h1 h2 HVL.out.1 HVL.out.1 HVL.out.2 HVL.out.2
    rw [decide_eq_true rfl] at h
    exact h)
  have HES : Hid (∀ W u v l, l.length ≤ 600 → BAt W u l → BAt W v l → Calls Tryz.prog 18 #[u, v] W fun e W' => e = .returned (.bool true) ∧ Below W.heap.size W W') := Lib.hid (fun W u v l hl h1 h2 => by
    have h := Sp.bsame_any W u v l l h1 h2 (by omega) (by omega)
    rw [decide_eq_true rfl] at h
    exact h)
  rcases hjs with hj | hj
  · have HO1 : Hid (∀ W xv xl, TS w W p B G rs nx pk [] xv xl → Calls Tryz.prog 9 #[.pointer (some ⟨p, 0, none⟩)] W fun e W' => ∃ vb, e = .returned (.tuple #[.pointer (some ⟨vb, 0, none⟩), .int .i64 0]) ∧ TS w W' p C G rs nx pk [vb] xv xl) := Lib.hid (fun W xv xl h => ts_open0 h HBK.out.1 HBK.out.2.1 HGK.out.1 hrs (by rw [hnc]; exact hnx) hpk (by rw [hnc]; exact hj) hC)
    have HO2 : Hid (∀ W vs xv xl, TS w W p C G rs nx pk vs xv xl → Calls Tryz.prog 9 #[.pointer (some ⟨p, 0, none⟩)] W fun e W' => ∃ vb, e = .returned (.tuple #[.pointer (some ⟨vb, 0, none⟩), .int .i64 0]) ∧ TS w W' p C G rs nx pk (vb :: vs) xv xl) := Lib.hid (fun W vs xv xl h => ts_open0 h HCK.out.1 HCK.out.2 HGK.out.1 (by rw [hcc]; exact hrs) (by rw [hcc, hnc]; exact hnx) hpk (by rw [hcc, hnc]; exact hj) hC2)
    clear h0 b0 h1 b1 hl0 hl1 hq0 hq1 hG hB hC hrs hnc hpk hnx hcc hC2 hj hp
    go_enter Tryz.func7, Tryz.ntmps7
    go_upto_region 1 with fail
    go_cut [0, 1] from 17 to 26 (fun s0 s1 wx => s0 = .slice A0 q0 c0 ∧ s1 = .slice A1 q1 c1 ∧ wx = w.drew)
    case first =>
      go_region_held3 (fun w' => w'.heap.size = w.heap.size)
        (first | rfl)
        (first
          | (refine Sp.step_min _ (by rfl) (.tmp 19) _ _ (n0 : Int) 600 (q0 : Int) (by rfl) (by rfl) hmin0 ?_)
          | (refine Sp.step_min _ (by rfl) (.tmp 24) _ _ (n1 : Int) 600 (q1 : Int) (by rfl) (by rfl) hmin1 ?_))
      all_goals
        go_wp2
        go_meet
        exact ⟨rfl, rfl, rfl⟩

    case rest =>
      obtain ⟨rfl, rfl, rfl⟩ := hcut
      clear hmin0 hmin1 hs0 hs1
      go_wp2_with (first
        | (go_at_call 20; (with_reducible refine (ts_len HT15.out (List.mem_cons_of_mem _ List.mem_cons_self)).mono ?_); rintro e w16 ⟨rfl, hw16⟩; subst hw16; dsimp only; have HT16 := Lib.hid HT15.out; clear HT15)
        | (go_at_call 20; (with_reducible refine (ts_len HT16.out List.mem_cons_self).mono ?_); rintro e w17 ⟨rfl, hw17⟩; subst hw17; dsimp only)
        | (go_at_call 18; (with_reducible refine (HES.out _ _ _ _ HGK.out.2.1 HS14.out (HGA.out.kept HT14.out.bel)).mono ?_); rintro e w15 ⟨rfl, hb15⟩; dsimp only; have HT15 := Lib.hid (HT14.out.below hb15); clear hb15)
        | (go_at_call 18; (with_reducible refine (HES.out _ _ _ _ HCK.out.2 HT13.out.x HR13.out).mono ?_); rintro e w14 ⟨rfl, hb14⟩; dsimp only; have HT14 := Lib.hid (HT13.out.below hb14); have HS14 := Lib.hid (HS13.out.kept hb14); clear hb14 HT13)
        | (go_at_call 15; (with_reducible refine (HSM.out _ _ _ HA12.out HB12.out).mono ?_); rintro e w13 ⟨rfl, hb13⟩; dsimp only; have HT13 := Lib.hid (HT12.out.below hb13); have HR13 := Lib.hid (HR12.out.kept hb13); have HS13 := Lib.hid (HS12.out.kept hb13); clear hb13 HT12)
        | (go_at_call 16; (with_reducible refine (ts_all HT11.out List.mem_cons_self HRS.out HPK.out).mono ?_); rintro e w12 ⟨A12, n12, c12, rfl, hr12, hb12⟩; dsimp only; have HA12 := Lib.hid (HA11.out.below hb12); have HB12 := Lib.hid hr12; have HT12 := Lib.hid (HT11.out.below hb12); have HR12 := Lib.hid (HR11.out.kept hb12); have HS12 := Lib.hid (HS11.out.kept hb12); clear hr12 hb12 HT11)
        | (go_at_call 16; (with_reducible refine (ts_all HT10.out (List.mem_cons_of_mem _ List.mem_cons_self) HRS.out HPK.out).mono ?_); rintro e w11 ⟨A11, n11, c11, rfl, hr11, hb11⟩; dsimp only; have HA11 := Lib.hid hr11; have HT11 := Lib.hid (HT10.out.below hb11); have HR11 := Lib.hid (HR10.out.kept hb11); have HS11 := Lib.hid (HS10.out.kept hb11); clear hr11 hb11 HT10)
        | (go_at_call 22; (with_reducible refine (known_any w9).mono ?_); rintro e w10 ⟨rfl, hb10⟩; dsimp only; have HT10 := Lib.hid (HT9.out.below hb10); have HR10 := Lib.hid (HR9.out.kept hb10); have HS10 := Lib.hid (HS9.out.kept hb10); clear hb10 HT9)
        | (go_at_call 25; (with_reducible refine (ts_readS HT8.out).mono ?_); rintro e w9 ⟨A9, n9, c9, q9, rfl, hr9, hb9⟩; dsimp only; have HT9 := Lib.hid (HT8.out.below hb9); have HR9 := Lib.hid (HR8.out.kept hb9); have HS9 := Lib.hid hr9; clear hr9 hb9 HT8)
        | (go_at_call 25; (with_reducible refine (ts_read HT7.out).mono ?_); rintro e w8 ⟨A8, n8, c8, q8, rfl, hr8, hb8⟩; dsimp only; have HT8 := Lib.hid (HT7.out.below hb8); have HR8 := Lib.hid hr8; clear hr8 hb8 HT7)
        | (go_at_call 9; (with_reducible refine (HO2.out _ _ _ _ HT6.out).mono ?_); rintro e w7 ⟨vc, rfl, ht7⟩; dsimp only; have HT7 := Lib.hid ht7; clear ht7 HT6)
        | (go_at_call 25; (with_reducible refine (ts_readX HT5.out).mono ?_); rintro e w6 ⟨A6, n6, c6, q6, rfl, ht6⟩; dsimp only; have HT6 := Lib.hid ht6; clear ht6 HT5)
        | (go_at_call 9; (with_reducible refine (HO1.out _ _ _ HT4.out).mono ?_); rintro e w5 ⟨vb, rfl, ht5⟩; dsimp only; have HT5 := Lib.hid ht5; clear ht5 HT4)
        | (go_at_call 23; (with_reducible refine (HWS.out _ HW3.out).mono ?_); rintro e w4 ⟨rfl, ht4⟩; dsimp only; have HT4 := Lib.hid ht4; clear ht4 HW3)
        | (go_at_call 23; (with_reducible refine (HWR.out _ HN2.out.1 HN2.out.2).mono ?_); rintro e w3 ⟨rfl, hw3⟩; dsimp only; have HW3 := Lib.hid hw3; clear hw3 HN2)
        | (go_at_call 8; (with_reducible refine HNW.out.mono ?_); rintro e w2 ⟨rfl, hn2, hb2⟩; dsimp only; have HN2 := Lib.hid (And.intro hn2 hb2); clear hn2 hb2))
      go_ret
      exact ⟨rfl, HT16.out.bel⟩
  · have HO1 : Hid (∀ W xv xl, TS w W p B G rs nx pk [] xv xl → Calls Tryz.prog 9 #[.pointer (some ⟨p, 0, none⟩)] W fun e W' => e = .returned (.tuple #[.pointer none, .int .i64 8]) ∧ TS w W' p C G rs nx pk [] xv xl) := Lib.hid (fun W xv xl h => ts_open8 h HBK.out.1 HBK.out.2.1 HGK.out.1 hrs (by rw [hnc]; exact hnx) hpk (by rw [hnc]; exact hj) hC)
    have HO2 : Hid (∀ W vs xv xl, TS w W p C G rs nx pk vs xv xl → Calls Tryz.prog 9 #[.pointer (some ⟨p, 0, none⟩)] W fun e W' => e = .returned (.tuple #[.pointer none, .int .i64 8]) ∧ TS w W' p C G rs nx pk vs xv xl) := Lib.hid (fun W vs xv xl h => ts_open8 h HCK.out.1 HCK.out.2 HGK.out.1 (by rw [hcc]; exact hrs) (by rw [hcc, hnc]; exact hnx) hpk (by rw [hcc, hnc]; exact hj) hC2)
    have HS00 : Hid (∀ W, Calls Tryz.prog 15 #[.slice none 0 0, .slice none 0 0] W fun e W' => e = .returned (.bool true) ∧ Below W.heap.size W W') := Lib.hid (fun W => by
      have h0 : Sp.RowsA W (.slice none 0 0) [] := ⟨none, 0, rfl, fun hp => absurd hp (Nat.lt_irrefl 0)⟩
      have h := Sp.rsame_any W _ _ _ _ h0 h0 (Nat.zero_le _) (Nat.zero_le _) (fun b hb => (List.not_mem_nil hb).elim) (fun b hb => (List.not_mem_nil hb).elim)
      rw [decide_eq_true rfl] at h
      exact h)
    clear h0 b0 h1 b1 hl0 hl1 hq0 hq1 hG hB hC hrs hnc hpk hnx hcc hC2 hj hp
    go_enter Tryz.func7, Tryz.ntmps7
    go_upto_region 1 with fail
    go_cut [0, 1] from 17 to 26 (fun s0 s1 wx => s0 = .slice A0 q0 c0 ∧ s1 = .slice A1 q1 c1 ∧ wx = w.drew)
    case first =>
      go_region_held3 (fun w' => w'.heap.size = w.heap.size)
        (first | rfl)
        (first
          | (refine Sp.step_min _ (by rfl) (.tmp 19) _ _ (n0 : Int) 600 (q0 : Int) (by rfl) (by rfl) hmin0 ?_)
          | (refine Sp.step_min _ (by rfl) (.tmp 24) _ _ (n1 : Int) 600 (q1 : Int) (by rfl) (by rfl) hmin1 ?_))
      all_goals
        go_wp2
        go_meet
        exact ⟨rfl, rfl, rfl⟩

    case rest =>
      obtain ⟨rfl, rfl, rfl⟩ := hcut
      clear hmin0 hmin1 hs0 hs1
      go_wp2_with (first
        | (go_at_call 20; (with_reducible refine (vlen_nil w15).mono ?_); rintro e w16 ⟨rfl, hb16⟩; dsimp only; have HT16 := Lib.hid (HT15.out.below hb16); clear hb16 HT15)
        | (go_at_call 20; (with_reducible refine (vlen_nil w16).mono ?_); rintro e w17 ⟨rfl, hb17⟩; dsimp only; have HT17 := Lib.hid (HT16.out.below hb17); clear hb17)
        | (go_at_call 18; (with_reducible refine (HES.out _ _ _ _ HGK.out.2.1 HS14.out (HGA.out.kept HT14.out.bel)).mono ?_); rintro e w15 ⟨rfl, hb15⟩; dsimp only; have HT15 := Lib.hid (HT14.out.below hb15); clear hb15)
        | (go_at_call 18; (with_reducible refine (HES.out _ _ _ _ HCK.out.2 HT13.out.x HR13.out).mono ?_); rintro e w14 ⟨rfl, hb14⟩; dsimp only; have HT14 := Lib.hid (HT13.out.below hb14); have HS14 := Lib.hid (HS13.out.kept hb14); clear hb14 HT13)
        | (go_at_call 15; (with_reducible refine (HS00.out _).mono ?_); rintro e w13 ⟨rfl, hb13⟩; dsimp only; have HT13 := Lib.hid (HT12.out.below hb13); have HR13 := Lib.hid (HR12.out.kept hb13); have HS13 := Lib.hid (HS12.out.kept hb13); clear hb13 HT12)
        | (go_at_call 16; (with_reducible refine (vall_nil w11).mono ?_); rintro e w12 ⟨rfl, hb12⟩; dsimp only; have HT12 := Lib.hid (HT11.out.below hb12); have HR12 := Lib.hid (HR11.out.kept hb12); have HS12 := Lib.hid (HS11.out.kept hb12); clear hb12 HT11)
        | (go_at_call 16; (with_reducible refine (vall_nil w10).mono ?_); rintro e w11 ⟨rfl, hb11⟩; dsimp only; have HT11 := Lib.hid (HT10.out.below hb11); have HR11 := Lib.hid (HR10.out.kept hb11); have HS11 := Lib.hid (HS10.out.kept hb11); clear hb11 HT10)
        | (go_at_call 22; (with_reducible refine (known_any w9).mono ?_); rintro e w10 ⟨rfl, hb10⟩; dsimp only; have HT10 := Lib.hid (HT9.out.below hb10); have HR10 := Lib.hid (HR9.out.kept hb10); have HS10 := Lib.hid (HS9.out.kept hb10); clear hb10 HT9)
        | (go_at_call 25; (with_reducible refine (ts_readS HT8.out).mono ?_); rintro e w9 ⟨A9, n9, c9, q9, rfl, hr9, hb9⟩; dsimp only; have HT9 := Lib.hid (HT8.out.below hb9); have HR9 := Lib.hid (HR8.out.kept hb9); have HS9 := Lib.hid hr9; clear hr9 hb9 HT8)
        | (go_at_call 25; (with_reducible refine (ts_read HT7.out).mono ?_); rintro e w8 ⟨A8, n8, c8, q8, rfl, hr8, hb8⟩; dsimp only; have HT8 := Lib.hid (HT7.out.below hb8); have HR8 := Lib.hid hr8; clear hr8 hb8 HT7)
        | (go_at_call 9; (with_reducible refine (HO2.out _ _ _ _ HT6.out).mono ?_); rintro e w7 ⟨rfl, ht7⟩; dsimp only; have HT7 := Lib.hid ht7; clear ht7 HT6)
        | (go_at_call 25; (with_reducible refine (ts_readX HT5.out).mono ?_); rintro e w6 ⟨A6, n6, c6, q6, rfl, ht6⟩; dsimp only; have HT6 := Lib.hid ht6; clear ht6 HT5)
        | (go_at_call 9; (with_reducible refine (HO1.out _ _ _ HT4.out).mono ?_); rintro e w5 ⟨rfl, ht5⟩; dsimp only; have HT5 := Lib.hid ht5; clear ht5 HT4)
        | (go_at_call 23; (with_reducible refine (HWS.out _ HW3.out).mono ?_); rintro e w4 ⟨rfl, ht4⟩; dsimp only; have HT4 := Lib.hid ht4; clear ht4 HW3)
        | (go_at_call 23; (with_reducible refine (HWR.out _ HN2.out.1 HN2.out.2).mono ?_); rintro e w3 ⟨rfl, hw3⟩; dsimp only; have HW3 := Lib.hid hw3; clear hw3 HN2)
        | (go_at_call 8; (with_reducible refine HNW.out.mono ?_); rintro e w2 ⟨rfl, hn2, hb2⟩; dsimp only; have HN2 := Lib.hid (And.intro hn2 hb2); clear hn2 hb2))
      go_ret
      exact ⟨rfl, HT17.out.bel⟩
end Go.Proofs.YtjijgoflbjbnfaaGreat.Vt
