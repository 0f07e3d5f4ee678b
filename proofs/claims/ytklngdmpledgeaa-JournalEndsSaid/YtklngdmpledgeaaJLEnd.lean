/-
  JournalEnds' law. Conditions: none.
-/
import Derived.Test.YtklngdmpledgeaaJM29
namespace Go.Proofs.Ytklngdmpledgeaa.Jo
open Go.RowKit Fr Sr

theorem e_same2 {w W : World} {o : Nat} {v v2 vr : Value} {rs rs2 R : List Re} {q : Bool} (h : EO w o v rs v2 rs2 R W) (hv : RowsA W vr (R.map (·.2))) (hb : Bnd R) (hb2 : Bnd rs2) (hl : R.length ≤ 1000) (hl2 : rs2.length ≤ 1000) (hq : decide (R.map (·.2) = rs2.map (·.2)) = q) : Calls Try.prog 44 #[vr, v2] W fun e W' => e = .returned (.bool q) ∧ Below W.heap.size W W' := by
  have h1 := rsame_any W vr v2 (R.map (·.2)) rs2 hv (h.2.2.1.toA h.2.2.2) (by rw [List.length_map]; exact hl) hl2 (fun b hx => by
    obtain ⟨r, hr, rfl⟩ := List.mem_map.1 hx
    have := (hb r hr).1; omega) (fun r hr => by have := (hb2 r hr).1; omega)
  rw [hq] at h1
  exact h1
theorem e_same1 {w W : World} {o : Nat} {v v2 vr : Value} {rs rs2 R : List Re} {q : Bool} (h : EO w o v rs v2 rs2 R W) (hv : RowsA W vr (R.map (·.2))) (hb : Bnd R) (hb2 : Bnd rs) (hl : R.length ≤ 1000) (hl2 : rs.length ≤ 1000) (hq : decide (R.map (·.2) = rs.map (·.2)) = q) : Calls Try.prog 44 #[vr, v] W fun e W' => e = .returned (.bool q) ∧ Below W.heap.size W W' := by
  have h1 := rsame_any W vr v (R.map (·.2)) rs hv (h.2.1.toA h.2.2.2) (by rw [List.length_map]; exact hl) hl2 (fun b hx => by
    obtain ⟨r, hr, rfl⟩ := List.mem_map.1 hx
    have := (hb r hr).1; omega) (fun r hr => by have := (hb2 r hr).1; omega)
  rw [hq] at h1
  exact h1
set_option maxRecDepth 100000 in
set_option maxHeartbeats 8000000 in
theorem law_ends (w : World) (A0 : Option Addr) (n0 c0 : Nat) (h0 : RIn w A0 n0 c0) (A1 : Option Addr) (n1 c1 : Nat) (l1 : List Int) (hw1 : BAt w (.slice A1 n1 c1) l1) (hb1 : bok l1) (n x : Int) (tr : Bool) :
    Calls Try.prog 8 #[.slice A0 n0 c0, .slice A1 n1 c1, .int .i64 n, .int .i64 x, .bool tr] w fun e w' => e = .returned (.bool true) ∧ Below w.heap.size w w' := by
  obtain ⟨ls, hp, hbl⟩ := h0
  obtain ⟨A, cap, eA, hcap, hcells⟩ := id hp
  simp only [Value.slice.injEq] at eA
  obtain ⟨rfl, hn0, rfl⟩ := eA
  have hz1 := hw1.len
  obtain ⟨m1, hm1⟩ : ∃ m1, m1 = min n1 40 := ⟨_, rfl⟩
  have hs1 := slice_to A1 n1 c1 m1 (by omega)
  have hmin1 : min (n1 : Int) 40 = (m1 : Int) := by omega
  have hx1 := (hw1.take m1 (by omega)).1
  have HX1 : Hid (BAt w (.slice A1 m1 c1) (l1.take m1) ∧ bok (l1.take m1) ∧ m1 ≤ 40) := ⟨hx1, fun y hy => hb1 y (List.mem_of_mem_take hy), by omega⟩
  have hu : 0 ≤ (IntKind.u64.wrap x).tmod 400 ∧ (IntKind.u64.wrap x).tmod 400 ≤ 399 := by
    have h1 : 0 ≤ IntKind.u64.wrap x := by rw [IntKind.wrap_u64]; omega
    rw [Int.tmod_eq_emod_of_nonneg h1]; omega
  have hk : 0 ≤ (IntKind.u64.wrap n).tmod 10 ∧ (IntKind.u64.wrap n).tmod 10 ≤ 9 := by
    have h1 : 0 ≤ IntKind.u64.wrap n := by rw [IntKind.wrap_u64]; omega
    rw [Int.tmod_eq_emod_of_nonneg h1]; omega
  obtain ⟨u, hu2⟩ : ∃ u : Nat, (IntKind.u64.wrap x).tmod 400 = (u : Int) := ⟨((IntKind.u64.wrap x).tmod 400).toNat, by omega⟩
  obtain ⟨k, hk2⟩ : ∃ k : Nat, (IntKind.u64.wrap n).tmod 10 = (k : Int) := ⟨((IntKind.u64.wrap n).tmod 10).toNat, by omega⟩
  rw [hu2] at hu
  rw [hk2] at hk
  obtain ⟨u0, u1⟩ := hu
  obtain ⟨k0, k1⟩ := hk
  have HN0 := Lib.hid hn0
  have HC := Lib.hid hcells
  have HBL := Lib.hid hbl
  have HMIN := Lib.hid (And.intro hs1 hmin1)
  have HU2 := Lib.hid hu2
  have HK2 := Lib.hid hk2
  have HN := Lib.hid (Sr.new_any w 100000 (by decide) (by decide))
  clear hn0 hcells hbl hs1 hmin1 hx1 hm1 hz1 hw1 hb1 hp hcap hu2 hk2
  obtain ⟨p, hp⟩ : ∃ p, p = w.heap.size := ⟨_, rfl⟩
  rw [← hp] at HN
  have HP := Lib.hid hp
  clear hp
  go_enter Try.func8, Try.ntmps8
  go_wp2_with (first
    | (go_at_call 38; (with_reducible refine (e_open H1.out.1).mono ?_); rintro e w2 ⟨j, t, sv, xs, mb2, L2, rfl, hj2, hal2, ho2, hn2⟩
       have HEI : Hid (EI w p j t 0 (.slice none 0 0) [] [] w2) := by
         have h3 : Below p w1 w2 := ho2.below (fun i (hi : i = p) => by omega) (Nat.le_of_lt H1.out.2.2)
         have h4 : Below p w w2 := H1.out.2.1.trans h3
         rw [HP.out] at h4
         refine ⟨mb2, L2, sv, xs, 0, hj2, ?_, ⟨by decide, by decide⟩, ⟨trivial, rfl, fun r hr => by cases hr⟩, RecO.nil _ _, h4, fun k hk => ⟨?_, by simp [Value.ownBlock]⟩, fun i x r _ hr => by simp at hr⟩
         · exact ⟨by rw [(hal2 klog).2]; rfl, fun h5 => by rw [(hal2 klog).2] at h5; exact absurd h5 (by decide)⟩
         · rcases hn2 k hk with h5 | h5
           · rw [h5, HP.out]; exact Nat.le_refl _
           · have := H1.out.2.2; have := HP.out; omega
       clear hj2 hal2 ho2 hn2)
    | (go_at_call 14; (with_reducible refine HN.out.mono ?_); rintro e w1 ⟨rfl, h1⟩; have H1 : Hid (StR w1 p (VS 0) none [] ∧ Below p w w1 ∧ p < w1.heap.size) := h1; clear h1))
  go_loopg [15, 16] 8 (fun (gh : Nat) s15 s16 wx => ∃ (i : Nat) (rs : List Re), gh = 8 - i ∧ i ≤ 8 ∧ i ≤ n0 ∧ s16 = .int .i64 (i : Int) ∧ Hid (EI w p j t i s15 rs rs wx))
  case atStart => exact ⟨0, [], rfl, Nat.zero_le _, Nat.zero_le _, rfl, HEI⟩
  case round =>
    obtain ⟨i, rs, rfl, hi8, hin, rfl, HI⟩ := hrel
    by_cases hlt : i < n0 ∧ i < 8
    · obtain ⟨hl1, hl2⟩ := hlt
      have t1 : (i : Int) < (n0 : Int) := by omega
      have t3 : (i : Int) < 8 := by omega
      have t2 : (0 : Int) ≤ (i : Int) := by omega
      obtain ⟨g, o, rfl, lg, hcl⟩ := HC.out (by rw [← HN0.out]; omega)
      obtain ⟨v, c1', hbv⟩ := hcl i (by rw [← HN0.out]; exact hl1)
      obtain ⟨lv, hlv⟩ : ∃ lv, lv = ls.getD i [] := ⟨_, rfl⟩
      rw [← hlv] at hbv
      obtain ⟨Av, qv, ev, _⟩ := id hbv
      obtain ⟨nv, hnv⟩ : ∃ nv, nv = lv.length := ⟨_, rfl⟩
      rw [← hnv] at ev
      subst ev
      obtain ⟨mv, hmv⟩ : ∃ mv, mv = min nv 40 := ⟨_, rfl⟩
      have hqv := hbv.len
      have hsv := slice_to Av nv qv mv (by omega)
      have hminv : min (nv : Int) 40 = (mv : Int) := by omega
      have hbv2 := (hbv.take mv (by omega)).1
      have HBV : Hid (BAt w (.slice Av mv qv) (lv.take mv) ∧ bok (lv.take mv) ∧ mv ≤ 40) := ⟨hbv2, fun y hy => by
        have h1 := List.mem_of_mem_take hy
        rw [hlv, List.getD_eq_getElem?_getD] at h1
        cases hx : ls[i]? with
        | none => rw [hx] at h1; cases h1
        | some z => rw [hx] at h1; exact HBL.out z (List.mem_of_getElem? hx) y h1, by omega⟩
      have hcw : ∀ q : InW wr, q.val.cell? ⟨g, o + i, none⟩ = some (.slice Av nv qv) := fun q => q.cell ((HI.out.bel.cell (p := ⟨g, o + i, none⟩) lg).trans c1')
      clear hbv hbv2 hlv hnv hmv hqv hcl c1'
      go_upto_region 9 with fail
      refine wp_region_below (W := wr) (by kernel_rfl) (by kernel_rfl) (Below.refl _ _) ?_
      repeat (go_big_quiet_step (fail))
      refine wpQuiet_nil ?_
      rintro _ ⟨q0, rfl⟩
      obtain ⟨wq, hbq⟩ := q0
      try dsimp only
      have HIQ := Lib.hid (HI.out.below hbq)
      have HL2 := Lib.hid hl2
      clear hbq hcw hl2 hsv hminv
      go_wp2_with (first
        | (refine wpList_app_run _ rfl _ _ 64 rfl _ (.slice (some ⟨_, 0, none⟩) 1 1) rfl rfl (.slice A9 n9 c9) w9 hr9 ?_; clear hr9)
        | (go_at_call 39; (with_reducible refine (ends_app HIQ.out HL2.out HBV.out.1 HBV.out.2.2 HBV.out.2.1).mono ?_); rintro e w8 ⟨rfl, hI8⟩
           obtain ⟨A9, n9, c9, w9, hr9, hI9⟩ := ends_have (r := (i, lv.take mv)) (u := .slice Av mv qv) hI8 (by
             have h5 : rs.length = i := by
               obtain ⟨_, _, _, _, _, _, _, _, h6, _⟩ := HIQ.out
               exact h6.2.1
             have := HL2.out
             omega) rfl HBV.out.1
           have HI9 := Lib.hid hI9
           clear hI8 hI9))
      go_roundg (8 - (i + 1))
      case measure => have := HL2.out; omega
      case rel => exact ⟨i + 1, rs ++ [(i, lv.take mv)], rfl, HL2.out, hl1, by go_num, HI9.out⟩
    · have hs1 := HMIN.out.1
      have hmin1 := HMIN.out.2
      have hu2 := HU2.out
      have hk2 := HK2.out
      have HI8 := Lib.hid hi8
      have hrl : rs.length = i ∧ Sq 0 rs ∧ ∀ r ∈ rs, r.2.length ≤ 40 ∧ bok r.2 := by
        obtain ⟨_, _, _, _, _, _, _, _, h6, _⟩ := HI.out
        exact ⟨h6.2.1, h6.1, h6.2.2⟩
      have HRL := Lib.hid hrl
      have hlen8 : rs.length ≤ 1000 := by rw [hrl.1]; omega
      have HL8 := Lib.hid hlen8
      have hcases : (¬ (i : Int) < (n0 : Int)) ∨ ((i : Int) < (n0 : Int) ∧ ¬ (i : Int) < 8) := by omega
      obtain ⟨A15, q15, e15, _⟩ := HI.out.ro.toB
      rw [hrl.1] at e15
      subst e15
      clear hlt hi8 hin hrl hlen8
      have HBD : Hid (Bnd rs ∧ ∀ r ∈ rs, bok r.2) := ⟨fun r hr => ⟨by have := (HRL.out.2.2 r hr).1; omega, by have := sq_lt rs 0 HRL.out.2.1 r hr; have := HRL.out.1; have := HI8.out; omega⟩, fun r hr => (HRL.out.2.2 r hr).2⟩
      rcases hcases with t1 | ⟨t1, t3⟩
      all_goals cases tr
      all_goals
        go_upto_region 19 with (go_at_call 25; (with_reducible refine (ends_arm (u := u) HI.out (by omega)).mono ?_); rintro e w4 ⟨rfl, hED⟩; have HED := Lib.hid hED; clear hED)
      · go_upto_region 24 with (first
          | (have hq7 := hr7; refine wpList_app_run _ rfl _ _ 64 rfl (.slice A6 n6 c6) (.slice (some ⟨w6.heap.size, 0, none⟩) 1 1) rfl rfl (.slice A7 n7 c7) w7 hq7 ?_; clear hr7 hq7)
          | (have hq6 := hr6; refine wpList_app_run _ rfl _ _ 64 rfl (.slice (some ⟨w5.heap.size, 0, none⟩) 0 0) (.slice A15 i q15) rfl rfl (.slice A6 n6 c6) w6 hq6 ?_; clear hr6 hq6)
          | (go_at_call 39; (with_reducible refine (ends_last HED.out HI8.out HX1.out.1 HX1.out.2.2 HX1.out.2.1).mono ?_); rintro e w5 ⟨a5, E, R, rfl, hER, hEF⟩
             obtain ⟨A6, n6, c6, w6, hr6, hro6, hb6, hn6⟩ := e_all hEF.ro hEF.bel HL8.out
             obtain ⟨A7, n7, c7, w7, hr7, hro7, hb7, ho7, hn7⟩ := app_reco (r := (i, l1.take m1)) (u := .slice A1 m1 c1) hro6 (hEF.bel.trans (hb6.mono hEF.bel.size)) HL8.out rfl HX1.out.1
             have HEH := Lib.hid (hEF.thenE (below_off hb6 ho7 hn6) hro7 (fun k hk => (hn7 k hk).elim (hn6 k) (fun h5 => Nat.le_trans hb6.size h5)))
             have HZ : Hid ((∃ n, Sq n (rs ++ [(i, l1.take m1)])) ∧ Bnd (rs ++ [(i, l1.take m1)]) ∧ (∀ r ∈ rs ++ [(i, l1.take m1)], bok r.2) ∧ (rs ++ [(i, l1.take m1)]).length ≤ 1000) := by
               refine ⟨⟨0, by have h5 := sq_snoc rs 0 (l1.take m1) HRL.out.2.1; rwa [Nat.zero_add, HRL.out.1] at h5⟩, fun r hr => ?_, fun r hr => ?_, by have := HRL.out.1; have := HI8.out; rw [List.length_append]; simp; omega⟩
               · rcases List.mem_append.1 hr with h5 | h5
                 · exact HBD.out.1 r h5
                 · simp at h5; subst h5; exact ⟨by have := HX1.out.1.len.1; have := HX1.out.2.2; show (l1.take m1).length ≤ 1000; omega, by have := HI8.out; show i ≤ 4611686018427387903; omega⟩
               · rcases List.mem_append.1 hr with h5 | h5
                 · exact HBD.out.2 r h5
                 · simp at h5; subst h5; exact HX1.out.2.1
             have HER := Lib.hid hER
             clear hER hEF hro6 hb6 hn6 hro7 hb7 ho7 hn7))
        obtain ⟨nR, hnR⟩ : ∃ nR, Sq nR R ∧ Bnd R ∧ (∀ r ∈ R, bok r.2) ∧ R.length ≤ 1000 := by
          rcases HER.out with ⟨_, h⟩ | ⟨_, h⟩
          · rw [h]; obtain ⟨⟨nz, h1⟩, h2, h3, h4⟩ := HZ.out; exact ⟨nz, h1, h2, h3, h4⟩
          · rw [h]; exact ⟨0, HRL.out.2.1, HBD.out.1, HBD.out.2, HL8.out⟩
        have HNR := Lib.hid hnR
        clear hnR
        go_upto_region 29 with (first
          | (go_at_call 42; (with_reducible refine (e_recs HEO.out HNR.out.2.1).mono ?_); rintro e w93 ⟨vr, rfl, hvr, heo9⟩; have HVR := Lib.hid hvr; have HEO9 := Lib.hid heo9; clear hvr heo9)
          | (go_at_call 38; (with_reducible refine (e_open2 HEH2.out HNR.out.1 HNR.out.2.1 HNR.out.2.2.1).mono ?_); rintro e w92 ⟨o, rfl, heo⟩; have HEO := Lib.hid heo; clear heo)
          | (go_at_call 26; (with_reducible refine (e_rev HEH.out).mono ?_); rintro e w91 ⟨rfl, heh⟩; have HEH2 := Lib.hid heh; clear heh))
        rcases HER.out with ⟨hE, hR⟩ | ⟨hE, hR⟩
        · subst hE hR
          go_wp2_with (first
            | (go_at_call 45; (with_reducible refine (e_sound HEO11.out).mono ?_); rintro e w96 ⟨rfl, rfl⟩)
            | (go_at_call 44; (with_reducible refine (e_same2 HEO10.out HVR10.out HNR.out.2.1 HZ.out.2.1 HNR.out.2.2.2 HZ.out.2.2.2 (decide_eq_true rfl)).mono ?_); rintro e w95 ⟨rfl, hb11⟩
               have HEO11 := Lib.hid (HEO10.out.below hb11)
               have HVR11 := Lib.hid (HVR10.out.below hb11)
               clear hb11)
            | (go_at_call 43; (with_reducible refine (known_any _).mono ?_); rintro e w94 ⟨rfl, hb10⟩
               have HEO10 := Lib.hid (HEO9.out.below hb10)
               have HVR10 := Lib.hid (HVR.out.below hb10)
               clear hb10))
          go_ret
          exact ⟨rfl, HEO11.out.2.2.2⟩
        · have hR2 := hR.symm
          subst hE hR2
          by_cases hzq : rs.map (·.2) = (rs ++ [(i, l1.take m1)]).map (·.2)
          · have HZQ := Lib.hid (decide_eq_true hzq)
            clear hzq
            go_wp2_with (first
              | (go_at_call 45; (with_reducible refine (e_sound HEO11.out).mono ?_); rintro e w96 ⟨rfl, rfl⟩)
              | (go_at_call 44; (with_reducible refine (e_same2 HEO10.out HVR10.out HNR.out.2.1 HZ.out.2.1 HNR.out.2.2.2 HZ.out.2.2.2 (HZQ.out)).mono ?_); rintro e w95 ⟨rfl, hb11⟩
                 have HEO11 := Lib.hid (HEO10.out.below hb11)
                 have HVR11 := Lib.hid (HVR10.out.below hb11)
                 clear hb11)
              | (go_at_call 43; (with_reducible refine (known_any _).mono ?_); rintro e w94 ⟨rfl, hb10⟩
                 have HEO10 := Lib.hid (HEO9.out.below hb10)
                 have HVR10 := Lib.hid (HVR.out.below hb10)
                 clear hb10))
            go_ret
            exact ⟨rfl, HEO11.out.2.2.2⟩
          · have HZQ := Lib.hid (decide_eq_false hzq)
            clear hzq
            go_wp2_with (first
              | (go_at_call 45; (with_reducible refine (e_sound HEO12.out).mono ?_); rintro e w96 ⟨rfl, rfl⟩)
              | (go_at_call 44; (with_reducible refine (e_same1 HEO11.out HVR11.out HNR.out.2.1 HNR.out.2.1 HNR.out.2.2.2 HNR.out.2.2.2 (decide_eq_true rfl)).mono ?_); rintro e w97 ⟨rfl, hb12⟩
                 have HEO12 := Lib.hid (HEO11.out.below hb12)
                 clear hb12)
              | (go_at_call 44; (with_reducible refine (e_same2 HEO10.out HVR10.out HNR.out.2.1 HZ.out.2.1 HNR.out.2.2.2 HZ.out.2.2.2 (HZQ.out)).mono ?_); rintro e w95 ⟨rfl, hb11⟩
                 have HEO11 := Lib.hid (HEO10.out.below hb11)
                 have HVR11 := Lib.hid (HVR10.out.below hb11)
                 clear hb11)
              | (go_at_call 43; (with_reducible refine (known_any _).mono ?_); rintro e w94 ⟨rfl, hb10⟩
                 have HEO10 := Lib.hid (HEO9.out.below hb10)
                 have HVR10 := Lib.hid (HVR.out.below hb10)
                 clear hb10))
            go_ret
            exact ⟨rfl, HEO12.out.2.2.2⟩
      · go_upto_region 24 with (first
          | (go_at_call 40; (with_reducible refine (ends_trim HED.out HI8.out (k : Int)).mono ?_); rintro e w5 ⟨E, R, rfl, hER, hEF⟩
             have HER := Lib.hid hER
             have HEF := Lib.hid hEF
             clear hER hEF)
          | (go_at_call 41; (with_reducible refine (rfrom_at w w5 _ rs (k : Int) HEF.out.ro HEF.out.bel HL8.out).mono ?_); rintro e w6 ⟨v20, rfl, hro2, hb6, hn6⟩
             rw [sq_filter rs 0 _ HRL.out.2.1] at hro2
             have HEH := Lib.hid (HEF.out.thenE hb6 hro2 hn6)
             have HZ : Hid ((∃ n, Sq n (rs.drop (keyR rs (k : Int)))) ∧ Bnd (rs.drop (keyR rs (k : Int))) ∧ (∀ r ∈ rs.drop (keyR rs (k : Int)), bok r.2) ∧ (rs.drop (keyR rs (k : Int))).length ≤ 1000) := ⟨⟨_, sq_drop rs 0 _ HRL.out.2.1⟩, fun r hr => HBD.out.1 r (List.mem_of_mem_drop hr), fun r hr => HBD.out.2 r (List.mem_of_mem_drop hr), by have := HL8.out; rw [List.length_drop]; omega⟩
             clear hro2 hb6 hn6))
        obtain ⟨nR, hnR⟩ : ∃ nR, Sq nR R ∧ Bnd R ∧ (∀ r ∈ R, bok r.2) ∧ R.length ≤ 1000 := by
          rcases HER.out with ⟨_, h⟩ | ⟨_, h⟩
          · rw [h]; obtain ⟨⟨nz, h1⟩, h2, h3, h4⟩ := HZ.out; exact ⟨nz, h1, h2, h3, h4⟩
          · rw [h]; exact ⟨0, HRL.out.2.1, HBD.out.1, HBD.out.2, HL8.out⟩
        have HNR := Lib.hid hnR
        clear hnR
        go_upto_region 29 with (first
          | (go_at_call 42; (with_reducible refine (e_recs HEO.out HNR.out.2.1).mono ?_); rintro e w93 ⟨vr, rfl, hvr, heo9⟩; have HVR := Lib.hid hvr; have HEO9 := Lib.hid heo9; clear hvr heo9)
          | (go_at_call 38; (with_reducible refine (e_open2 HEH2.out HNR.out.1 HNR.out.2.1 HNR.out.2.2.1).mono ?_); rintro e w92 ⟨o, rfl, heo⟩; have HEO := Lib.hid heo; clear heo)
          | (go_at_call 26; (with_reducible refine (e_rev HEH.out).mono ?_); rintro e w91 ⟨rfl, heh⟩; have HEH2 := Lib.hid heh; clear heh))
        rcases HER.out with ⟨hE, hR⟩ | ⟨hE, hR⟩
        · subst hE hR
          go_wp2_with (first
            | (go_at_call 45; (with_reducible refine (e_sound HEO11.out).mono ?_); rintro e w96 ⟨rfl, rfl⟩)
            | (go_at_call 44; (with_reducible refine (e_same2 HEO10.out HVR10.out HNR.out.2.1 HZ.out.2.1 HNR.out.2.2.2 HZ.out.2.2.2 (decide_eq_true rfl)).mono ?_); rintro e w95 ⟨rfl, hb11⟩
               have HEO11 := Lib.hid (HEO10.out.below hb11)
               have HVR11 := Lib.hid (HVR10.out.below hb11)
               clear hb11)
            | (go_at_call 43; (with_reducible refine (known_any _).mono ?_); rintro e w94 ⟨rfl, hb10⟩
               have HEO10 := Lib.hid (HEO9.out.below hb10)
               have HVR10 := Lib.hid (HVR.out.below hb10)
               clear hb10))
          go_ret
          exact ⟨rfl, HEO11.out.2.2.2⟩
        · have hR2 := hR.symm
          subst hE hR2
          by_cases hzq : rs.map (·.2) = (rs.drop (keyR rs (k : Int))).map (·.2)
          · have HZQ := Lib.hid (decide_eq_true hzq)
            clear hzq
            go_wp2_with (first
              | (go_at_call 45; (with_reducible refine (e_sound HEO11.out).mono ?_); rintro e w96 ⟨rfl, rfl⟩)
              | (go_at_call 44; (with_reducible refine (e_same2 HEO10.out HVR10.out HNR.out.2.1 HZ.out.2.1 HNR.out.2.2.2 HZ.out.2.2.2 (HZQ.out)).mono ?_); rintro e w95 ⟨rfl, hb11⟩
                 have HEO11 := Lib.hid (HEO10.out.below hb11)
                 have HVR11 := Lib.hid (HVR10.out.below hb11)
                 clear hb11)
              | (go_at_call 43; (with_reducible refine (known_any _).mono ?_); rintro e w94 ⟨rfl, hb10⟩
                 have HEO10 := Lib.hid (HEO9.out.below hb10)
                 have HVR10 := Lib.hid (HVR.out.below hb10)
                 clear hb10))
            go_ret
            exact ⟨rfl, HEO11.out.2.2.2⟩
          · have HZQ := Lib.hid (decide_eq_false hzq)
            clear hzq
            go_wp2_with (first
              | (go_at_call 45; (with_reducible refine (e_sound HEO12.out).mono ?_); rintro e w96 ⟨rfl, rfl⟩)
              | (go_at_call 44; (with_reducible refine (e_same1 HEO11.out HVR11.out HNR.out.2.1 HNR.out.2.1 HNR.out.2.2.2 HNR.out.2.2.2 (decide_eq_true rfl)).mono ?_); rintro e w97 ⟨rfl, hb12⟩
                 have HEO12 := Lib.hid (HEO11.out.below hb12)
                 clear hb12)
              | (go_at_call 44; (with_reducible refine (e_same2 HEO10.out HVR10.out HNR.out.2.1 HZ.out.2.1 HNR.out.2.2.2 HZ.out.2.2.2 (HZQ.out)).mono ?_); rintro e w95 ⟨rfl, hb11⟩
                 have HEO11 := Lib.hid (HEO10.out.below hb11)
                 have HVR11 := Lib.hid (HVR10.out.below hb11)
                 clear hb11)
              | (go_at_call 43; (with_reducible refine (known_any _).mono ?_); rintro e w94 ⟨rfl, hb10⟩
                 have HEO10 := Lib.hid (HEO9.out.below hb10)
                 have HVR10 := Lib.hid (HVR.out.below hb10)
                 clear hb10))
            go_ret
            exact ⟨rfl, HEO12.out.2.2.2⟩
      · go_upto_region 24 with (first
          | (have hq7 := hr7; refine wpList_app_run _ rfl _ _ 64 rfl (.slice A6 n6 c6) (.slice (some ⟨w6.heap.size, 0, none⟩) 1 1) rfl rfl (.slice A7 n7 c7) w7 hq7 ?_; clear hr7 hq7)
          | (have hq6 := hr6; refine wpList_app_run _ rfl _ _ 64 rfl (.slice (some ⟨w5.heap.size, 0, none⟩) 0 0) (.slice A15 i q15) rfl rfl (.slice A6 n6 c6) w6 hq6 ?_; clear hr6 hq6)
          | (go_at_call 39; (with_reducible refine (ends_last HED.out HI8.out HX1.out.1 HX1.out.2.2 HX1.out.2.1).mono ?_); rintro e w5 ⟨a5, E, R, rfl, hER, hEF⟩
             obtain ⟨A6, n6, c6, w6, hr6, hro6, hb6, hn6⟩ := e_all hEF.ro hEF.bel HL8.out
             obtain ⟨A7, n7, c7, w7, hr7, hro7, hb7, ho7, hn7⟩ := app_reco (r := (i, l1.take m1)) (u := .slice A1 m1 c1) hro6 (hEF.bel.trans (hb6.mono hEF.bel.size)) HL8.out rfl HX1.out.1
             have HEH := Lib.hid (hEF.thenE (below_off hb6 ho7 hn6) hro7 (fun k hk => (hn7 k hk).elim (hn6 k) (fun h5 => Nat.le_trans hb6.size h5)))
             have HZ : Hid ((∃ n, Sq n (rs ++ [(i, l1.take m1)])) ∧ Bnd (rs ++ [(i, l1.take m1)]) ∧ (∀ r ∈ rs ++ [(i, l1.take m1)], bok r.2) ∧ (rs ++ [(i, l1.take m1)]).length ≤ 1000) := by
               refine ⟨⟨0, by have h5 := sq_snoc rs 0 (l1.take m1) HRL.out.2.1; rwa [Nat.zero_add, HRL.out.1] at h5⟩, fun r hr => ?_, fun r hr => ?_, by have := HRL.out.1; have := HI8.out; rw [List.length_append]; simp; omega⟩
               · rcases List.mem_append.1 hr with h5 | h5
                 · exact HBD.out.1 r h5
                 · simp at h5; subst h5; exact ⟨by have := HX1.out.1.len.1; have := HX1.out.2.2; show (l1.take m1).length ≤ 1000; omega, by have := HI8.out; show i ≤ 4611686018427387903; omega⟩
               · rcases List.mem_append.1 hr with h5 | h5
                 · exact HBD.out.2 r h5
                 · simp at h5; subst h5; exact HX1.out.2.1
             have HER := Lib.hid hER
             clear hER hEF hro6 hb6 hn6 hro7 hb7 ho7 hn7))
        obtain ⟨nR, hnR⟩ : ∃ nR, Sq nR R ∧ Bnd R ∧ (∀ r ∈ R, bok r.2) ∧ R.length ≤ 1000 := by
          rcases HER.out with ⟨_, h⟩ | ⟨_, h⟩
          · rw [h]; obtain ⟨⟨nz, h1⟩, h2, h3, h4⟩ := HZ.out; exact ⟨nz, h1, h2, h3, h4⟩
          · rw [h]; exact ⟨0, HRL.out.2.1, HBD.out.1, HBD.out.2, HL8.out⟩
        have HNR := Lib.hid hnR
        clear hnR
        go_upto_region 29 with (first
          | (go_at_call 42; (with_reducible refine (e_recs HEO.out HNR.out.2.1).mono ?_); rintro e w93 ⟨vr, rfl, hvr, heo9⟩; have HVR := Lib.hid hvr; have HEO9 := Lib.hid heo9; clear hvr heo9)
          | (go_at_call 38; (with_reducible refine (e_open2 HEH2.out HNR.out.1 HNR.out.2.1 HNR.out.2.2.1).mono ?_); rintro e w92 ⟨o, rfl, heo⟩; have HEO := Lib.hid heo; clear heo)
          | (go_at_call 26; (with_reducible refine (e_rev HEH.out).mono ?_); rintro e w91 ⟨rfl, heh⟩; have HEH2 := Lib.hid heh; clear heh))
        rcases HER.out with ⟨hE, hR⟩ | ⟨hE, hR⟩
        · subst hE hR
          go_wp2_with (first
            | (go_at_call 45; (with_reducible refine (e_sound HEO11.out).mono ?_); rintro e w96 ⟨rfl, rfl⟩)
            | (go_at_call 44; (with_reducible refine (e_same2 HEO10.out HVR10.out HNR.out.2.1 HZ.out.2.1 HNR.out.2.2.2 HZ.out.2.2.2 (decide_eq_true rfl)).mono ?_); rintro e w95 ⟨rfl, hb11⟩
               have HEO11 := Lib.hid (HEO10.out.below hb11)
               have HVR11 := Lib.hid (HVR10.out.below hb11)
               clear hb11)
            | (go_at_call 43; (with_reducible refine (known_any _).mono ?_); rintro e w94 ⟨rfl, hb10⟩
               have HEO10 := Lib.hid (HEO9.out.below hb10)
               have HVR10 := Lib.hid (HVR.out.below hb10)
               clear hb10))
          go_ret
          exact ⟨rfl, HEO11.out.2.2.2⟩
        · have hR2 := hR.symm
          subst hE hR2
          by_cases hzq : rs.map (·.2) = (rs ++ [(i, l1.take m1)]).map (·.2)
          · have HZQ := Lib.hid (decide_eq_true hzq)
            clear hzq
            go_wp2_with (first
              | (go_at_call 45; (with_reducible refine (e_sound HEO11.out).mono ?_); rintro e w96 ⟨rfl, rfl⟩)
              | (go_at_call 44; (with_reducible refine (e_same2 HEO10.out HVR10.out HNR.out.2.1 HZ.out.2.1 HNR.out.2.2.2 HZ.out.2.2.2 (HZQ.out)).mono ?_); rintro e w95 ⟨rfl, hb11⟩
                 have HEO11 := Lib.hid (HEO10.out.below hb11)
                 have HVR11 := Lib.hid (HVR10.out.below hb11)
                 clear hb11)
              | (go_at_call 43; (with_reducible refine (known_any _).mono ?_); rintro e w94 ⟨rfl, hb10⟩
                 have HEO10 := Lib.hid (HEO9.out.below hb10)
                 have HVR10 := Lib.hid (HVR.out.below hb10)
                 clear hb10))
            go_ret
            exact ⟨rfl, HEO11.out.2.2.2⟩
          · have HZQ := Lib.hid (decide_eq_false hzq)
            clear hzq
            go_wp2_with (first
              | (go_at_call 45; (with_reducible refine (e_sound HEO12.out).mono ?_); rintro e w96 ⟨rfl, rfl⟩)
              | (go_at_call 44; (with_reducible refine (e_same1 HEO11.out HVR11.out HNR.out.2.1 HNR.out.2.1 HNR.out.2.2.2 HNR.out.2.2.2 (decide_eq_true rfl)).mono ?_); rintro e w97 ⟨rfl, hb12⟩
                 have HEO12 := Lib.hid (HEO11.out.below hb12)
                 clear hb12)
              | (go_at_call 44; (with_reducible refine (e_same2 HEO10.out HVR10.out HNR.out.2.1 HZ.out.2.1 HNR.out.2.2.2 HZ.out.2.2.2 (HZQ.out)).mono ?_); rintro e w95 ⟨rfl, hb11⟩
                 have HEO11 := Lib.hid (HEO10.out.below hb11)
                 have HVR11 := Lib.hid (HVR10.out.below hb11)
                 clear hb11)
              | (go_at_call 43; (with_reducible refine (known_any _).mono ?_); rintro e w94 ⟨rfl, hb10⟩
                 have HEO10 := Lib.hid (HEO9.out.below hb10)
                 have HVR10 := Lib.hid (HVR.out.below hb10)
                 clear hb10))
            go_ret
            exact ⟨rfl, HEO12.out.2.2.2⟩
      · go_upto_region 24 with (first
          | (go_at_call 40; (with_reducible refine (ends_trim HED.out HI8.out (k : Int)).mono ?_); rintro e w5 ⟨E, R, rfl, hER, hEF⟩
             have HER := Lib.hid hER
             have HEF := Lib.hid hEF
             clear hER hEF)
          | (go_at_call 41; (with_reducible refine (rfrom_at w w5 _ rs (k : Int) HEF.out.ro HEF.out.bel HL8.out).mono ?_); rintro e w6 ⟨v20, rfl, hro2, hb6, hn6⟩
             rw [sq_filter rs 0 _ HRL.out.2.1] at hro2
             have HEH := Lib.hid (HEF.out.thenE hb6 hro2 hn6)
             have HZ : Hid ((∃ n, Sq n (rs.drop (keyR rs (k : Int)))) ∧ Bnd (rs.drop (keyR rs (k : Int))) ∧ (∀ r ∈ rs.drop (keyR rs (k : Int)), bok r.2) ∧ (rs.drop (keyR rs (k : Int))).length ≤ 1000) := ⟨⟨_, sq_drop rs 0 _ HRL.out.2.1⟩, fun r hr => HBD.out.1 r (List.mem_of_mem_drop hr), fun r hr => HBD.out.2 r (List.mem_of_mem_drop hr), by have := HL8.out; rw [List.length_drop]; omega⟩
             clear hro2 hb6 hn6))
        obtain ⟨nR, hnR⟩ : ∃ nR, Sq nR R ∧ Bnd R ∧ (∀ r ∈ R, bok r.2) ∧ R.length ≤ 1000 := by
          rcases HER.out with ⟨_, h⟩ | ⟨_, h⟩
          · rw [h]; obtain ⟨⟨nz, h1⟩, h2, h3, h4⟩ := HZ.out; exact ⟨nz, h1, h2, h3, h4⟩
          · rw [h]; exact ⟨0, HRL.out.2.1, HBD.out.1, HBD.out.2, HL8.out⟩
        have HNR := Lib.hid hnR
        clear hnR
        go_upto_region 29 with (first
          | (go_at_call 42; (with_reducible refine (e_recs HEO.out HNR.out.2.1).mono ?_); rintro e w93 ⟨vr, rfl, hvr, heo9⟩; have HVR := Lib.hid hvr; have HEO9 := Lib.hid heo9; clear hvr heo9)
          | (go_at_call 38; (with_reducible refine (e_open2 HEH2.out HNR.out.1 HNR.out.2.1 HNR.out.2.2.1).mono ?_); rintro e w92 ⟨o, rfl, heo⟩; have HEO := Lib.hid heo; clear heo)
          | (go_at_call 26; (with_reducible refine (e_rev HEH.out).mono ?_); rintro e w91 ⟨rfl, heh⟩; have HEH2 := Lib.hid heh; clear heh))
        rcases HER.out with ⟨hE, hR⟩ | ⟨hE, hR⟩
        · subst hE hR
          go_wp2_with (first
            | (go_at_call 45; (with_reducible refine (e_sound HEO11.out).mono ?_); rintro e w96 ⟨rfl, rfl⟩)
            | (go_at_call 44; (with_reducible refine (e_same2 HEO10.out HVR10.out HNR.out.2.1 HZ.out.2.1 HNR.out.2.2.2 HZ.out.2.2.2 (decide_eq_true rfl)).mono ?_); rintro e w95 ⟨rfl, hb11⟩
               have HEO11 := Lib.hid (HEO10.out.below hb11)
               have HVR11 := Lib.hid (HVR10.out.below hb11)
               clear hb11)
            | (go_at_call 43; (with_reducible refine (known_any _).mono ?_); rintro e w94 ⟨rfl, hb10⟩
               have HEO10 := Lib.hid (HEO9.out.below hb10)
               have HVR10 := Lib.hid (HVR.out.below hb10)
               clear hb10))
          go_ret
          exact ⟨rfl, HEO11.out.2.2.2⟩
        · have hR2 := hR.symm
          subst hE hR2
          by_cases hzq : rs.map (·.2) = (rs.drop (keyR rs (k : Int))).map (·.2)
          · have HZQ := Lib.hid (decide_eq_true hzq)
            clear hzq
            go_wp2_with (first
              | (go_at_call 45; (with_reducible refine (e_sound HEO11.out).mono ?_); rintro e w96 ⟨rfl, rfl⟩)
              | (go_at_call 44; (with_reducible refine (e_same2 HEO10.out HVR10.out HNR.out.2.1 HZ.out.2.1 HNR.out.2.2.2 HZ.out.2.2.2 (HZQ.out)).mono ?_); rintro e w95 ⟨rfl, hb11⟩
                 have HEO11 := Lib.hid (HEO10.out.below hb11)
                 have HVR11 := Lib.hid (HVR10.out.below hb11)
                 clear hb11)
              | (go_at_call 43; (with_reducible refine (known_any _).mono ?_); rintro e w94 ⟨rfl, hb10⟩
                 have HEO10 := Lib.hid (HEO9.out.below hb10)
                 have HVR10 := Lib.hid (HVR.out.below hb10)
                 clear hb10))
            go_ret
            exact ⟨rfl, HEO11.out.2.2.2⟩
          · have HZQ := Lib.hid (decide_eq_false hzq)
            clear hzq
            go_wp2_with (first
              | (go_at_call 45; (with_reducible refine (e_sound HEO12.out).mono ?_); rintro e w96 ⟨rfl, rfl⟩)
              | (go_at_call 44; (with_reducible refine (e_same1 HEO11.out HVR11.out HNR.out.2.1 HNR.out.2.1 HNR.out.2.2.2 HNR.out.2.2.2 (decide_eq_true rfl)).mono ?_); rintro e w97 ⟨rfl, hb12⟩
                 have HEO12 := Lib.hid (HEO11.out.below hb12)
                 clear hb12)
              | (go_at_call 44; (with_reducible refine (e_same2 HEO10.out HVR10.out HNR.out.2.1 HZ.out.2.1 HNR.out.2.2.2 HZ.out.2.2.2 (HZQ.out)).mono ?_); rintro e w95 ⟨rfl, hb11⟩
                 have HEO11 := Lib.hid (HEO10.out.below hb11)
                 have HVR11 := Lib.hid (HVR10.out.below hb11)
                 clear hb11)
              | (go_at_call 43; (with_reducible refine (known_any _).mono ?_); rintro e w94 ⟨rfl, hb10⟩
                 have HEO10 := Lib.hid (HEO9.out.below hb10)
                 have HVR10 := Lib.hid (HVR.out.below hb10)
                 clear hb10))
            go_ret
            exact ⟨rfl, HEO12.out.2.2.2⟩
end Go.Proofs.Ytklngdmpledgeaa.Jo
