/-
  VaultPlays' law. Conditions: the calls lie in memory.
-/
import Derived.Test.YtjijgoflbjbnfaaGreatVPl1
import Derived.Test.YtjijgoflbjbnfaaGreatVM33
import Derived.Test.YtjijgoflbjbnfaaGreatVM31
namespace Go.Proofs.YtjijgoflbjbnfaaGreat.Vt
open Go.RowKit Fr Sr Jo
attribute [local go_sem] Oper.semAt_some

theorem rowsO_n {w : World} {N : Nat} {T : Nat → Prop} {A : Option Addr} {n c : Nat} {bs : List (List Int)} (h : RowsO w N T (.slice A n c) bs) : n = bs.length := by
  obtain ⟨us, h1, _⟩ := h
  rcases h1.2 with ⟨e, h0⟩ | ⟨g, cap, cur, e, _⟩
  · cases e; exact h0.symm
  · cases e; rfl
set_option maxRecDepth 100000 in
set_option maxHeartbeats 8000000 in
theorem law_plays (w : World) (r : Int) (A : Option Addr) (n0 c0 m0 : Nat) (cs : List AcV) (h0 : ActsV w A n0 cs) (hm0 : m0 = min n0 60) :
    Calls Tryz.prog 3 #[.int .i64 r, .slice A n0 c0] w fun e w' => e = .returned (.bool true) ∧ Below w.heap.size w w' := by
  have HI := Lib.hid h0
  have hx0 : Hid ((m0 < n0 ∧ ¬ m0 < 60) ∨ ¬ m0 < n0) := by show _ ∨ _; omega
  have l0 : m0 ≤ 60 := by omega
  have l2 : m0 ≤ n0 := by omega
  have HL := Lib.hid h0.1
  have hu : 0 ≤ (IntKind.u64.wrap r).tmod 600 ∧ (IntKind.u64.wrap r).tmod 600 ≤ 599 := by
    have h1 : 0 ≤ IntKind.u64.wrap r := by rw [IntKind.wrap_u64]; omega
    rw [Int.tmod_eq_emod_of_nonneg h1]; omega
  obtain ⟨u, hu2⟩ : ∃ u : Nat, (IntKind.u64.wrap r).tmod 600 = (u : Int) := ⟨((IntKind.u64.wrap r).tmod 600).toNat, by omega⟩
  rw [hu2] at hu
  have hw64 : wrap64 (u : Int) = (u : Int) := by unfold wrap64; omega
  obtain ⟨R, hR⟩ : ∃ R, R = 30 + (u : Int) := ⟨_, rfl⟩
  have HR : Hid (0 ≤ R ∧ R ≤ 800) := Lib.hid (by omega)
  have HN := Lib.hid (lv_newP w R (by omega) (by omega))
  have hRw : wrap64 R = R := by unfold wrap64; omega
  have hR2 := hR.symm
  obtain ⟨p, hp⟩ : ∃ p, p = w.heap.size := ⟨_, rfl⟩
  rw [← hp] at HN
  have HP := Lib.hid hp
  clear h0 hm0 hu hR hp
  go_enter Tryz.func3, Tryz.ntmps3
  go_wp2_with (first
    | (go_at_call 9; (with_reducible refine (lv_open HS1.out rfl rfl (.inr (by decide))).mono ?_); rintro e w2 ⟨vb, s2, rfl, hv2, ha2, hu2'⟩; have HV2 := Lib.hid hv2; clear hv2 ha2 hu2')
    | (go_at_call 8; (with_reducible refine HN.out.mono ?_); rintro e w1 ⟨rfl, hs1⟩; have HS1 := Lib.hid hs1; clear hs1))
  clear HN HS1
  go_loopg [7, 9, 10, 11, 12, 13, 14, 15, 16, 17, 18, 19, 20, 21, 22] m0 (fun (gh : Nat) s7 s9 s10 s11 s12 s13 s14 s15 s16 s17 s18 s19 s20 s21 s22 wx => ∃ (i vb : Nat) (ls : List (List Int)) (A7 : Option Addr) (c7 : Nat) (sd : Bool) (s : S) (g : Nat), gh = m0 - i ∧ i ≤ m0 ∧ s7 = .pointer (some ⟨vb, 0, none⟩) ∧ s9 = .slice A7 ls.length c7 ∧ s11 = .bool sd ∧ s12 = .int .i64 (i : Int) ∧ ls.length ≤ i ∧ Hid (LV w wx p vb (.slice A7 ls.length c7) R ls ls s sd g []) ∧ s10 = s10 ∧ s13 = s13 ∧ s14 = s14 ∧ s15 = s15 ∧ s16 = s16 ∧ s17 = s17 ∧ s18 = s18 ∧ s19 = s19 ∧ s20 = s20 ∧ s21 = s21 ∧ s22 = s22)
  case atStart => exact ⟨0, vb, [], none, 0, true, s2, 0, rfl, Nat.zero_le _, rfl, rfl, rfl, rfl, Nat.zero_le _, HV2.out, rfl, rfl, rfl, rfl, rfl, rfl, rfl, rfl, rfl, rfl, rfl⟩
  case round =>
    clear HV2
    obtain ⟨i, vb, ls, A7, c7, sd, s, g, rfl, him, rfl, rfl, rfl, rfl, hli, hinv, _⟩ := hrel
    by_cases hlt : i < m0
    · obtain ⟨a, ha⟩ : ∃ a, cs[i]? = some a := ⟨_, List.getElem?_eq_getElem (by rw [HL.out]; omega)⟩
      obtain ⟨a1, ⟨a2, a3⟩, gg, o, hA, hg, d0, d1, d2⟩ := HI.out.2 i a ha
      subst hA
      have hW := hinv.out.bel
      have c0 := (hW.cell (p := ⟨gg, o + i * 3, none⟩) hg).trans d0
      have c1 := (hW.cell (p := ⟨gg, o + (i * 3 + 1), none⟩) hg).trans d1
      have c2 := (hW.cell (p := ⟨gg, o + (i * 3 + 2), none⟩) hg).trans d2
      rw [← Nat.add_assoc] at c1 c2
      have t1 : (i : Int) < (n0 : Int) := by omega
      have t2 : (i : Int) < 60 := by omega
      have t3 : (0 : Int) ≤ (i : Int) := by omega
      obtain ⟨m, hm⟩ : ∃ m, m = min a.nb 60 := ⟨_, rfl⟩
      have hlen := a2.len
      have hmin : min (a.nb : Int) 60 = (m : Int) := by omega
      have hsl := slice_to a.A a.nb a.cb m (by omega)
      obtain ⟨l, hl⟩ : ∃ l, l = a.l.take m := ⟨_, rfl⟩
      have HBT : Hid (BAt w (.slice a.A m a.cb) l) := by rw [hl]; exact Lib.hid (a2.take m (by omega)).1
      have HSM : Hid (Small l) := Lib.hid ⟨fun z hz => a3 z (List.mem_of_mem_take (by rw [← hl]; exact hz)), by rw [hl, List.length_take]; omega⟩
      have HLM : Hid (l.length = m) := Lib.hid (by rw [hl, List.length_take]; omega)
      have HAN := Lib.hid a1
      have HII := Lib.hid (And.intro hli hlt)
      clear d0 d1 d2 ha hW hm a1 a2 a3 hlen hl hli him
      go_upto_block 2 with fail
      obtain ⟨b9, hb9⟩ : ∃ b9, b9 = wr.heap.size := ⟨_, rfl⟩
      have HPB := Lib.hid (lv_lit hinv.out (actO a.k a.n a.A m a.cb))
      rw [← hb9] at HPB ⊢
      generalize wr.alloc (.cells #[.int .i64 a.k, .int .i64 a.n, .slice a.A m a.cb] 34) = WB at HPB ⊢
      have hkr : 0 ≤ (IntKind.u64.wrap a.k).tmod 6 ∧ (IntKind.u64.wrap a.k).tmod 6 ≤ 5 := by
        have h1 : 0 ≤ IntKind.u64.wrap a.k := by rw [IntKind.wrap_u64]; omega
        rw [Int.tmod_eq_emod_of_nonneg h1]; omega
      obtain ⟨kk, hkk⟩ : ∃ kk, (IntKind.u64.wrap a.k).tmod 6 = kk := ⟨_, rfl⟩
      rw [hkk] at hkr
      obtain ⟨x0, x1, x2⟩ := lv_act HPB.out
      have HMM : Hid (m ≤ 60) := Lib.hid (by omega)
      clear hinv c0 c1 c2 hb9 hsl hmin
      go_cut [7, 9, 10, 11, 14, 15, 16, 17, 18, 19, 20, 21, 22] from 48 to 247 (fun s7 s9 s10 s11 s14 s15 s16 s17 s18 s19 s20 s21 s22 wx => ∃ (vb2 : Nat) (ls2 : List (List Int)) (A8 : Option Addr) (c8 : Nat) (sd2 : Bool) (s2 : S) (g2 : Nat), s7 = .pointer (some ⟨vb2, 0, none⟩) ∧ s9 = .slice A8 ls2.length c8 ∧ s11 = .bool sd2 ∧ ls2.length ≤ i + 1 ∧ Hid (LV w wx p vb2 (.slice A8 ls2.length c8) R ls2 ls2 s2 sd2 g2 [(b9, actO a.k a.n a.A m a.cb)]))
      case first =>
        by_cases k0 : kk = 0
        · as_aux_lemma =>
            subst k0
            cases sd
            · go_wp2_with (go_at_call 10; (with_reducible refine (lv_addno HPB.out _).mono ?_); rintro e w4 ⟨rfl, hw4⟩; (try dsimp only); subst hw4)
              go_meet
              exact ⟨vb, ls, A7, c7, false, s, g, rfl, rfl, rfl, by have := HII.out; omega, HPB.out⟩
            · go_upto_region 26 with (go_at_call 10; (with_reducible refine (lv_add HPB.out HBT.out HSM.out (by have := HII.out; omega)).mono ?_); rintro e w4 ⟨E, s4, rfl, hu4, hE⟩; (try dsimp only); have HE := Lib.hid hE; clear hE hu4)
              rcases HE.out with ⟨hE, hv4, _⟩ | ⟨hE, _, hv4⟩ | ⟨hE, hR4, hs4, hv4⟩
              · subst hE
                obtain ⟨A5, n5, c5, w5, hr5, hv5⟩ := lv_app hv4 HBT.out ⟨_, _, _, rfl⟩ (by have := HII.out; omega)
                have HN5 : Hid (n5 = (ls ++ [l]).length) := Lib.hid (by obtain ⟨_, _, e⟩ := lv_slice hv5; cases e; rfl)
                have HV5 := Lib.hid hv5
                have x4 := (lv_act hv4).2.2
                clear hv4 hv5 HE x0 x1 x2
                go_wp2_with (have hq5 := hr5; refine Lib.wpList_append_run _ rfl _ _ 31 31 rfl (.slice A7 ls.length c7) (.slice (some ⟨w4.heap.size, 0, none⟩) 1 1) (by rfl) (by rfl) (.slice A5 n5 c5) w5 hq5 ?_; clear hr5 hq5)
                go_meet
                exact ⟨vb, ls ++ [l], A5, c5, true, s4, _, rfl, by rw [HN5.out], rfl, by have := HII.out; simp; omega, by rw [← HN5.out]; exact HV5.out⟩
              · subst hE
                have HV4 := Lib.hid hv4
                have x4 := (lv_act hv4).2.2
                clear hv4 HE x0 x1 x2
                go_upto_region 34 with fail
                obtain ⟨us, hrw, hS⟩ := lv_row HV4.out
                have HW4 := Lib.hid HV4.out.bel
                have HA1 : Hid (∀ W b, W.heap[b]? = some (.cells #[] 32) → w4.heap.size ≤ b → Below w4.heap.size w4 W → ∃ A n c w', (Builtin.append_ #[31, 31] 31 #[.slice (some ⟨b, 0, none⟩) 0 0, .slice A7 ls.length c7]).run Tryz.prog W = .ok (.slice A n c) w' ∧ (w'.ownsRow w4.heap.size 32 1 (.slice A n c) ls.length us ∧ Below w4.heap.size w4 w' ∧ Off (fun k => k = b) W w')) := Lib.hid (fun W b hb hN hB => by
                  obtain ⟨A, n, c, w', hr, ho, hf⟩ := app_allG (hrw W hB) hS (by have := HII.out; omega) hb hN
                  exact ⟨A, n, c, w', hr, ho, hB.trans (hf.below (fun k hk => by rw [hk]; exact hN) hB.size), hf⟩)
                have HA2 : Hid (∀ W b A n c, W.heap[b]? = some (.cells #[.slice a.A m a.cb] 32) → W.ownsRow w4.heap.size 32 1 (.slice A n c) ls.length us → Below w4.heap.size w4 W → ∃ A' n' c' w', (Builtin.append_ #[31, 31] 31 #[.slice A n c, .slice (some ⟨b, 0, none⟩) 1 1]).run Tryz.prog W = .ok (.slice A' n' c') w' ∧ Below w4.heap.size w4 w') := Lib.hid (fun W b A n c hb ho hB => by
                  obtain ⟨A', n', c', w', hr, hf⟩ := app_oneG ho (by have := HII.out; omega) hB.size hb ⟨_, _, _, rfl⟩
                  exact ⟨A', n', c', w', hr, hB.trans hf⟩)
                obtain ⟨E0, hE0⟩ : ∃ E0 : Obj, E0 = .cells #[] 32 := ⟨_, rfl⟩
                obtain ⟨U0, hU0⟩ : ∃ U0 : Obj, U0 = .cells #[.slice a.A m a.cb] 32 := ⟨_, rfl⟩
                have BR := Below.refl w4.heap.size w4
                have B1 := blw_alloc BR E0
                have B2 := blw_alloc B1 U0
                have B3 := blw_alloc BR U0
                have B4 := blw_alloc B3 E0
                obtain ⟨A9, n9, c9, w9, hr9, ho9, hb9, _⟩ := HA1.out (w4.alloc E0).drew w4.heap.size (by rw [← hE0]; exact blk_one _ _) (Nat.le_refl _) B1.drew
                obtain ⟨A10, n10, c10, w10, hr10, hb10⟩ := HA2.out (w9.alloc U0) w9.heap.size A9 n9 c9 (by rw [← hU0]; exact blk_one _ _) (Oc.ownsRow_kept ho9 (fun g hg => (alloc_below _ _).block g (ho9.lt g hg).2)) (hb9.alloc hb9.size U0)
                obtain ⟨A11, n11, c11, w11, hr11, ho11, hb11, hf11⟩ := HA1.out ((w4.alloc E0).alloc U0).drew w4.heap.size (by rw [← hE0]; exact blk_two _ _ _) (Nat.le_refl _) B2.drew
                obtain ⟨A12, n12, c12, w12, hr12, hb12⟩ := HA2.out w11 (w4.heap.size + 1) A11 n11 c11 (by rw [← hU0]; exact o_any hf11 (blk_one1 _ _ _) (Nat.succ_ne_self _)) ho11 hb11
                obtain ⟨A13, n13, c13, w13, hr13, ho13, hb13, hf13⟩ := HA1.out ((w4.alloc U0).alloc E0).drew (w4.heap.size + 1) (by rw [← hE0]; exact blk_one1 _ _ _) (Nat.le_succ _) B4.drew
                obtain ⟨A14, n14, c14, w14, hr14, hb14⟩ := HA2.out w13 w4.heap.size A13 n13 c13 (by rw [← hU0]; exact o_any hf13 (blk_two _ _ _) (Nat.ne_of_lt (Nat.lt_succ_self _))) ho13 hb13
                have X4 := Lib.hid x4
                have Xa : Hid (w4.drew.cell? ⟨b9, 2, none⟩ = some (.slice a.A m a.cb)) := Lib.hid (lv_act (HV4.out.below BR.drew)).2.2
                have Xb : Hid ((w4.alloc E0).drew.cell? ⟨b9, 2, none⟩ = some (.slice a.A m a.cb)) := Lib.hid (lv_act (HV4.out.below B1.drew)).2.2
                have Xc : Hid (w9.cell? ⟨b9, 2, none⟩ = some (.slice a.A m a.cb)) := Lib.hid (lv_act (HV4.out.below hb9)).2.2
                have Xc2 : Hid ((w9.alloc U0).cell? ⟨b9, 2, none⟩ = some (.slice a.A m a.cb)) := Lib.hid (lv_act (HV4.out.below (hb9.alloc hb9.size U0))).2.2
                have Xd : Hid (((w4.alloc E0).alloc U0).drew.cell? ⟨b9, 2, none⟩ = some (.slice a.A m a.cb)) := Lib.hid (lv_act (HV4.out.below B2.drew)).2.2
                have Xe : Hid (w11.cell? ⟨b9, 2, none⟩ = some (.slice a.A m a.cb)) := Lib.hid (lv_act (HV4.out.below hb11)).2.2
                have Xf : Hid ((w4.alloc U0).drew.cell? ⟨b9, 2, none⟩ = some (.slice a.A m a.cb)) := Lib.hid (lv_act (HV4.out.below B3.drew)).2.2
                have Xg : Hid (((w4.alloc U0).alloc E0).drew.cell? ⟨b9, 2, none⟩ = some (.slice a.A m a.cb)) := Lib.hid (lv_act (HV4.out.below B4.drew)).2.2
                have Xh : Hid (w13.cell? ⟨b9, 2, none⟩ = some (.slice a.A m a.cb)) := Lib.hid (lv_act (HV4.out.below hb13)).2.2
                have Xi : Hid (w10.cell? ⟨b9, 2, none⟩ = some (.slice a.A m a.cb)) := Lib.hid (lv_act (HV4.out.below hb10)).2.2
                have Xj : Hid (w12.cell? ⟨b9, 2, none⟩ = some (.slice a.A m a.cb)) := Lib.hid (lv_act (HV4.out.below hb12)).2.2
                have Xk : Hid (w14.cell? ⟨b9, 2, none⟩ = some (.slice a.A m a.cb)) := Lib.hid (lv_act (HV4.out.below hb14)).2.2
                have HV10 := Lib.hid (HV4.out.below hb10)
                have HV12 := Lib.hid (HV4.out.below hb12)
                have HV14 := Lib.hid (HV4.out.below hb14)
                have HR9 := Lib.hid hr9
                have HR10 := Lib.hid hr10
                have HR11 := Lib.hid hr11
                have HR12 := Lib.hid hr12
                have HR13 := Lib.hid hr13
                have HR14 := Lib.hid hr14
                clear hr9 hr10 hr11 hr12 hr13 hr14 ho9 ho11 ho13 hb9 hb10 hb11 hb12 hb13 hb14 hf11 hf13 HA1 HA2 x4 hrw hS BR B1 B2 B3 B4
                subst hE0 hU0
                go_region_held3 (fun w' => w'.cell? ⟨b9, 2, none⟩ = some (.slice a.A m a.cb))
                  (first | (with_reducible exact X4.out) | exact Xa.out | exact Xb.out | exact Xc.out | exact Xc2.out | exact Xd.out | exact Xe.out | exact Xf.out | exact Xg.out | exact Xh.out | exact Xi.out | exact Xj.out | exact Xk.out)
                  (first
                    | (refine step_app_run _ (by rfl) (.tmp 131) (.tmp 132) 31 31 (by rfl) (.slice (some ⟨w4.heap.size, 0, none⟩) 0 0) (.slice A7 ls.length c7) (by rfl) (by rfl) (.slice A9 n9 c9) w9 HR9.out ?_)
                    | (refine step_app_run _ (by rfl) (.tmp 133) (.tmp 136) 31 31 (by rfl) (.slice A9 n9 c9) (.slice (some ⟨w9.heap.size, 0, none⟩) 1 1) (by rfl) (by rfl) (.slice A10 n10 c10) w10 HR10.out ?_)
                    | (refine step_app_run _ (by rfl) (.tmp 131) (.tmp 132) 31 31 (by rfl) (.slice (some ⟨w4.heap.size, 0, none⟩) 0 0) (.slice A7 ls.length c7) (by rfl) (by rfl) (.slice A11 n11 c11) w11 HR11.out ?_)
                    | (refine step_app_run _ (by rfl) (.tmp 133) (.tmp 136) 31 31 (by rfl) (.slice A11 n11 c11) (.slice (some ⟨w4.heap.size + 1, 0, none⟩) 1 1) (by rfl) (by rfl) (.slice A12 n12 c12) w12 HR12.out ?_)
                    | (refine step_app_run _ (by rfl) (.tmp 131) (.tmp 132) 31 31 (by rfl) (.slice (some ⟨w4.heap.size + 1, 0, none⟩) 0 0) (.slice A7 ls.length c7) (by rfl) (by rfl) (.slice A13 n13 c13) w13 HR13.out ?_)
                    | (refine step_app_run _ (by rfl) (.tmp 133) (.tmp 136) 31 31 (by rfl) (.slice A13 n13 c13) (.slice (some ⟨w4.heap.size, 0, none⟩) 1 1) (by rfl) (by rfl) (.slice A14 n14 c14) w14 HR14.out ?_))
                all_goals
                  go_wp2
                  go_meet
                  first
                    | exact ⟨vb, ls, A7, c7, false, s4, _, rfl, rfl, rfl, by have := HII.out; omega, HV10.out⟩
                    | exact ⟨vb, ls, A7, c7, false, s4, _, rfl, rfl, rfl, by have := HII.out; omega, HV12.out⟩
                    | exact ⟨vb, ls, A7, c7, false, s4, _, rfl, rfl, rfl, by have := HII.out; omega, HV14.out⟩
              · subst hE
                subst hs4
                obtain ⟨q, hq⟩ : ∃ q, q = R - s4.used := ⟨_, rfl⟩
                have HV4 := Lib.hid (hv4.below (Below.refl _ _).drew)
                have x4 := (lv_act hv4).2.2
                have t5 : ¬ ((m : Int) + 12 ≤ q) := by have := HLM.out; omega
                have t7 : decide ((m : Int) + 12 ≤ q) = false := decide_eq_false t5
                have t8 : q < (m : Int) + 12 := by omega
                have t6 : wrap64 ((m : Int) + 12) = (m : Int) + 12 := by have := HMM.out; unfold wrap64; omega
                have t9 : IntKind.i64.wrap ((m : Int) + 12) = (m : Int) + 12 := wrap12 m HMM.out
                have HSP : Hid (Calls Tryz.prog 11 #[.pointer (some ⟨vb, 0, none⟩)] w4.drew fun e W' => e = .returned (.int .i64 q) ∧ Below w4.drew.heap.size w4.drew W') := by rw [hq]; exact Lib.hid (lv_spare HV4.out)
                have X4 := Lib.hid x4
                have X4d : Hid (w4.drew.cell? ⟨b9, 2, none⟩ = some (.slice a.A m a.cb)) := Lib.hid (lv_act HV4.out).2.2
                clear hv4 HE x0 x1 x2 x4 hq hR4
                go_upto_region 24 with fail
                go_region_held3 (fun w' => w'.cell? ⟨b9, 2, none⟩ = some (.slice a.A m a.cb))
                  (first | (with_reducible exact X4.out) | (with_reducible exact X4d.out) | (with_reducible exact X5.out))
                  (first | (go_at_call 11; (with_reducible refine HSP.out.mono ?_); rintro e w5 ⟨rfl, hb5⟩; (try dsimp only); have HV5 := Lib.hid (HV4.out.below hb5); have X5 := Lib.hid (lv_act HV5.out).2.2; clear hb5))
                all_goals
                  go_wp2
                  go_meet
                  exact ⟨vb, ls, A7, c7, true, s4, g, rfl, rfl, rfl, by have := HII.out; omega, HV5.out⟩
        · skip
          by_cases k1 : kk = 1
          · as_aux_lemma =>
              subst k1
              cases sd
              · go_wp2_with (go_at_call 12; (with_reducible refine (lv_packno HPB.out).mono ?_); rintro e w4 ⟨rfl, hw4⟩; (try dsimp only); subst hw4)
                go_meet
                exact ⟨vb, ls, A7, c7, false, s, g, rfl, rfl, rfl, by have := HII.out; omega, HPB.out⟩
              · go_upto_region 37 with (go_at_call 12; (with_reducible refine (lv_pack HPB.out).mono ?_); rintro e w4 ⟨E, s4, rfl, hu4, hE⟩; (try dsimp only); have HE := Lib.hid hE; clear hE hu4)
                rcases HE.out with ⟨hE, hv4, _⟩ | ⟨hE, _, hv4⟩ | ⟨hE, hR4, hv4⟩
                all_goals
                  subst hE
                  have HV4 := Lib.hid hv4
                  clear hv4 HE x0 x1 x2
                  try clear hR4
                  go_wp2
                  go_meet
                  exact ⟨vb, ls, A7, c7, _, s4, _, rfl, rfl, rfl, by have := HII.out; omega, HV4.out⟩
          · skip
            by_cases k2 : kk = 2
            · as_aux_lemma =>
                subst k2
                go_wp2_with (go_at_call 13; (with_reducible refine (lv_arm HPB.out (n := a.n) HAN.out).mono ?_); rintro e w4 ⟨rfl, hv4⟩; (try dsimp only); have HV4 := Lib.hid hv4; clear hv4)
                go_meet
                exact ⟨vb, ls, A7, c7, _, _, _, rfl, rfl, rfl, by have := HII.out; omega, HV4.out⟩
            · skip
              by_cases k3 : kk = 3
              · as_aux_lemma =>
                  subst k3
                  have hbl := HPB.out.bl
                  have HB := Lib.hid (And.intro hbl.1 (Nat.le_trans hbl.2.1 (by decide : 99 ≤ 1000)))
                  have HRR : Hid (R ≤ 800 ∨ g ≤ 800) := Lib.hid (.inl HR.out.2)
                  clear hbl x1 x2
                  go_wp2_with (first
                    | (go_at_call 15; (with_reducible refine (lv_same HX6.out HV6.out.hsA HB.out HB.out (decide_eq_true rfl)).mono ?_); rintro e w7 ⟨rfl, hb7⟩; (try dsimp only); have HV7 := Lib.hid (HV6.out.below hb7); clear hb7)
                    | (go_at_call 16; (with_reducible refine (lv_all HV5.out).mono ?_); rintro e w6 ⟨A6, n6, c6, rfl, hr6, hb6⟩; (try dsimp only)
                       have hr6' := (rowsO_toT (T' := fun _ => False) hr6 (fun _ h => h.elim)).toA
                       have HX6 := Lib.hid hr6'
                       have HV6 := Lib.hid (HV5.out.below hb6)
                       clear hr6 hr6' hb6)
                    | (go_at_call 9; (with_reducible refine (lv_open HS4.out rfl rfl HRR.out).mono ?_); rintro e w5 ⟨vc, s5, rfl, hv5, ha5, hu5⟩; (try dsimp only); have HV5 := Lib.hid hv5; clear hv5 ha5 hu5)
                    | (go_at_call 14; (with_reducible refine (lv_rev HPB.out).mono ?_); rintro e w4 ⟨rfl, hs4⟩; (try dsimp only); have HS4 := Lib.hid hs4; clear hs4))
                  go_meet
                  exact ⟨vc, ls, A7, c7, true, _, _, rfl, rfl, rfl, by have := HII.out; omega, HV7.out⟩
              · skip
                by_cases k4 : kk = 4
                · as_aux_lemma =>
                    subst k4
                    have hno : ∀ k : Int, (k < 0 ∨ (ls.length : Int) ≤ k) → Calls Tryz.prog 17 #[.pointer (some ⟨vb, 0, none⟩), .int .i64 k] WB fun e W' => e = .returned (.tuple #[.slice none 0 0, .int .i64 13]) ∧ Below WB.heap.size WB W' := fun k hk => lv_getno HPB.out k hk
                    have HNO := Lib.hid hno
                    clear hno x0 x2
                    obtain ⟨an, han⟩ : ∃ an, an = a.n := ⟨_, rfl⟩
                    rw [← han] at x1
                    by_cases hneg : an < 0
                    · have HNG : Hid (an < 0 ∨ (ls.length : Int) ≤ an) := Lib.hid (.inl hneg)
                      have HX : Hid (∀ W, LV w W p vb (.slice A7 ls.length c7) R ls ls s sd g [(b9, actO a.k a.n a.A m a.cb)] → W.cell? ⟨b9, 1, none⟩ = some (.int .i64 an)) := Lib.hid (fun W h => by rw [han]; exact (lv_act h).2.1)
                      clear han
                      go_wp2_with (go_at_call 17; (with_reducible refine (HNO.out _ HNG.out).mono ?_); rintro e w4 ⟨rfl, hb4⟩; (try dsimp only); have HV4 := Lib.hid (HPB.out.below hb4); have x4 := HX.out _ HV4.out; clear hb4 x1)
                      go_meet
                      exact ⟨vb, ls, A7, c7, _, _, _, rfl, rfl, rfl, by have := HII.out; omega, HV4.out⟩
                    · by_cases hge : (ls.length : Int) ≤ an
                      · have HNG : Hid (an < 0 ∨ (ls.length : Int) ≤ an) := Lib.hid (.inr hge)
                        have HX : Hid (∀ W, LV w W p vb (.slice A7 ls.length c7) R ls ls s sd g [(b9, actO a.k a.n a.A m a.cb)] → W.cell? ⟨b9, 1, none⟩ = some (.int .i64 an)) := Lib.hid (fun W h => by rw [han]; exact (lv_act h).2.1)
                        clear han
                        go_wp2_with (go_at_call 17; (with_reducible refine (HNO.out _ HNG.out).mono ?_); rintro e w4 ⟨rfl, hb4⟩; (try dsimp only); have HV4 := Lib.hid (HPB.out.below hb4); have x4 := HX.out _ HV4.out; clear hb4 x1)
                        go_meet
                        exact ⟨vb, ls, A7, c7, _, _, _, rfl, rfl, rfl, by have := HII.out; omega, HV4.out⟩
                      · obtain ⟨j, rfl⟩ : ∃ j : Nat, an = (j : Int) := ⟨an.toNat, by omega⟩
                        have hj : j < ls.length := by omega
                        obtain ⟨lj, hlj⟩ : ∃ lj, ls[j]? = some lj := ⟨_, List.getElem?_eq_getElem hj⟩
                        have t5 : (j : Int) < (ls.length : Int) := by omega
                        have t6 : (0 : Int) ≤ (j : Int) := by omega
                        have HX : Hid (∀ W, LV w W p vb (.slice A7 ls.length c7) R ls ls s sd g [(b9, actO a.k a.n a.A m a.cb)] → W.cell? ⟨b9, 1, none⟩ = some (.int .i64 (j : Int))) := Lib.hid (fun W h => by rw [han]; exact (lv_act h).2.1)
                        have HGY := Lib.hid (lv_getyes HPB.out j hlj)
                        have HLJ := Lib.hid hlj
                        have HLS : Hid (lj.length ≤ 60) := Lib.hid (HPB.out.bl.1 lj (List.mem_of_getElem? hlj)).2
                        clear han hneg hge hj hlj
                        go_upto_region 58 with (go_at_call 17; (with_reducible refine HGY.out.mono ?_); rintro e w4 ⟨A4, n4, c4, rfl, h4, hb4⟩; (try dsimp only); have HV4 := Lib.hid (HPB.out.below hb4); have x4 := HX.out _ HV4.out; have HB4 := Lib.hid h4; clear h4 hb4 x1)
                        obtain ⟨g6, A6, n6, c6, ⟨cap6, e6⟩, hc6, hb6⟩ := lv_at HV4.out HLJ.out
                        simp only [Value.slice.injEq, true_and] at e6
                        obtain ⟨e6, e7⟩ := e6
                        have HSE : Hid (Calls Tryz.prog 18 #[.slice A4 n4 c4, .slice A6 n6 c6] w4 fun e w' => e = .returned (.bool true) ∧ Below w4.heap.size w4 w') := by
                          have h := Sp.bsame_any w4 _ _ lj lj HB4.out hb6 (by have := HLS.out; omega) (by have := HLS.out; omega)
                          rw [decide_eq_true rfl] at h
                          exact Lib.hid h
                        clear hb6
                        subst e6 e7
                        go_wp2_with (go_at_call 18; (with_reducible refine HSE.out.mono ?_); rintro e w5 ⟨rfl, hb5⟩; (try dsimp only); have HV5 := Lib.hid (HV4.out.below hb5); clear hb5)
                        go_meet
                        exact ⟨vb, ls, _, c7, _, _, _, rfl, rfl, rfl, by have := HII.out; omega, HV5.out⟩
                · skip
                  as_aux_lemma =>
                    have k5 : kk = 5 := by omega
                    subst k5
                    clear x1 x2
                    go_wp2_with (go_at_call 16; (with_reducible refine (lv_all HPB.out).mono ?_); rintro e w6 ⟨A6, n6, c6, rfl, hr6, hb6⟩; (try dsimp only); have HN6 : Hid (n6 = ls.length) := Lib.hid (rowsO_n hr6); have HR6 : Hid (RL w6 WB.heap.size (.slice A6 n6 c6) (ls.map (·.length))) := Lib.hid hr6.toL; have HB6 := Lib.hid hb6; clear hr6 hb6)
                    obtain ⟨ns, hns⟩ : ∃ ns, ns = ls.map (·.length) := ⟨_, rfl⟩
                    have HNL : Hid (n6 = ns.length) := Lib.hid (by rw [hns, List.length_map]; exact HN6.out)
                    rw [← hns] at HR6
                    have HNS : Hid (∀ y ∈ ns, y ≤ 60) := Lib.hid (fun y hy => by
                      rw [hns] at hy
                      obtain ⟨z, hz, rfl⟩ := List.mem_map.1 hy
                      exact (HPB.out.bl.1 z hz).2)
                    have hn99 : n6 ≤ 99 := by have := HPB.out.bl.2.1; have := HN6.out; omega
                    clear hns
                    go_loopg [21, 22] n6 (fun (gh : Nat) s21 s22 wx => ∃ k : Nat, gh = n6 - k ∧ k ≤ n6 ∧ s21 = .int .i64 (k : Int) ∧ Hid (RL wx WB.heap.size (.slice A6 n6 c6) ns ∧ Below WB.heap.size WB wx) ∧ s22 = s22)
                    case atStart => exact ⟨0, rfl, Nat.zero_le _, rfl, ⟨HR6.out, HB6.out⟩, rfl⟩
                    case round =>
                      obtain ⟨k, rfl, hk, rfl, hinv2, _⟩ := hrel
                      by_cases hlt2 : k < n6
                      · obtain ⟨nk, hnk⟩ : ∃ nk, ns[k]? = some nk := ⟨_, List.getElem?_eq_getElem (by rw [← HNL.out]; exact hlt2)⟩
                        have s1 : (k : Int) < (n6 : Int) := by omega
                        have s2 : (0 : Int) ≤ (k : Int) := by omega
                        have hn60 : nk ≤ 60 := HNS.out nk (List.mem_of_getElem? hnk)
                        have HNK := Lib.hid hnk
                        have HLT := Lib.hid hlt2
                        clear hnk hlt2 hk
                        go_wp2
                        go_loopg [22] nk (fun (gh : Nat) s22 wx => ∃ y : Nat, gh = nk - y ∧ y ≤ nk ∧ s22 = .int .i64 (y : Int) ∧ Hid (RL wx WB.heap.size (.slice A6 n6 c6) ns ∧ Below WB.heap.size WB wx))
                        case atStart => exact ⟨0, rfl, Nat.zero_le _, rfl, hinv2.out⟩
                        case round =>
                          clear hinv2
                          obtain ⟨y, rfl, hy, rfl, hinv3⟩ := hrel
                          obtain ⟨g7, cap7, A7', c7', e7, cc, hat⟩ := hinv3.out.1.at HNK.out
                          simp only [Value.slice.injEq] at e7
                          obtain ⟨rfl, _, _⟩ := e7
                          by_cases hlt3 : y < nk
                          · obtain ⟨gb, rfl, hgb, hm⟩ := hat (by omega)
                            obtain ⟨⟨x7, cx⟩, ff, hrl⟩ := hm y hlt3
                            have s3 : (y : Int) < (nk : Int) := by omega
                            have s4 : (0 : Int) ≤ (y : Int) := by omega
                            have NX : Hid (RL (wr.setCell ⟨gb, y, none⟩ (.int .u8 1)) WB.heap.size (.slice (some ⟨g7, 0, none⟩) n6 c6) ns ∧ Below WB.heap.size WB (wr.setCell ⟨gb, y, none⟩ (.int .u8 1))) :=
                              ⟨hrl, hinv3.out.2.setCell (p := ⟨gb, y, none⟩) hgb _⟩
                            have HLT3 := Lib.hid hlt3
                            clear hinv3 hat hm hrl hlt3 hy
                            go_wp2
                            go_roundg (nk - (y + 1))
                            case measure => have := HLT3.out; omega
                            case rel => exact ⟨y + 1, rfl, HLT3.out, by go_num, NX⟩
                          · have s3 : ¬ (y : Int) < (nk : Int) := by omega
                            clear hat hlt3
                            go_wp2
                            go_roundg (n6 - (k + 1))
                            case measure => have := HLT.out; omega
                            case rel => exact ⟨k + 1, rfl, HLT.out, by go_num, hinv3.out, rfl⟩
                      · have s1 : ¬ (k : Int) < (n6 : Int) := by omega
                        have HV7 := Lib.hid (HPB.out.below hinv2.out.2)
                        clear hinv2 HR6 HB6 hlt2
                        go_wp2
                        go_meet
                        exact ⟨vb, ls, A7, c7, _, _, _, rfl, rfl, rfl, by have := HII.out; omega, HV7.out⟩
      case rest =>
        clear HPB x0 x1 x2 hkr hkk
        obtain ⟨vb2, ls2, A8, c8, sd2, s2, g2, rfl, rfl, rfl, hl2, hv9⟩ := hcut
        have HV9 := Lib.hid hv9.out
        have HL2 := Lib.hid hl2
        have hbl := hv9.out.bl
        have HB := Lib.hid (And.intro hbl.1 (Nat.le_trans hbl.2.1 (by decide : 99 ≤ 1000)))
        obtain ⟨q, hq⟩ : ∃ q, q = R - s2.used := ⟨_, rfl⟩
        obtain ⟨us, hus⟩ : ∃ us, us = s2.used := ⟨_, rfl⟩
        have hqw : wrap64 (R - us) = R - us := by have := HR.out; have := hbl.2.2; unfold wrap64; omega
        have HUS := Lib.hid hus
        clear hbl hv9 hl2 hq q hus HLM HSM HBT
        go_wp2_with (first
          | (go_at_call 21; (with_reducible refine (lv_used HV13.out).mono ?_); rintro e w14 ⟨rfl, hw14⟩; subst hw14; dsimp only; rw [← HUS.out])
          | (go_at_call 11; (with_reducible refine (lv_spare HV12.out).mono ?_); rintro e w13 ⟨rfl, hb13⟩; dsimp only; rw [← HUS.out]; have HV13 := Lib.hid (HV12.out.below hb13); clear hb13)
          | (go_at_call 15; (with_reducible refine (lv_same HX11.out HV11.out.hsA HB.out HB.out (decide_eq_true rfl)).mono ?_); rintro e w12 ⟨rfl, hb12⟩; dsimp only; have HV12 := Lib.hid (HV11.out.below hb12); clear hb12)
          | (go_at_call 16; (with_reducible refine (lv_all HV9.out).mono ?_); rintro e w11 ⟨A6, n6, c6, rfl, hr6, hb6⟩; dsimp only; have hr6' := (rowsO_toT (T' := fun _ => False) hr6 (fun _ h => h.elim)).toA; have HX11 := Lib.hid hr6'; have HV11 := Lib.hid (HV9.out.below hb6); clear hr6 hr6' hb6)
          | (go_at_call 20; (with_reducible refine (lv_len HV9.out).mono ?_); rintro e w10 ⟨rfl, hw10⟩; subst hw10; dsimp only)
          | (go_at_call 19; (with_reducible refine (lv_sound HV9.out).mono ?_); rintro e w10 ⟨rfl, hw10⟩; subst hw10; dsimp only))
        go_roundg (m0 - (i + 1))
        case measure => have := HII.out; omega
        case rel => exact ⟨i + 1, vb2, ls2, A8, c8, sd2, s2, g2, rfl, by have := HII.out; omega, rfl, rfl, rfl, by go_num, HL2.out, lv_drop HV13.out, rfl, rfl, rfl, rfl, rfl, rfl, rfl, rfl, rfl, rfl, rfl⟩
    · obtain rfl : i = m0 := by omega
      have HKN := Lib.hid (known_any wr)
      have HBW := Lib.hid hinv.out.bel
      clear hinv
      rcases hx0.out with ⟨hA, hA2⟩ | hA
      all_goals
        go_wp2_with (go_at_call 22; (with_reducible refine HKN.out.mono ?_); rintro e w8 ⟨rfl, hb⟩; dsimp only; have HB8 := Lib.hid hb; clear hb)
        go_ret
        exact ⟨rfl, HBW.out.trans (HB8.out.mono HBW.out.size)⟩
end Go.Proofs.YtjijgoflbjbnfaaGreat.Vt
