/-
  StoreDies' law. Conditions: none.
-/
import Derived.Test.YtbdocfnmlnnndaaSDie1
namespace Go.Proofs.Ytbdocfnmlnnndaa.Sr
open Go.RowKit Fr

set_option maxRecDepth 100000 in
set_option maxHeartbeats 4000000 in
theorem law_dies (w : World) (A0 : Option Addr) (n0 c0 : Nat) (l0 : List Int) (hw0 : BAt w (.slice A0 n0 c0) l0) (_ : bok l0) (A1 : Option Addr) (n1 c1 : Nat) (l1 : List Int) (hw1 : BAt w (.slice A1 n1 c1) l1) (_ : bok l1) (x : Int) :
    Calls Try.prog 4 #[.slice A0 n0 c0, .slice A1 n1 c1, .int .i64 x] w fun e w' => e = .returned (.bool true) ∧ Below w.heap.size w w' := by
  have hz0 := hw0.len
  have hz1 := hw1.len
  obtain ⟨m0, hm0⟩ : ∃ m0, m0 = min n0 100 := ⟨_, rfl⟩
  obtain ⟨m1, hm1⟩ : ∃ m1, m1 = min n1 100 := ⟨_, rfl⟩
  have hs0 := slice_to A0 n0 c0 m0 (by omega)
  have hs1 := slice_to A1 n1 c1 m1 (by omega)
  have hmin0 : min (n0 : Int) 100 = (m0 : Int) := by omega
  have hmin1 : min (n1 : Int) 100 = (m1 : Int) := by omega
  obtain ⟨lo, hlo⟩ : ∃ lo, lo = l0.take m0 := ⟨_, rfl⟩
  obtain ⟨lb, hlb⟩ : ∃ lb, lb = l1.take m1 := ⟨_, rfl⟩
  have hlo1 : lo.length = m0 := by rw [hlo, List.length_take]; omega
  have hlb1 : lb.length = m1 := by rw [hlb, List.length_take]; omega
  have hvo : ∀ W, Below w.heap.size w W → BAt W (.slice A0 m0 c0) lo := fun W hW => by
    rw [hlo]; exact (hw0.take m0 (by omega)).1.kept hW
  have hvb : ∀ W, Below w.heap.size w W → BAt W (.slice A1 m1 c1) lb := fun W hW => by
    rw [hlb]; exact (hw1.take m1 (by omega)).1.kept hW
  have hcap1 : m1 ≤ c1 := by omega
  have HVO := Lib.hid hvo
  have HVB := Lib.hid hvb
  have HLO := Lib.hid hlo1
  have HLB := Lib.hid hlb1
  have HM : Hid (m0 ≤ 100 ∧ m1 ≤ 100 ∧ m1 ≤ c1) := ⟨by omega, by omega, hcap1⟩
  have hu : 0 ≤ (IntKind.u64.wrap x).tmod 110 ∧ (IntKind.u64.wrap x).tmod 110 ≤ 109 := by
    have h1 : 0 ≤ IntKind.u64.wrap x := by rw [IntKind.wrap_u64]; omega
    rw [Int.tmod_eq_emod_of_nonneg h1]; omega
  obtain ⟨u, hu2⟩ : ∃ u : Nat, (IntKind.u64.wrap x).tmod 110 = (u : Int) := ⟨((IntKind.u64.wrap x).tmod 110).toNat, by omega⟩
  rw [hu2] at hu
  obtain ⟨u0, u1⟩ := hu
  clear hz0 hz1 hlo hlb hlo1 hlb1 hvo hvb hcap1 hw0 hw1 hm0 hm1
  go_enter Try.func4, Try.ntmps4
  go_upto_region 1 with fail
  refine wp_region_below (W := w) (by kernel_rfl) (by kernel_rfl) (Below.refl _ _) ?_
  repeat (go_big_quiet_step (fail))
  refine wpQuiet_nil ?_
  rintro _ ⟨q0, rfl⟩
  obtain ⟨wq, hbq⟩ := q0
  try dsimp only
  have HBQ := Lib.hid hbq
  clear hbq hs0 hs1 hmin0 hmin1
  go_upto_region 3 with fail
  clear hu2
  obtain ⟨p, hp⟩ : ∃ p, p = wq.heap.size := ⟨_, rfl⟩
  have hN := new_any wq 1000 (by decide) (by decide)
  rw [← hp] at hN
  have HN := Lib.hid hN
  have HP : Hid (w.heap.size ≤ p) := by show _ ≤ _; rw [hp]; exact HBQ.out.size
  have HPQ := Lib.hid hp
  have hm100 := HM.out.1
  clear hN hp
  go_upto_region 9 with (first
    | (go_at_call 21; (with_reducible refine (copy_any w4 p s0 b _ HS4.out).mono ?_); rintro e w5 ⟨rfl, mb5, L5, hc5⟩
       have HC5 := Lib.hid hc5
       clear hc5)
    | (go_at_call 21; (with_reducible refine (copy_any w3 p s0 b _ HS3.out).mono ?_); rintro e w4 ⟨rfl, mb4, L4, hc4⟩
       have HC4 := Lib.hid hc4
       have HS4 := Lib.hid (HS3.out.below hc4.2.1)
       clear hc4)
    | (go_at_call 21; (with_reducible refine (copy_any w2 p s0 b _ HS2.out).mono ?_); rintro e w3 ⟨rfl, mb3, L3, hc3⟩
       have HC3 := Lib.hid hc3
       have HS3 := Lib.hid (HS2.out.below hc3.2.1)
       clear hc3)
    | (go_at_call 11; (with_reducible refine (d_new w1 p lo A0 m0 c0 H1.out.1 hm100 HLO.out HV1.out).mono ?_); rintro e w2 ⟨rfl, b, v2, h2⟩
       obtain ⟨s0, hs0⟩ : ∃ s0 : S, s0 = ⟨false, 0, false, 1000, (m0 : Int)⟩ := ⟨_, rfl⟩
       rw [← hs0] at h2
       have HS0 := Lib.hid hs0
       have H2 := Lib.hid h2
       have HS2 := Lib.hid h2.st
       clear h2 hs0)
    | (go_at_call 8; (with_reducible refine HN.out.mono ?_); rintro e w1 ⟨rfl, h1⟩
       have H1 := Lib.hid h1
       have HV1 : Hid (∀ w', Off (own p none []) w1 w' → BAt w' (.slice A0 m0 c0) lo) := fun w' ho => HVO.out w' ((HBQ.out.trans ((H1.out.2.1.mono (by have := HPQ.out; omega)).mono HP.out)).trans (ho.below (fun i hi => by rw [own_nil hi]; exact HP.out) (by have := H1.out.2.2; have := HP.out; omega)))
       clear h1))
  obtain ⟨v3, v4, v5, e3, e4, e5, X3, X4, X5, B5, D3, D4, D5⟩ := three (w := w) (by
    have k1 : Below w.heap.size w w1 := HBQ.out.trans (H1.out.2.1.mono HP.out)
    exact k1.trans (H2.out.off.below (fun i hi => by rw [own_nil hi]; exact HP.out) (by have := H1.out.2.2; have := HP.out; omega))) HC3.out HC4.out HC5.out
  subst e3 e4 e5
  generalize w2.heap.size = p3 at X3 D3 ⊢
  generalize w3.heap.size = p4 at X4 D3 D4 ⊢
  generalize w4.heap.size = p5 at X5 D3 D4 D5 ⊢
  have HX3 := Lib.hid X3
  have HX4 := Lib.hid X4
  have HX5 := Lib.hid X5
  have HB5 := Lib.hid B5
  have HD3 := Lib.hid D3
  have HD4 := Lib.hid D4
  have HD5 := Lib.hid D5
  clear X3 X4 X5 B5 D3 D4 D5 HC3 HC4 HC5 HS2 HS3 HS4 HV1 H1 H2 HN HPQ
  obtain ⟨nn, hnn⟩ : ∃ nn, nn = min u m1 := ⟨_, rfl⟩
  obtain ⟨f, hf⟩ : ∃ f : Int, f = if nn = m1 then 0 else 14 := ⟨_, rfl⟩
  obtain ⟨q, hq⟩ : ∃ q : Bool, q = decide (nn = m1) := ⟨_, rfl⟩
  have HNN := Lib.hid hnn
  have HF := Lib.hid hf
  have HQ := Lib.hid hq
  have hminn : min (u : Int) (m1 : Int) = (nn : Int) := by omega
  obtain ⟨n8, hn8⟩ : ∃ n8, n8 = m0 + nn := ⟨_, rfl⟩
  have hlen8 : (lo ++ lb.take nn).length = n8 := by rw [List.length_append, List.length_take, HLO.out, HLB.out]; omega
  have HN8 := Lib.hid hn8
  have HL8 := Lib.hid hlen8
  have u2 : (u : Int) ≤ 200 := by omega
  clear hnn hf hq hlen8 hn8
  go_upto_region 13 with (first
    | (go_at_call 22; (with_reducible refine (read_one HL8.out H7.out.st).mono ?_); rintro e w8 ⟨A8, c8, rfl, hb8, hbel8⟩
       have HA8 := Lib.hid hb8
       have H8 := Lib.hid ((H6.out.trans H7.out).trans (Mv.of_below H7.out.st hbel8))
       have HS8 := Lib.hid (H7.out.st.below hbel8)
       clear hb8 hbel8)
    | (go_at_call 9; (with_reducible refine (d_app2 HNN.out HF.out HQ.out H6.out.st HLO2.out HM.out.2.1 HLB.out HV6.out).mono ?_); rintro e w7 ⟨rfl, s7, mb7, v7, hd7, h7⟩
       have H7 := Lib.hid h7
       have HD7 := Lib.hid hd7
       clear h7 hd7)
    | (go_at_call 19; (with_reducible refine (d_arm HX3.out HS0.out HLO.out u2).mono ?_); rintro e w6 ⟨rfl, h6⟩
       have H6 := Lib.hid h6
       have HLO2 : Hid (lo.length ≤ 100) := (by show _ ≤ _; rw [HLO.out]; exact HM.out.1)
       have HV6 : Hid (∀ w', Off (own p3 mb3 [(({ data := #[102] } : ByteArray), v3, lo)]) w6 w' → BAt w' (.slice A1 m1 c1) lb) := fun w' ho => HVB.out w' ((HB5.out.trans (H6.out.off.below (fun i hi => (HD3.out i hi).1) HB5.out.size)).trans (ho.below (fun i hi => (HD3.out i hi).1) (Nat.le_trans HB5.out.size H6.out.off.1.size)))
       clear h6))
  have hl8 := HA8.out.len
  have hm8 : m0 ≤ n8 ∧ n8 ≤ c8 ∧ nn ≤ m1 ∧ nn ≤ c1 := by
    have := HN8.out; have := HNN.out; have := HM.out
    omega
  obtain ⟨hm81, hm82, hm83, hm84⟩ := hm8
  have sl1 := slice_to A8 n8 c8 m0 (by omega)
  obtain ⟨A9, hA9, sl2⟩ := slice_from A8 n8 c8 m0 hm81 hm82
  have sl3 := slice_to A1 m1 c1 nn hm84
  have k8 : Below w.heap.size w w8 := HB5.out.trans (H8.out.off.below (fun i hi => (HD3.out i hi).1) HB5.out.size)
  have g1 := (HA8.out.take m0 hm81).1
  rw [List.take_left' HLO.out] at g1
  have g2 := HA8.out.from m0 hA9 hm81
  rw [List.drop_left' HLO.out] at g2
  have g3 := ((HVB.out w8 k8).take nn hm83).1
  have g4 := HVO.out w8 k8
  have hsm1 : ∀ qq : InW w8, Calls Try.prog 26 #[.slice A8 m0 c8, .slice A0 m0 c0] qq.val fun e w'' => e = .returned (.bool true) ∧ ∃ q' : InW w8, w'' = q'.val := fun qq =>
    calls_in (same_eq qq.val _ _ lo (g1.kept qq.bel) (g4.kept qq.bel) (by rw [HLO.out]; have := HM.out; omega))
  have hsm2 : ∀ qq : InW w8, Calls Try.prog 26 #[.slice A9 (n8 - m0) (c8 - m0), .slice A1 nn c1] qq.val fun e w'' => e = .returned (.bool true) ∧ ∃ q' : InW w8, w'' = q'.val := fun qq =>
    calls_in (same_eq qq.val _ _ (lb.take nn) (g2.kept qq.bel) (g3.kept qq.bel) (by rw [List.length_take, HLB.out]; have := HM.out; omega))
  have hdn : ∀ qq : InW w8, Calls Try.prog 27 #[.pointer (some ⟨p3, 0, none⟩)] qq.val fun e w'' => e = .returned (.bool (!q)) ∧ ∃ q' : InW w8, w'' = q'.val := fun qq => by
    refine calls_in ((down_own qq.val p3 s7 mb7 (HS8.out.below qq.bel).blk).mono ?_)
    rintro e w' ⟨rfl, rfl⟩
    exact ⟨by rw [HD7.out], Below.refl _ _⟩
  have b1 : ((n8 : Int) != (m0 : Int) + (nn : Int)) = false := by have := HN8.out; simp; omega
  have b2 : (f == 0) = q := by rw [HF.out, HQ.out]; by_cases h : nn = m1 <;> simp [h]
  have b3 : (f != 0) = !q := by rw [HF.out, HQ.out]; by_cases h : nn = m1 <;> simp [h]
  have b4 : ((nn : Int) == (m1 : Int)) = q := by rw [HQ.out]; by_cases h : nn = m1 <;> simp [h]; omega
  have y0 : (0 : Int) ≤ (m0 : Int) := by omega
  have y1 : (m0 : Int) ≤ 100 := by omega
  have y2 : (0 : Int) ≤ (nn : Int) := by omega
  have y3 : (nn : Int) ≤ 100 := by have := HM.out; omega
  have K8 := Lib.hid k8
  clear hl8 hm81 hm82 hm83 hm84 hA9 g1 g2 g3 g4 k8 hminn
  refine wp_region_below (W := w8) (by kernel_rfl) (by kernel_rfl) (Below.refl _ _) ?_
  repeat (go_big_quiet_step ((first | (go_at_call 26; with_reducible exact hsm1 _) | (go_at_call 26; with_reducible exact hsm2 _) | (go_at_call 27; with_reducible exact hdn _))))
  refine wpQuiet_nil ?_
  rintro _ ⟨qq, rfl⟩
  obtain ⟨w9, hb9⟩ := qq
  try dsimp only
  have HX : Hid (Mv w5 w9 p3 mb3 [(({ data := #[102] } : ByteArray), v3, lo)] s7 mb7 [(({ data := #[102] } : ByteArray), v7, lo ++ lb.take nn)]) := H8.out.trans (Mv.of_below HS8.out hb9)
  have HY4 : Hid (StR w9 p4 s0 mb4 [(({ data := #[102] } : ByteArray), v4, lo)]) := HX4.out.kept HX.out.off (fun i hi h => (HD3.out i h).2.1 hi)
  have HY5 : Hid (StR w9 p5 s0 mb5 [(({ data := #[102] } : ByteArray), v5, lo)]) := HX5.out.kept HX.out.off (fun i hi h => (HD3.out i h).2.2 hi)
  have HB9 : Hid (Below w.heap.size w w9) := HB5.out.trans (HX.out.off.below (fun i hi => (HD3.out i hi).1) HB5.out.size)
  obtain ⟨r, hr⟩ : ∃ r, r = u % 2 := ⟨_, rfl⟩
  obtain ⟨q2, hq2⟩ : ∃ q2 : Bool, q2 = decide (u % 2 = 1) := ⟨_, rfl⟩
  obtain ⟨f2, hf2⟩ : ∃ f2 : Int, f2 = if q2 = true then 0 else 14 := ⟨_, rfl⟩
  have r1 : (u : Int) % 2 = (r : Int) := by omega
  have r2 : (u : Int).tmod 2 = (r : Int) := by rw [Int.tmod_eq_emod_of_nonneg u0]; exact r1
  have r3 : (r : Int) ≤ 200 := by omega
  have b5 : (f2 == 0) = q2 := by rw [hf2]; cases q2 <;> rfl
  have HR := Lib.hid hr
  have HQ2 := Lib.hid hq2
  have HF2 := Lib.hid hf2
  have hkn := fun W => known_any W
  have HK := Lib.hid hkn
  clear b1 b2 b3 b4 hsm1 hsm2 hdn sl1 sl2 sl3 hr hq2 hf2 hb9 hkn
  by_cases hu0 : u = 0
  · have HU0 := Lib.hid hu0
    have i1 : ((u : Int) == 0) = true := by simp; omega
    have hzz : (arS u lo.length) = arS 0 lo.length := by rw [hu0]
    have HZZ := Lib.hid hzz
    clear hu0 hzz
    go_upto_region 18 with (first
      | (go_at_call 22; (with_reducible refine (read_one HLO.out H11.out.st).mono ?_); rintro e w12 ⟨A12, c12, rfl, hb12, hbel12⟩
         have HA12 := Lib.hid hb12
         have H12 := Lib.hid ((H10.out.trans H11.out).trans (Mv.of_below H11.out.st hbel12))
         clear hb12 hbel12)
      | (go_at_call 11; (with_reducible refine (d_wri0 w10 p4 mb4 v4 lo A1 m1 c1 HS10.out HLO2.out HM.out.2.1).mono ?_); rintro e w11 ⟨rfl, s11, h11⟩
         have H11 := Lib.hid h11
         clear h11)
      | (go_at_call 19; (with_reducible refine (d_arm HY4.out HS0.out HLO.out u2).mono ?_); rintro e w10 ⟨rfl, h10⟩
         have H10 := Lib.hid h10
         have HS10 : Hid (StR w10 p4 (arS 0 lo.length) mb4 [(({ data := #[102] } : ByteArray), v4, lo)]) := (by show StR _ _ _ _ _; rw [← HZZ.out]; exact h10.st)
         clear h10))
    have K12 : Hid (Below w.heap.size w w12) := HB9.out.trans (H12.out.off.below (fun i hi => (HD4.out i hi).1) HB9.out.size)
    have hsm3 := same_eq w12 (.slice A12 m0 c12) (.slice A0 m0 c0) lo HA12.out (HVO.out w12 K12.out) (by have := HM.out; rw [HLO.out]; omega)
    have HSM3 := Lib.hid hsm3
    clear hsm3
    go_upto_region 24 with (go_at_call 26; (with_reducible refine HSM3.out.mono ?_); rintro e w13 ⟨rfl, hb13⟩; have HB13 := Lib.hid hb13; clear hb13)
    have HYY : Hid (Mv w9 w13 p4 mb4 [(({ data := #[102] } : ByteArray), v4, lo)] _ _ _) := H12.out.trans (Mv.of_below H12.out.st HB13.out)
    have HZ5 : Hid (StR w13 p5 s0 mb5 [(({ data := #[102] } : ByteArray), v5, lo)]) := HY5.out.kept HYY.out.off (fun i hi h => (HD4.out i h).2 hi)
    have HB14 : Hid (Below w.heap.size w w13) := HB9.out.trans (HYY.out.off.below (fun i hi => (HD4.out i hi).1) HB9.out.size)
    go_upto_region 28 with (first
      | (go_at_call 22; (with_reducible refine (read_two HR15.out.2.1 HS16.out).mono ?_); rintro e w17 ⟨A17, n17, c17, rfl, hb17, hn17, hbel17⟩
         have HA17 := Lib.hid hb17
         have H17 := Lib.hid (H16.out.trans (Mv.of_below HS16.out hbel17))
         clear hb17 hbel17 hn17)
      | (go_at_call 22; (with_reducible refine (read_two HR15.out.1 H15.out.st).mono ?_); rintro e w16 ⟨A16, n16, c16, rfl, hb16, hn16, hbel16⟩
         have HS16 := Lib.hid (H15.out.st.below hbel16)
         have H16 := Lib.hid ((H14.out.trans H15.out).trans (Mv.of_below H15.out.st hbel16))
         clear hb16 hbel16 hn16)
      | (go_at_call 15; (with_reducible refine (d_ren2 HR.out HQ2.out HF2.out H14.out.st).mono ?_); rintro e w15 ⟨rfl, s15, mb15, L15, h15, hr15⟩
         have H15 := Lib.hid h15
         have HR15 := Lib.hid hr15
         clear h15 hr15)
      | (go_at_call 19; (with_reducible refine (d_arm HZ5.out HS0.out HLO.out r3).mono ?_); rintro e w14 ⟨rfl, h14⟩
         have H14 := Lib.hid h14
         clear h14))
    have HB17 : Hid (Below w.heap.size w w17) := HB14.out.trans (H17.out.off.below (fun i hi => HD5.out i hi) HB14.out.size)
    clear r1 r2 r3
    cases q2
    · go_wp2_with (go_at_call 25; (with_reducible refine (HK.out _).mono ?_); rintro e w18 ⟨rfl, hb18⟩; have HB18 := Lib.hid hb18; clear hb18)
      go_ret
      exact ⟨rfl, HB17.out.trans (HB18.out.mono HB17.out.size)⟩
    · have hA : BAt w17 (.slice A17 n17 c17) lo := by
        have := HA17.out
        rw [HR15.out.2.2 rfl] at this; exact this
      have hsm5 : ∀ W, Below w17.heap.size w17 W → Calls Try.prog 26 #[.slice A17 n17 c17, .slice A0 m0 c0] W fun e w' => e = .returned (.bool true) ∧ Below W.heap.size W w' := fun W hW =>
        same_eq W _ _ lo (hA.kept hW) (HVO.out W (HB17.out.trans (hW.mono HB17.out.size))) (by have := HM.out; rw [HLO.out]; omega)
      have HSM5 := Lib.hid hsm5
      clear hA hsm5
      go_wp2_with (first
        | (go_at_call 26; (with_reducible refine (HSM5.out _ HB18.out).mono ?_); rintro e w19 ⟨rfl, hb19⟩; have HB19 := Lib.hid hb19; clear hb19)
        | (go_at_call 25; (with_reducible refine (HK.out _).mono ?_); rintro e w18 ⟨rfl, hb18⟩; have HB18 := Lib.hid hb18; clear hb18))
      go_ret
      have k18 := HB17.out.trans (HB18.out.mono HB17.out.size)
      exact ⟨rfl, k18.trans (HB19.out.mono k18.size)⟩
  · have i1 : ((u : Int) == 0) = false := by simp; omega
    have hpos : 0 < u := by omega
    obtain ⟨mm, hmm⟩ : ∃ mm, mm = min (u - 1) m1 := ⟨_, rfl⟩
    obtain ⟨f3, hf3⟩ : ∃ f3 : Int, f3 = if mm = m1 then 0 else 14 := ⟨_, rfl⟩
    have j1 : min ((u : Int) - 1) (m1 : Int) = (mm : Int) := by omega
    have j2 : (f3 == 0) = decide (mm = m1) := by rw [hf3]; by_cases h : mm = m1 <;> simp [h]
    have j3 : ((mm : Int) == (m1 : Int)) = decide (mm = m1) := by by_cases h : mm = m1 <;> simp [h]; omega
    obtain ⟨q3, hq3⟩ : ∃ q3 : Bool, q3 = decide (mm = m1) := ⟨_, rfl⟩
    rw [← hq3] at j2 j3
    have hmc : mm ≤ m1 ∧ mm ≤ c1 := by have := HM.out; omega
    have sl4 := slice_to A1 m1 c1 mm hmc.2
    have HMM := Lib.hid hmm
    have HF3 := Lib.hid hf3
    have HPOS := Lib.hid hpos
    have HMC := Lib.hid hmc
    have HLT : Hid ((lb.take mm).length = mm) := by show _ = _; rw [List.length_take, HLB.out]; omega
    clear hu0 hmm hf3 hq3 hpos hmc
    go_upto_region 18 with (first
      | (go_at_call 22; (with_reducible refine (read_one HLT.out H11.out.st).mono ?_); rintro e w12 ⟨A12, c12, rfl, hb12, hbel12⟩
         have HA12 := Lib.hid hb12
         have H12 := Lib.hid ((H10.out.trans H11.out).trans (Mv.of_below H11.out.st hbel12))
         clear hb12 hbel12)
      | (go_at_call 11; (with_reducible refine (d_wri2 HMM.out HF3.out H10.out.st HLO2.out HM.out.2.1 HLB.out HPOS.out HV10.out).mono ?_); rintro e w11 ⟨rfl, s11, mb11, v11, h11⟩
         have H11 := Lib.hid h11
         clear h11)
      | (go_at_call 19; (with_reducible refine (d_arm HY4.out HS0.out HLO.out u2).mono ?_); rintro e w10 ⟨rfl, h10⟩
         have H10 := Lib.hid h10
         have HV10 : Hid (∀ w', Off (own p4 mb4 [(({ data := #[102] } : ByteArray), v4, lo)]) w10 w' → BAt w' (.slice A1 m1 c1) lb) := fun w' ho => HVB.out w' ((HB9.out.trans (H10.out.off.below (fun i hi => (HD4.out i hi).1) HB9.out.size)).trans (ho.below (fun i hi => (HD4.out i hi).1) (Nat.le_trans HB9.out.size H10.out.off.1.size)))
         clear h10))
    have K12 : Hid (Below w.heap.size w w12) := HB9.out.trans (H12.out.off.below (fun i hi => (HD4.out i hi).1) HB9.out.size)
    have hsm3 := same_eq w12 (.slice A12 mm c12) (.slice A1 mm c1) (lb.take mm) HA12.out ((HVB.out w12 K12.out).take mm HMC.out.1).1 (by have := HM.out; have := HMC.out; rw [HLT.out]; omega)
    have HSM3 := Lib.hid hsm3
    clear hsm3
    go_upto_region 24 with (go_at_call 26; (with_reducible refine HSM3.out.mono ?_); rintro e w13 ⟨rfl, hb13⟩; have HB13 := Lib.hid hb13; clear hb13)
    have HYY : Hid (Mv w9 w13 p4 mb4 [(({ data := #[102] } : ByteArray), v4, lo)] _ _ _) := H12.out.trans (Mv.of_below H12.out.st HB13.out)
    have HZ5 : Hid (StR w13 p5 s0 mb5 [(({ data := #[102] } : ByteArray), v5, lo)]) := HY5.out.kept HYY.out.off (fun i hi h => (HD4.out i h).2 hi)
    have HB14 : Hid (Below w.heap.size w w13) := HB9.out.trans (HYY.out.off.below (fun i hi => (HD4.out i hi).1) HB9.out.size)
    go_upto_region 28 with (first
      | (go_at_call 22; (with_reducible refine (read_two HR15.out.2.1 HS16.out).mono ?_); rintro e w17 ⟨A17, n17, c17, rfl, hb17, hn17, hbel17⟩
         have HA17 := Lib.hid hb17
         have H17 := Lib.hid (H16.out.trans (Mv.of_below HS16.out hbel17))
         clear hb17 hbel17 hn17)
      | (go_at_call 22; (with_reducible refine (read_two HR15.out.1 H15.out.st).mono ?_); rintro e w16 ⟨A16, n16, c16, rfl, hb16, hn16, hbel16⟩
         have HS16 := Lib.hid (H15.out.st.below hbel16)
         have H16 := Lib.hid ((H14.out.trans H15.out).trans (Mv.of_below H15.out.st hbel16))
         clear hb16 hbel16 hn16)
      | (go_at_call 15; (with_reducible refine (d_ren2 HR.out HQ2.out HF2.out H14.out.st).mono ?_); rintro e w15 ⟨rfl, s15, mb15, L15, h15, hr15⟩
         have H15 := Lib.hid h15
         have HR15 := Lib.hid hr15
         clear h15 hr15)
      | (go_at_call 19; (with_reducible refine (d_arm HZ5.out HS0.out HLO.out r3).mono ?_); rintro e w14 ⟨rfl, h14⟩
         have H14 := Lib.hid h14
         clear h14))
    have HB17 : Hid (Below w.heap.size w w17) := HB14.out.trans (H17.out.off.below (fun i hi => HD5.out i hi) HB14.out.size)
    clear r1 r2 r3
    cases q2
    · go_wp2_with (go_at_call 25; (with_reducible refine (HK.out _).mono ?_); rintro e w18 ⟨rfl, hb18⟩; have HB18 := Lib.hid hb18; clear hb18)
      go_ret
      exact ⟨rfl, HB17.out.trans (HB18.out.mono HB17.out.size)⟩
    · have hA : BAt w17 (.slice A17 n17 c17) lo := by
        have := HA17.out
        rw [HR15.out.2.2 rfl] at this; exact this
      have hsm5 : ∀ W, Below w17.heap.size w17 W → Calls Try.prog 26 #[.slice A17 n17 c17, .slice A0 m0 c0] W fun e w' => e = .returned (.bool true) ∧ Below W.heap.size W w' := fun W hW =>
        same_eq W _ _ lo (hA.kept hW) (HVO.out W (HB17.out.trans (hW.mono HB17.out.size))) (by have := HM.out; rw [HLO.out]; omega)
      have HSM5 := Lib.hid hsm5
      clear hA hsm5
      go_wp2_with (first
        | (go_at_call 26; (with_reducible refine (HSM5.out _ HB18.out).mono ?_); rintro e w19 ⟨rfl, hb19⟩; have HB19 := Lib.hid hb19; clear hb19)
        | (go_at_call 25; (with_reducible refine (HK.out _).mono ?_); rintro e w18 ⟨rfl, hb18⟩; have HB18 := Lib.hid hb18; clear hb18))
      go_ret
      have k18 := HB17.out.trans (HB18.out.mono HB17.out.size)
      exact ⟨rfl, k18.trans (HB19.out.mono k18.size)⟩
end Go.Proofs.Ytbdocfnmlnnndaa.Sr
