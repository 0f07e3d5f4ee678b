/-
  StoreCopies' law. Conditions: the calls lie in memory.
-/
import Derived.Test.YtbdocfnmlnnndaaSCps
import Derived.Test.YtbdocfnmlnnndaaSKnown
namespace Go.Proofs.Ytbdocfnmlnnndaa.Sr
open Go.RowKit Fr

set_option maxRecDepth 100000 in
set_option maxHeartbeats 8000000 in
theorem law_copies (w : World) (A0 : Option Addr) (n0 c0 m0 : Nat) (cs0 : List AcM) (h0 : ActsIn w A0 m0 cs0) (hm0 : m0 = min n0 30) (A1 : Option Addr) (n1 c1 m1 : Nat) (cs1 : List AcM) (h1 : ActsIn w A1 m1 cs1) (hm1 : m1 = min n1 30) :
    Calls Try.prog 7 #[.slice A0 n0 c0, .slice A1 n1 c1] w fun e w' => e = .returned (.bool true) ∧ Below w.heap.size w w' := by
  have HI0 := Lib.hid h0
  have HI1 := Lib.hid h1
  have hx0 : Hid ((m0 < n0 ∧ ¬ m0 < 30) ∨ ¬ m0 < n0) := by show _ ∨ _; omega
  have hx1 : Hid ((m1 < n1 ∧ ¬ m1 < 30) ∨ ¬ m1 < n1) := by show _ ∨ _; omega
  have l0 : m0 ≤ 30 := by omega
  have l1 : m1 ≤ 30 := by omega
  have l2 : m0 ≤ n0 := by omega
  have l3 : m1 ≤ n1 := by omega
  have HL0 := Lib.hid h0.1
  have HL1 := Lib.hid h1.1
  have hN := new_any w 500 (by decide) (by decide)
  obtain ⟨p, hp⟩ : ∃ p, p = w.heap.size := ⟨_, rfl⟩
  obtain ⟨st0, hst0⟩ : ∃ st0 : S × List Fi, st0 = (⟨false, 0, false, 500, 0⟩, []) := ⟨_, rfl⟩
  have HG0 : Hid (Good st0.2 0) := by rw [hst0]; exact ⟨List.Pairwise.nil, Nat.le_refl _, fun x hx => by cases hx⟩
  have hN2 : Calls Try.prog 8 #[.int .i64 500] w fun e w' => e = .returned (.tuple #[.pointer (some ⟨p, 0, none⟩), .int .i64 0]) ∧ Ru w' w' p none [] st0 ∧ Below w.heap.size w w' ∧ p < w'.heap.size := by
    rw [hp]
    refine hN.mono ?_
    rintro e w' ⟨rfl, a1, a2, a3⟩
    refine ⟨rfl, Ru.start ?_ ?_, a2, a3⟩
    · rw [hst0]; exact a1
    · rw [hst0]; exact Alike.refl _
  have HN := Lib.hid hN2
  have HO0 : Hid (∀ j, own p none [] j → w.heap.size ≤ j) := fun j hj => by rw [own_nil hj, hp]; exact Nat.le_refl _
  clear hN hN2 hp hst0 h0 h1 hm0 hm1
  go_enter Try.func7, Try.ntmps7
  go_upto_region 4 with (go_at_call 8; (with_reducible refine HN.out.mono ?_); rintro e w1 ⟨rfl, r1, b1, z1⟩; have HR1 := Lib.hid r1; have HB1 := Lib.hid b1; have HZ1 := Lib.hid z1; clear r1 b1 z1)
  clear HN
  go_wp2
  go_loopg [7] m0 (fun (gh : Nat) s7 wx => ∃ i : Nat, gh = m0 - i ∧ i ≤ m0 ∧ s7 = .int .i64 (i : Int) ∧ Hid (Ru w1 wx p none [] (rn st0 cs0 i)))
  case atStart => exact ⟨0, rfl, Nat.zero_le _, rfl, HR1.out⟩
  case round =>
    clear HR1
    obtain ⟨i, rfl, him, rfl, hinv⟩ := hrel
    by_cases hlt : i < m0
    · obtain ⟨a, ha⟩ : ∃ a, cs0[i]? = some a := ⟨_, List.getElem?_eq_getElem (by rw [HL0.out]; exact hlt)⟩
      obtain ⟨g, o, hA, ⟨d0, d1, d2, d3, d4⟩, hc⟩ := lap HI0.out l0 HG0.out ha HB1.out HO0.out hinv.out
      have HC := Lib.hid hc
      subst hA
      have t1 : (i : Int) < (n0 : Int) := by omega
      have t2 : (i : Int) < 30 := by omega
      have t3 : (0 : Int) ≤ (i : Int) := by omega
      clear hc ha hinv
      go_wp2_with (go_at_call 30; (with_reducible refine HC.out.mono ?_); rintro e w2 ⟨rfl, hr⟩; have HR2 := Lib.hid hr; clear hr)
      go_roundg (m0 - (i + 1))
      case measure => omega
      case rel => exact ⟨i + 1, rfl, by omega, by go_num, HR2.out⟩
    · obtain rfl : i = m0 := by omega
      obtain ⟨st1, hst1⟩ : ∃ st1, st1 = rn st0 cs0 i := ⟨_, rfl⟩
      have hr := hinv.out
      have hg1 := rn_good HG0.out cs0 i (by omega)
      rw [← hst1] at hr hg1
      have hbw : Below w.heap.size w wr := HB1.out.trans (hr.bel HO0.out HB1.out.size)
      obtain ⟨mbx, Lx, mv, al⟩ := hr
      have HSx := Lib.hid mv.st
      have HG1 := Lib.hid hg1
      have HOx : Hid (∀ j, own p mbx Lx j → w.heap.size ≤ j) := fun j hj => (mv.new j hj).elim (HO0.out j) (fun h2 => Nat.le_trans HB1.out.size h2)
      have HBw := Lib.hid hbw
      have HAL := Lib.hid al
      clear hinv hst1 hg1 hbw mv al HO0 HZ1 HB1 HG0 HL0
      rcases hx0.out with ⟨hA, hA2⟩ | hA
      all_goals
        go_upto_region 9 with (first
          | (go_at_call 21; (with_reducible refine (copy_all w3 p _ mbx Lx HS3.out).mono ?_); rintro e w4 ⟨rfl, mb4, L4, hc4⟩; have HC4 := Lib.hid hc4; clear hc4)
          | (go_at_call 21; (with_reducible refine (copy_all wr p _ mbx Lx HSx.out).mono ?_); rintro e w3 ⟨rfl, mb3, L3, hc3⟩; have HC3 := Lib.hid hc3; have HS3 := Lib.hid (HSx.out.below hc3.2.1); clear hc3))
        clear hA
        obtain ⟨q1, q2, q3, q4, q5, q6, q7, q8⟩ := two HSx.out HC3.out HC4.out
        have q9 : Below w.heap.size w w4 := HBw.out.trans (q4.mono HBw.out.size)
        have q10 : w.heap.size ≤ wr.heap.size := HBw.out.size
        clear q4 HC3 HC4 HS3 HSx HBw
        generalize wr.heap.size = p3 at q2 q7 q8 q10 ⊢
        generalize w3.heap.size = p4 at q3 q8 ⊢
        have HS := Lib.hid q1
        have HC := Lib.hid q2
        have HD := Lib.hid q3
        have HA3 := Lib.hid q5
        have HA4 := Lib.hid q6
        have HOs := Lib.hid q7
        have HOc := Lib.hid q8
        have HB4 := Lib.hid q9
        have HP3 := Lib.hid q10
        have HLx : Hid (Good Lx (0 + 30)) := good_alike HG1.out q1.keys HAL.out
        clear q1 q2 q3 q5 q6 q7 q8 q9 q10
        go_wp2
        go_loopg [10] m1 (fun (gh : Nat) s10 wx => ∃ i : Nat, gh = m1 - i ∧ i ≤ m1 ∧ s10 = .int .i64 (i : Int) ∧ Hid (Ru w4 wx p3 mb3 L3 (rn st1 cs1 i)))
        case atStart => exact ⟨0, rfl, Nat.zero_le _, rfl, Ru.start HC.out (HAL.out.trans HA3.out)⟩
        case round =>
          obtain ⟨j, rfl, hjm, rfl, hinv2⟩ := hrel
          have HOL : Hid (∀ j, own p3 mb3 L3 j → w.heap.size ≤ j) := fun j hj => Nat.le_trans HP3.out (HOc.out j hj).1
          by_cases hlt2 : j < m1
          · obtain ⟨a, ha⟩ : ∃ a, cs1[j]? = some a := ⟨_, List.getElem?_eq_getElem (by rw [HL1.out]; exact hlt2)⟩
            obtain ⟨g, o, hA, ⟨d0, d1, d2, d3, d4⟩, hc⟩ := lap HI1.out l1 HG1.out ha HB4.out HOL.out hinv2.out
            have HCL := Lib.hid hc
            subst hA
            have t1 : (j : Int) < (n1 : Int) := by omega
            have t2 : (j : Int) < 30 := by omega
            have t3 : (0 : Int) ≤ (j : Int) := by omega
            clear hc ha hinv2
            go_wp2_with (go_at_call 30; (with_reducible refine HCL.out.mono ?_); rintro e w5 ⟨rfl, hr⟩; have HR5 := Lib.hid hr; clear hr)
            go_roundg (m1 - (j + 1))
            case measure => omega
            case rel => exact ⟨j + 1, rfl, by omega, by go_num, HR5.out⟩
          · obtain rfl : j = m1 := by omega
            obtain ⟨st2, hst2⟩ : ∃ st2, st2 = rn st1 cs1 j := ⟨_, rfl⟩
            have hr := hinv2.out
            rw [← hst2] at hr
            have hs5 := HS.out.kept hr.off (fun k hk h => absurd (HOs.out k hk) (Nat.not_lt.2 (HOc.out k h).1))
            have hd5 := HD.out.kept hr.off (fun k hk h => (HOc.out k h).2.2 hk)
            have hb5 : Below w.heap.size w wr := HB4.out.trans (hr.bel HOL.out HB4.out.size)
            obtain ⟨mbc, Lc, mvc, alc⟩ := hr
            have hoc : ∀ k, own p3 mbc Lc k → p3 ≤ k := fun k hk => (mvc.new k hk).elim (fun h => (HOc.out k h).1) (fun h => Nat.le_trans (Nat.le_of_lt (HOc.out p3 (.inl rfl)).2.1) h)
            have hlk := alike_yes hs5 hd5 rfl rfl rfl HA4.out (by have := HLx.out.2.1; omega) HLx.out.2.2
            have HLK := Lib.hid hlk
            have HS5 := Lib.hid hs5
            have HC5 := Lib.hid mvc.st
            have HB5 := Lib.hid hb5
            have HOC := Lib.hid hoc
            have HALC := Lib.hid alc
            have HST2 := Lib.hid hst2
            clear hinv2 hst2 hs5 hd5 hb5 mvc alc hoc hlk HD HC HA3 HA4 HOc HOL HS HB4
            rcases hx1.out with ⟨hA, hA2⟩ | hA
            all_goals
              go_upto_region 17 with (go_at_call 31; (with_reducible refine HLK.out.mono ?_); rintro e w6 ⟨rfl, hb⟩; have HS6 := Lib.hid (HS5.out.below hb); have HC6 := Lib.hid (HC5.out.below hb); have HB6 := Lib.hid (HB5.out.trans (hb.mono HB5.out.size)); clear hb)
              clear HLK hA
              go_wp2
              go_loopg [11] j (fun (gh : Nat) s11 wx => ∃ i : Nat, gh = j - i ∧ i ≤ j ∧ s11 = .int .i64 (i : Int) ∧ Hid (Ru w6 wx p mbx Lx (rn st1 cs1 i)))
              case atStart => exact ⟨0, rfl, Nat.zero_le _, rfl, Ru.start HS6.out HAL.out⟩
              case round =>
                obtain ⟨k, rfl, hkm, rfl, hinv3⟩ := hrel
                by_cases hlt3 : k < j
                · obtain ⟨a, ha⟩ : ∃ a, cs1[k]? = some a := ⟨_, List.getElem?_eq_getElem (by rw [HL1.out]; exact hlt3)⟩
                  obtain ⟨g, o, hA, ⟨d0, d1, d2, d3, d4⟩, hc⟩ := lap HI1.out l1 HG1.out ha HB6.out HOx.out hinv3.out
                  have HCL := Lib.hid hc
                  subst hA
                  have t1 : (k : Int) < (n1 : Int) := by omega
                  have t2 : (k : Int) < 30 := by omega
                  have t3 : (0 : Int) ≤ (k : Int) := by omega
                  clear hc ha hinv3
                  go_wp2_with (go_at_call 30; (with_reducible refine HCL.out.mono ?_); rintro e w7 ⟨rfl, hr⟩; have HR7 := Lib.hid hr; clear hr)
                  go_roundg (j - (k + 1))
                  case measure => omega
                  case rel => exact ⟨k + 1, rfl, by omega, by go_num, HR7.out⟩
                · obtain rfl : k = j := by omega
                  have hr := hinv3.out
                  rw [← HST2.out] at hr
                  have hc7 := HC6.out.kept hr.off (fun i hi h => absurd (HOs.out i h) (Nat.not_lt.2 (HOC.out i hi)))
                  have hb7 : Below w.heap.size w wr := HB6.out.trans (hr.bel HOx.out HB6.out.size)
                  obtain ⟨mbs, Ls, mvs, als⟩ := hr
                  have hg2 := rn_good HG1.out cs1 k l1
                  rw [← HST2.out] at hg2
                  have hgs := good_alike hg2 mvs.st.keys als
                  have hlk : ∀ W, Below wr.heap.size wr W → Calls Try.prog 31 #[.pointer (some ⟨p, 0, none⟩), .pointer (some ⟨p3, 0, none⟩)] W fun e w' => e = .returned (.bool true) ∧ Below W.heap.size W w' := fun W hW =>
                    alike_yes (mvs.st.below hW) (hc7.below hW) rfl rfl rfl (als.symm.trans HALC.out) (by have := hgs.2.1; omega) hgs.2.2
                  have hkn := known_any wr
                  have HLK := Lib.hid hlk
                  have HKN := Lib.hid hkn
                  have HB7 := Lib.hid hb7
                  clear hinv3 hc7 hb7 mvs als hg2 hgs hlk hkn HC6 HS6 HALC HST2
                  rcases hx1.out with ⟨hA, hA2⟩ | hA
                  all_goals
                    go_wp2_with (first
                      | (go_at_call 31; (with_reducible refine (HLK.out _ HB8.out).mono ?_); rintro e w9 ⟨rfl, hb⟩; have HB9 := Lib.hid hb; clear hb)
                      | (go_at_call 25; (with_reducible refine HKN.out.mono ?_); rintro e w8 ⟨rfl, hb⟩; have HB8 := Lib.hid hb; clear hb))
                    go_ret
                    have k8 := HB7.out.trans (HB8.out.mono HB7.out.size)
                    exact ⟨rfl, k8.trans (HB9.out.mono k8.size)⟩
end Go.Proofs.Ytbdocfnmlnnndaa.Sr
