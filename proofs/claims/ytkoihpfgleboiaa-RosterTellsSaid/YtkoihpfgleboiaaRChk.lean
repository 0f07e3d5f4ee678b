/-
  The contract of the reference's Check. Conditions: none.
-/
import Derived.Test.YtkoihpfgleboiaaRMath
import Derived.Test.YtkoihpfgleboiaaRTo
namespace Go.Proofs.Ytkoihpfgleboiaa.Ro
open Go.RowKit Tb

set_option maxRecDepth 100000 in
set_option maxHeartbeats 8000000 in
theorem rcheck_any (w : World) (n : Int) (A : Option Addr) (c1 : Nat) (ss : List ByteArray) (B : Option Addr) (c2 : Nat) (ms : List (ByteArray × Int)) (hs : SRd w A ss) (hm : MRd w B ms) {r : Int} (hr : Hid (r = newE n ss ms)) :
    Calls Try.prog 10 #[.agg #[.int .i64 n, .slice A ss.length c1, .slice B ms.length c2]] w fun e w' => e = .returned (.int .i64 r) ∧ Below w.heap.size w w' := by
  have hbx := block_new w (.cells #[.int .i64 n, .slice A ss.length c1, .slice B ms.length c2] 25)
  have hB0 : Below w.heap.size w (w.alloc (.cells #[.int .i64 n, .slice A ss.length c1, .slice B ms.length c2] 25)) := (Below.refl _ _).alloc (Nat.le_refl _) _
  have HBX := Lib.hid hbx
  have HB0 := Lib.hid hB0
  obtain ⟨⟨x0, x1, x2⟩, _⟩ := blk3 hbx
  have hr' := hr.out
  unfold newE at hr'
  clear hr hbx hB0
  by_cases h1 : n < 1
  · rw [if_pos (.inl h1)] at hr'
    subst hr'
    clear hs hm
    go_enter Try.func10, Try.ntmps10
    go_wp2
    go_ret
    exact ⟨rfl, HB0.out⟩
  by_cases h2 : 3 < n
  · rw [if_pos (.inr h2)] at hr'
    subst hr'
    clear hs hm
    go_enter Try.func10, Try.ntmps10
    go_wp2
    go_ret
    exact ⟨rfl, HB0.out⟩
  rw [if_neg (by omega)] at hr'
  by_cases h3 : 32 < ss.length
  · rw [if_pos (.inl h3)] at hr'
    subst hr'
    have h3' : (32 : Int) < (ss.length : Int) := by omega
    clear hs hm
    go_enter Try.func10, Try.ntmps10
    go_wp2
    go_ret
    exact ⟨rfl, HB0.out⟩
  by_cases h4 : 64 < ms.length
  · rw [if_pos (.inr h4)] at hr'
    subst hr'
    have h3' : ¬ (32 : Int) < (ss.length : Int) := by omega
    have h4' : (64 : Int) < (ms.length : Int) := by omega
    clear hs hm
    go_enter Try.func10, Try.ntmps10
    go_wp2
    go_ret
    exact ⟨rfl, HB0.out⟩
  rw [if_neg (by omega)] at hr'
  have HR := Lib.hid hr'
  have l3 : ss.length ≤ 32 := by omega
  have l4 : ms.length ≤ 64 := by omega
  have h3' : ¬ (32 : Int) < (ss.length : Int) := by omega
  have h4' : ¬ (64 : Int) < (ms.length : Int) := by omega
  obtain ⟨W0, hW0⟩ : ∃ W0, W0 = w.alloc (.cells #[.int .i64 n, .slice A ss.length c1, .slice B ms.length c2] 25) := ⟨_, rfl⟩
  have HS : Hid (SRd W0 A ss) := by rw [hW0]; exact hs.below HB0.out
  have HM : Hid (MRd W0 B ms) := by rw [hW0]; exact hm.below HB0.out
  rw [← hW0] at HBX HB0
  clear hr' hs hm h3 h4
  go_enter Try.func10, Try.ntmps10
  go_wp2
  rw [← hW0]
  rw [← hW0] at x0 x1 x2
  clear hW0
  go_loopg [3] ss.length (fun (gh : Nat) si wx => ∃ i : Nat, gh = ss.length - i ∧ i ≤ ss.length ∧ si = .int .i64 (i : Int) ∧ Hid (Below W0.heap.size W0 wx ∧ goI (isL (ss.take i)) (ss.drop i) = goI [] ss))
  case atStart => exact ⟨0, rfl, Nat.zero_le _, rfl, Below.refl _ _, rfl⟩
  case round =>
    clear x0 x1 x2
    obtain ⟨i, rfl, hi, rfl, hinv⟩ := hrel
    have hbel := hinv.out.1
    obtain ⟨⟨x0, x1, x2⟩, _⟩ := blk3 (block_kept HBX.out hbel)
    by_cases hlt : i < ss.length
    · obtain ⟨s, hs⟩ : ∃ s, ss[i]? = some s := ⟨_, List.getElem?_eq_getElem hlt⟩
      rcases HS.out with h0 | ⟨g, o, rfl, hg, hcell⟩
      · rw [h0] at hs; simp at hs
      have HCELL := Lib.hid hcell
      have c1' := (hbel.cell (p := ⟨g, o + i, none⟩) hg).trans (hcell i s hs)
      have hst := goI_step (isL (ss.take i)) hs
      rw [hinv.out.2] at hst
      have HST := Lib.hid hst
      have HT := Lib.hid (isL_step hs)
      have HI := Lib.hid (Id.refIsin_all wr s)
      have HB := Lib.hid hbel
      have t1 : (i : Int) < (ss.length : Int) := by omega
      have t2 : (0 : Int) ≤ (i : Int) := by omega
      have hEbad := fun h => listE_bad (I := isL (ss.take i)) (s := s) h
      have hEtwo := fun h h2 => listE_two (I := isL (ss.take i)) (s := s) h h2
      have hEok := fun h h2 => listE_ok (I := isL (ss.take i)) (s := s) h h2
      obtain ⟨q, hq⟩ : ∃ q, q = Id.isinN (Id.sb s) := ⟨_, rfl⟩
      rw [← hq] at HI hEbad hEtwo hEok
      have HEB := Lib.hid hEbad
      have HET := Lib.hid hEtwo
      have HEO := Lib.hid hEok
      have HSI := Lib.hid hs
      clear hst hq hEbad hEtwo hEok hcell hbel hinv hs
      by_cases hz : q = 0
      · have hz' : (q != 0) = false := by simpa using hz
        go_wp2_with (go_at_call 30; refine HI.out.mono ?_; rintro e w2 ⟨rfl, hb2⟩; have HB2 := Lib.hid (HB.out.trans (hb2.mono HB.out.size)); clear hb2)
        clear x0 x1 x2 c1'
        go_loopg [5] i (fun (gh : Nat) sk wx => ∃ k : Nat, gh = i - k ∧ k ≤ i ∧ sk = .int .i64 (k : Int) ∧ Hid (Below W0.heap.size W0 wx ∧ ∀ j, j < k → ss[j]? ≠ some s))
        case atStart => exact ⟨0, rfl, Nat.zero_le _, rfl, HB2.out, fun j h => by omega⟩
        case round =>
          obtain ⟨k, rfl, hk, rfl, hinv⟩ := hrel
          have hbel := hinv.out.1
          obtain ⟨⟨x0, x1, x2⟩, _⟩ := blk3 (block_kept HBX.out hbel)
          by_cases hki : k < i
          · obtain ⟨t, ht⟩ : ∃ t, ss[k]? = some t := ⟨_, List.getElem?_eq_getElem (by omega)⟩
            have d1 := (hbel.cell (p := ⟨g, o + i, none⟩) hg).trans (HCELL.out i s HSI.out)
            have d2 := (hbel.cell (p := ⟨g, o + k, none⟩) hg).trans (HCELL.out k t ht)
            have t3 : (k : Int) < (i : Int) := by omega
            have t4 : (0 : Int) ≤ (k : Int) := by omega
            have t5 : (k : Int) < (ss.length : Int) := by omega
            have HBK := Lib.hid hbel
            have HNO := Lib.hid hinv.out.2
            have HTK := Lib.hid ht
            clear ht hbel hinv
            by_cases hts : t = s
            · have e1 : (t.toList == s.toList) = true := by rw [beqS]; exact decide_eq_true hts
              have HRR : Hid (r = 6) := by
                show _ = _
                have h6 := HET.out hz ((has_isL_take ss i s).2 ⟨k, hki, by rw [HTK.out, hts]⟩)
                have h1 := HST.out
                rw [h6, if_neg (by decide)] at h1
                rw [HR.out, if_neg (by rw [h1]; decide), h1]
              clear hts
              go_wp2_with fail
              go_quiet (fail)
              go_wp2
              go_ret
              rw [HRR.out]
              exact ⟨rfl, HB0.out.trans ((below_drewN HBK.out _).mono HB0.out.size)⟩
            · have e1 : (t.toList == s.toList) = false := by rw [beqS]; exact decide_eq_false hts
              have HNX : Hid (∀ j, j < k + 1 → ss[j]? ≠ some s) := fun j hj h => by
                rcases Nat.lt_or_ge j k with h1 | h1
                · exact HNO.out j h1 h
                · have : j = k := by omega
                  subst this
                  rw [HTK.out] at h
                  exact hts (Option.some.inj h)
              clear hts
              go_wp2_with fail
              go_quiet (fail)
              go_wp2
              go_roundg (i - (k + 1))
              case measure => omega
              case rel => exact ⟨k + 1, rfl, by omega, by go_num, below_drewN HBK.out _, HNX.out⟩
          · obtain rfl : k = i := by omega
            have HBK := Lib.hid hbel
            have hno : hasB (isL (ss.take k)) s = false := by
              cases h : hasB (isL (ss.take k)) s
              · rfl
              · obtain ⟨j, hj, e⟩ := (has_isL_take ss k s).1 h
                exact absurd e (hinv.out.2 j hj)
            have HE0 := Lib.hid (HEO.out hz hno)
            clear hno hbel hinv
            go_wp2
            go_roundg (ss.length - (k + 1))
            case measure => omega
            case rel => exact ⟨k + 1, rfl, by omega, by go_num, HBK.out, by rw [HT.out, HST.out, if_pos HE0.out]⟩
      · have hz' : (q != 0) = true := by simpa using hz
        have HRR : Hid (r = q) := by
          show _ = _
          have h6 := HEB.out hz
          have h1 := HST.out
          rw [h6, if_neg hz] at h1
          rw [HR.out, if_neg (by rw [h1]; exact hz), h1]
        go_wp2_with (go_at_call 30; refine HI.out.mono ?_; rintro e w2 ⟨rfl, hb2⟩; have HB2 := Lib.hid (HB.out.trans (hb2.mono HB.out.size)); clear hb2)
        go_ret
        rw [HRR.out]
        exact ⟨rfl, HB0.out.trans (HB2.out.mono HB0.out.size)⟩
    · obtain rfl : i = ss.length := by omega
      have hx := hinv.out.2
      rw [List.take_of_length_le (Nat.le_refl _), List.drop_of_length_le (Nat.le_refl _)] at hx
      have hz : goI [] ss = 0 := hx.symm
      have HR2 : Hid (r = goM n [] ms) := by show _ = _; rw [HR.out, if_pos hz]
      have HB1 := Lib.hid hbel
      clear hx hz hinv hbel HR
      go_wp2
      clear x0 x1 x2
      go_loopg [6] ms.length (fun (gh : Nat) si wx => ∃ i : Nat, gh = ms.length - i ∧ i ≤ ms.length ∧ si = .int .i64 (i : Int) ∧ Hid (Below W0.heap.size W0 wx ∧ goM n (meL (ms.take i)) (ms.drop i) = goM n [] ms))
      case atStart => exact ⟨0, rfl, Nat.zero_le _, rfl, HB1.out, rfl⟩
      case round =>
        obtain ⟨i, rfl, hi, rfl, hinv⟩ := hrel
        have hbel := hinv.out.1
        obtain ⟨⟨x0, x1, x2⟩, _⟩ := blk3 (block_kept HBX.out hbel)
        by_cases hlt : i < ms.length
        · obtain ⟨m, hm⟩ : ∃ m, ms[i]? = some m := ⟨_, List.getElem?_eq_getElem hlt⟩
          rcases HM.out with h0 | ⟨g, o, rfl, hg, hcell⟩
          · rw [h0] at hm; simp at hm
          have HCELL := Lib.hid hcell
          have hcm := hcell i m hm
          have c1' := (hbel.cell (p := ⟨g, o + i * 2, none⟩) hg).trans hcm.1
          have c2' := (hbel.cell (p := ⟨g, o + i * 2 + 1, none⟩) hg).trans hcm.2
          have hst := goM_step n (meL (ms.take i)) hm
          rw [hinv.out.2] at hst
          have HST := Lib.hid hst
          have HT := Lib.hid (meL_step hm)
          have hBx : Below wr.heap.size wr (wr.alloc (.cells #[.string m.1, .int .i64 m.2] 63)) := (Below.refl _ _).alloc (Nat.le_refl _) _
          have HB : Hid (Below W0.heap.size W0 (wr.alloc (.cells #[.string m.1, .int .i64 m.2] 63))) := hbel.trans (hBx.mono hbel.size)
          have HMX := Lib.hid (block_new wr (.cells #[.string m.1, .int .i64 m.2] 63))
          have HI := Lib.hid (Id.refMember_all (wr.alloc (.cells #[.string m.1, .int .i64 m.2] 63)) m.1)
          have m0 := (mem_cells HMX.out).1
          have t1 : (i : Int) < (ms.length : Int) := by omega
          have t2 : (0 : Int) ≤ (i : Int) := by omega
          have hEbad := fun h => admitE_bad (n := n) (M := meL (ms.take i)) (m := m) h
          have hEtwo := fun h h2 => admitE_two (n := n) (M := meL (ms.take i)) (m := m) h h2
          have hEok := fun h h2 h3 => admitE_ok (n := n) (M := meL (ms.take i)) (m := m) h h2 h3
          have hEho := fun h h2 h3 => admitE_home (n := n) (M := meL (ms.take i)) (m := m) h h2 h3
          obtain ⟨q, hq⟩ : ∃ q, q = Id.memE (Id.sb m.1) := ⟨_, rfl⟩
          rw [← hq] at HI hEbad hEtwo hEok hEho
          have HEB := Lib.hid hEbad
          have HET := Lib.hid hEtwo
          have HEO := Lib.hid hEok
          have HEH := Lib.hid hEho
          have HSI := Lib.hid hm
          have hsw := hbel.size
          clear hst hq hEbad hEtwo hEok hEho hcell hbel hinv hm hcm hBx
          by_cases hz : q = 0
          · have hz' : (q != 0) = false := by simpa using hz
            go_wp2_with (go_at_call 31; refine HI.out.mono ?_; rintro e w2 ⟨rfl, rfl⟩)
            clear x0 x1 x2 c1' c2' m0
            obtain ⟨W2, hW2⟩ : ∃ W2, W2 = wr.alloc (.cells #[.string m.1, .int .i64 m.2] 63) := ⟨_, rfl⟩
            rw [← hW2] at HB HMX ⊢
            clear hW2 HI
            go_loopg [9] i (fun (gh : Nat) sk wx => ∃ k : Nat, gh = i - k ∧ k ≤ i ∧ sk = .int .i64 (k : Int) ∧ Hid (Below W2.heap.size W2 wx ∧ ∀ j m', j < k → ms[j]? = some m' → m'.1 ≠ m.1))
            case atStart => exact ⟨0, rfl, Nat.zero_le _, rfl, Below.refl _ _, fun j m' h => by omega⟩
            case round =>
              obtain ⟨k, rfl, hk, rfl, hinv⟩ := hrel
              have hbel := HB.out.trans (hinv.out.1.mono HB.out.size)
              have hms := mem_cells (block_kept HMX.out hinv.out.1)
              obtain ⟨⟨x0, x1, x2⟩, _⟩ := blk3 (block_kept HBX.out hbel)
              by_cases hki : k < i
              · obtain ⟨t, ht⟩ : ∃ t, ms[k]? = some t := ⟨_, List.getElem?_eq_getElem (by omega)⟩
                have d2 := (hbel.cell (p := ⟨g, o + k * 2, none⟩) hg).trans (HCELL.out k t ht).1
                have d1 := hms.1
                have t3 : (k : Int) < (i : Int) := by omega
                have t4 : (0 : Int) ≤ (k : Int) := by omega
                have t5 : (k : Int) < (ms.length : Int) := by omega
                have HBK := Lib.hid hbel
                have HBL := Lib.hid hinv.out.1
                have HNO := Lib.hid hinv.out.2
                have HTK := Lib.hid ht
                clear ht hbel hinv hms
                by_cases hts : t.1 = m.1
                · have e1 : (t.1.toList == m.1.toList) = true := by rw [beqS]; exact decide_eq_true hts
                  have HRR : Hid (r = 6) := by
                    show _ = _
                    have h6 := HET.out hz ((has_meL_take ms i m.1).2 ⟨k, t, hki, HTK.out, hts⟩)
                    have h1 := HST.out
                    rw [h6, if_neg (by decide)] at h1
                    rw [HR2.out, h1]
                  clear hts
                  go_wp2_with fail
                  go_quiet (fail)
                  go_wp2
                  go_ret
                  rw [HRR.out]
                  exact ⟨rfl, HB0.out.trans ((below_drewN HBK.out _).mono HB0.out.size)⟩
                · have e1 : (t.1.toList == m.1.toList) = false := by rw [beqS]; exact decide_eq_false hts
                  have HNX : Hid (∀ j m', j < k + 1 → ms[j]? = some m' → m'.1 ≠ m.1) := fun j m' hj h => by
                    rcases Nat.lt_or_ge j k with h1 | h1
                    · exact HNO.out j m' h1 h
                    · have : j = k := by omega
                      subst this
                      rw [HTK.out] at h
                      exact (Option.some.inj h) ▸ hts
                  clear hts
                  go_wp2_with fail
                  go_quiet (fail)
                  go_wp2
                  go_roundg (i - (k + 1))
                  case measure => omega
                  case rel => exact ⟨k + 1, rfl, by omega, by go_num, below_drewN HBL.out _, HNX.out⟩
              · obtain rfl : k = i := by omega
                have HBK := Lib.hid hbel
                have hno : hasB (meL (ms.take k)) m.1 = false := by
                  cases h : hasB (meL (ms.take k)) m.1
                  · rfl
                  · obtain ⟨j, m', hj, e, e2⟩ := (has_meL_take ms k m.1).1 h
                    exact absurd e2 (hinv.out.2 j m' hj e)
                obtain ⟨d1, d2⟩ := hms
                have hEO := HEO.out hz hno
                have hEH := HEH.out hz hno
                have hnb : nodeB n m.2 = (decide (0 ≤ m.2) && decide (m.2 < n)) := rfl
                obtain ⟨z, hzz⟩ : ∃ z, z = nodeB n m.2 := ⟨_, rfl⟩
                rw [← hzz] at hEO hEH hnb
                have HHO := Lib.hid hEO
                have HHH := Lib.hid hEH
                clear hno hbel hinv hEO hEH hzz
                by_cases g0 : (0 : Int) ≤ m.2
                · by_cases g1 : m.2 < n
                  · have hz1 : z = true := by rw [hnb, decide_eq_true g0, decide_eq_true g1]; rfl
                    have HE0 := Lib.hid (HHO.out hz1)
                    clear hnb hz1
                    go_wp2
                    go_roundg (ms.length - (k + 1))
                    case measure => omega
                    case rel => exact ⟨k + 1, rfl, by omega, by go_num, HBK.out, by rw [HT.out, HST.out, if_pos HE0.out]⟩
                  · have hz1 : z = false := by rw [hnb, decide_eq_false g1]; simp
                    have HRR : Hid (r = 5) := by
                      show _ = _
                      have h1 := HST.out
                      rw [HHH.out hz1, if_neg (by decide)] at h1
                      rw [HR2.out, h1]
                    clear hnb hz1
                    go_wp2
                    go_ret
                    rw [HRR.out]
                    exact ⟨rfl, HB0.out.trans (HBK.out.mono HB0.out.size)⟩
                · have hz1 : z = false := by rw [hnb, decide_eq_false g0]; rfl
                  have HRR : Hid (r = 5) := by
                    show _ = _
                    have h1 := HST.out
                    rw [HHH.out hz1, if_neg (by decide)] at h1
                    rw [HR2.out, h1]
                  clear hnb hz1
                  go_wp2
                  go_ret
                  rw [HRR.out]
                  exact ⟨rfl, HB0.out.trans (HBK.out.mono HB0.out.size)⟩
          · have hz' : (q != 0) = true := by simpa using hz
            have HRR : Hid (r = q) := by
              show _ = _
              have h6 := HEB.out hz
              have h1 := HST.out
              rw [h6, if_neg hz] at h1
              rw [HR2.out, h1]
            go_wp2_with (go_at_call 31; refine HI.out.mono ?_; rintro e w2 ⟨rfl, rfl⟩)
            go_ret
            rw [HRR.out]
            exact ⟨rfl, HB0.out.trans (HB.out.mono HB0.out.size)⟩
        · obtain rfl : i = ms.length := by omega
          have hx := hinv.out.2
          rw [List.take_of_length_le (Nat.le_refl _), List.drop_of_length_le (Nat.le_refl _)] at hx
          have HRR : Hid (r = 0) := by show _ = _; rw [HR2.out]; exact hx.symm
          have HBK := Lib.hid hbel
          clear hx hinv hbel
          go_wp2
          go_ret
          rw [HRR.out]
          exact ⟨rfl, HB0.out.trans (HBK.out.mono HB0.out.size)⟩
end Go.Proofs.Ytkoihpfgleboiaa.Ro
