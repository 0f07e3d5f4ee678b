/-
  FrameSums answers true for all slices of bytes and all bytes. Conditions: none.
-/
import Derived.Test.YtmcoinfdgidblaaFSmI
namespace Go.Proofs.Ytmcoinfdgidblaa.Fr
open Go.RowKit

theorem SmI.kept {w wx wx' : World} {ls : List (List Int)} {i : Nat} {us : List Value} {v5 v6 : Value} (h : SmI w ls i us v5 v6 wx) (hb : Below wx.heap.size wx wx') : SmI w ls i us v5 v6 wx' :=
  ⟨h.len, own_same h.own hb, h.at', own_same h.all hb, h.bel.trans (hb.mono h.bel.size)⟩
theorem take_min {l : List Int} {q : Nat} (hq : q = min l.length 200) : l.take q = l.take 200 := by
  subst hq
  rcases Nat.le_total l.length 200 with h | h
  · rw [Nat.min_eq_left h, List.take_of_length_le (Nat.le_refl _), List.take_of_length_le h]
  · rw [Nat.min_eq_right h]
theorem sums_at (w : World) (v : Value) (ls : List (List Int)) (x : Nat) (h : PAt w v ls) (hb : boks ls) (hx : crc ls.flatten = x) : Calls Try.prog 11 #[v] w fun e w' => e = .returned (.int .u32 (x : Int)) ∧ w = w' := by
  rw [← hx]; exact sum_any w v ls h hb
theorem rsum_at (w : World) (v : Value) (l : List Int) (x : Nat) (h : BAt w v l) (hb : bok l) (hl : l.length ≤ 2000000) (hx : crc l = x) : Calls Try.prog 12 #[v] w fun e w' => e = .returned (.int .i64 (x : Int)) ∧ w = w' := by
  rw [← hx]; exact rsum_any w v l h hb hl

set_option maxRecDepth 100000 in
set_option maxHeartbeats 8000000 in
theorem law_sums (w : World) (A0 : Option Addr) (n0 c0 : Nat) (h0 : RIn w A0 n0 c0) (A : Option Addr) (n c : Nat) (l : List Int) (h : BAt w (.slice A n c) l) (hb : bok l) :
    Calls Try.prog 3 #[.slice A0 n0 c0, .slice A n c] w fun e w' => e = .returned (.bool true) ∧ Below w.heap.size w w' := by
  obtain ⟨ls, ⟨A', cap', he, _, hcl⟩, hK⟩ := h0
  cases he
  obtain ⟨i0, hi0, hz0, hz1, hz2⟩ := info_parts byInf
  obtain ⟨n0, hn0⟩ : ∃ n0, n0 = ls.length := ⟨_, rfl⟩
  rw [← hn0] at hcl ⊢
  obtain ⟨mm, hmm⟩ : ∃ mm, mm = min n0 10 := ⟨_, rfl⟩
  have HCL := Lib.hid hcl
  have HK := Lib.hid hK
  have HN0 := Lib.hid hn0
  have hmm1 : mm ≤ n0 := by omega
  have hmm2 : mm ≤ 10 := by omega
  have HMM : Hid (mm = n0 ∨ mm = 10) := (by omega : mm = n0 ∨ mm = 10)
  obtain ⟨m, hm⟩ : ∃ m, m = min n 500 := ⟨_, rfl⟩
  have hcap := h.len.2
  have hs := slice_to A n c m (by omega)
  have htk := (h.take m (by omega)).1
  have hlm := (h.take m (by omega)).2.1
  obtain ⟨L, hL⟩ : ∃ L, L = l.take m := ⟨_, rfl⟩
  rw [← hL] at htk hlm
  have hbL : bok L := by rw [hL]; exact bok_take hb m
  have hmin : (if (500 : Int) < (n : Int) then 500 else (n : Int)) = (m : Int) := by split <;> omega
  obtain ⟨q, hq⟩ : ∃ q, q = m + 8 := ⟨_, rfl⟩
  have e1 : (m : Int) + 8 = (q : Int) := by omega
  have HD : Hid (bok L ∧ L.length = m ∧ m ≤ 500 ∧ q = m + 8 ∧ q ≤ 508 ∧ (frF L).length = q ∧ bok (frF L) ∧ opB (frF L) = L ∧ opE (frF L) = 0) :=
    ⟨hbL, hlm, by omega, hq, by omega, by rw [frF_len]; omega, frF_bok hbL, frF_opB (by omega), frF_opE (by omega)⟩
  have HT := Lib.hid htk
  have hm2 : m ≤ 500 := by omega
  have hq2 : q ≤ 508 := by omega
  clear hcl hK hn0 hmm h hb hcap htk hlm hL hbL hm hq
  go_enter Try.func3, Try.ntmps3
  go_wp2
  go_loopg [5, 6, 7] mm (fun (gh : Nat) s5 s6 s7 wx => ∃ (i : Nat) (us : List Value), gh = mm - i ∧ i ≤ mm ∧ s7 = .int .i64 (i : Int) ∧ Hid (SmI w ls i us s5 s6 wx))
  case atStart => exact ⟨0, [], rfl, Nat.zero_le _, rfl, rfl, World.ownsRow_nil _ _ _ _, fun j u hu => by simp at hu, World.ownsRow_nil _ _ _ _, Below.refl _ _⟩
  case round =>
    obtain ⟨i, us, rfl, hi, rfl, hI⟩ := hrel
    by_cases hlt : i < mm
    · have t1 : (i : Int) < (n0 : Int) := by omega
      have t2 : (i : Int) < 10 := by omega
      obtain ⟨g, o, rfl, lg, hcell⟩ := HCL.out (by omega)
      obtain ⟨u, hu, hub⟩ := hcell i (by omega)
      obtain ⟨A2, c2, rfl, hc2, hcc⟩ := hub
      obtain ⟨n2, hn2⟩ : ∃ n2, n2 = (ls.getD i []).length := ⟨_, rfl⟩
      obtain ⟨q2, hq2⟩ : ∃ q2, q2 = min n2 200 := ⟨_, rfl⟩
      have hub : BAt w (.slice A2 (ls.getD i []).length c2) (ls.getD i []) := ⟨A2, c2, rfl, hc2, hcc⟩
      rw [← hn2] at hu hc2 hub
      have hmin2 : (if (200 : Int) < (n2 : Int) then 200 else (n2 : Int)) = (q2 : Int) := by split <;> omega
      have hs2 := slice_to A2 n2 c2 q2 (by omega)
      have HQ : Hid (BAt w (.slice A2 q2 c2) ((ls.getD i []).take 200)) := by
        rw [← take_min (q := q2) (by omega)]
        exact (hub.take q2 (by omega)).1
      have c1 : wr.cell? ⟨g, o + i, none⟩ = some (.slice A2 n2 c2) := (hI.out.bel.cell (p := ⟨g, o + i, none⟩) lg).trans hu
      have HDN : Hid (∀ nq, SmI w ls i us u5 u6 (wr.drewN nq)) := fun nq => hI.out.kept (below_drewN (Below.refl _ _) nq)
      have hil : i < ls.length := by have := HN0.out; omega
      have HIL := Lib.hid hil
      have hsz := hI.out.bel.size
      clear hcell hu hcc hub hn2 hq2 hI hil
      go_wp2_with fail
      go_quiet (fail)
      go_wp2_with (first
        | (at_builtin; refine Lib.wpList_append_run _ rfl _ _ 23 23 rfl _ _ rfl rfl _ _ HR.out ?_)
        | (at_builtin; refine wpList_append_lies _ rfl _ _ 22 rfl w.heap.size 23 i0 _ 1 24 Try.underlying22 hi0 hz0 hz1 hz2 rfl (by decide) _ _ _ rfl ((HDN.out _).own.alloc _) ⟨wr.heap.size, 0, none⟩ 1 1 [.slice A2 q2 c2] rfl rfl (World.news_of_block (cs := #[.slice A2 q2 c2]) (t := 23) (fr := (0, 0)) (heap_alloc_new _ _)) (by simp [Value.oneCell']) (by decide) (by unfold maxLen; omega) (by omega) (by simp; omega) _ rfl ?_; intro gg cp w2 hown2 hgrow hat hlt2
           have R1 := Lib.hid ((HDN.out _).rows1 HQ.out hown2 hgrow)
           have HO2 := Lib.hid hown2
           have hsm := cutR_small ls i (Nat.le_of_lt HIL.out)
           obtain ⟨A6, c6, w3, hr6, ho6, hg6⟩ := app_any w2 w.heap.size u6 (cutR ls i).flatten R1.out.2.2.1 (.slice A2 q2 c2) ((ls.getD i []).take 200) (HQ.out.kept R1.out.2.2.2) (by rw [List.length_take]; omega) R1.out.2.2.2.size
           obtain ⟨k6, hk6⟩ : ∃ k6, k6 = (cutR ls i).flatten.length + ((ls.getD i []).take 200).length := ⟨_, rfl⟩
           rw [← hk6] at hr6 ho6
           have S2 := Lib.hid (SmI.rows2 R1.out.1 HIL.out HO2.out R1.out.2.1 R1.out.2.2.1 R1.out.2.2.2 ho6 hg6)
           have HR := Lib.hid hr6
           clear hown2 hgrow hat hlt2 hr6 ho6 hg6 hsm hk6))
      go_roundg (mm - (i + 1))
      case measure => omega
      case rel => exact ⟨i + 1, _, rfl, hlt, by go_num, S2⟩
    · obtain rfl : i = mm := by omega
      obtain ⟨x, hx⟩ : ∃ x, x = crc (cutR ls i).flatten := ⟨_, rfl⟩
      have hx2 : x < 4294967296 := by rw [hx]; exact crc_lt _
      have hil : i ≤ ls.length := by have := HN0.out; omega
      have HX : Hid (crc (cutR ls i).flatten = x ∧ boks (cutR ls i) ∧ bok (cutR ls i).flatten ∧ (cutR ls i).flatten.length ≤ 2000000) :=
        ⟨hx.symm, ⟨by rw [cutR_len hil]; omega, cutR_bok HK.out i⟩, cutR_flat_bok HK.out i, by have := cutR_small ls i hil; omega⟩
      have HP := Lib.hid (hI.out.parts hil)
      have HA := Lib.hid (BAt.of_own hI.out.all)
      have B0 := Lib.hid hI.out.bel
      have HTr := Lib.hid (HT.out.kept B0.out)
      have e5 : IntKind.i64.wrap (x : Int) = (x : Int) := by rw [IntKind.wrap_i64]; omega
      have hend : (¬ (i : Int) < (n0 : Int)) ∨ ((i : Int) < (n0 : Int) ∧ i = 10) := by
        rcases HMM.out with h1 | h1
        · exact .inl (by omega)
        · by_cases h2 : (i : Int) < (n0 : Int)
          · exact .inr ⟨h2, h1⟩
          · exact .inl h2
      clear hx hil hI HMM
      rcases hend with t1 | ⟨t1, t2⟩
      · go_wp2_with (first
          | (go_at_call 13; (with_reducible refine (same_at w5 _ _ L HC5.out HT5.out _ HD.out.2.1 (by have := HD.out.2.2.1; omega)).mono ?_); rintro e w6 ⟨rfl, b6⟩
             have B6 := Lib.hid (B5.out.trans (b6.mono B5.out.size))
             clear b6)
          | (go_at_call 13; (with_reducible refine (same_at w4 _ _ (frF L) HF4.out HR4.out _ HD.out.2.2.2.2.2.1 (by have := HD.out.2.2.2.2.1; omega)).mono ?_); rintro e w5 ⟨rfl, b5⟩
             have HC5 := Lib.hid (HC4.out.kept b5)
             have HT5 := Lib.hid (HT4.out.kept b5)
             have B5 := Lib.hid (B4.out.trans (b5.mono B4.out.size))
             clear b5)
          | (go_at_call 14; (with_reducible refine (rmake_any w3 _ _ _ _ L HT3.out HD.out.1 (by have := HD.out.2.2.1; omega) HD.out.2.2.2.1).mono ?_); rintro e w4 ⟨A4, c4, rfl, ha4, b4⟩
             have HR4 := Lib.hid ha4
             have HF4 := Lib.hid (HF3.out.kept b4)
             have HC4 := Lib.hid (HC3.out.kept b4)
             have HT4 := Lib.hid (HT3.out.kept b4)
             have B4 := Lib.hid (B3.out.trans (b4.mono B3.out.size))
             clear ha4 b4)
          | (go_at_call 12; (with_reducible refine (rsum_at w3 _ _ x HA3.out HX.out.2.2.1 HX.out.2.2.2 HX.out.1).mono ?_); rintro e w3' ⟨rfl, rfl⟩)
          | (go_at_call 11; (with_reducible refine (sums_at w3 _ _ x HP3.out HX.out.2.1 HX.out.1).mono ?_); rintro e w3' ⟨rfl, rfl⟩)
          | (go_at_call 10; (with_reducible refine (known_any w2).mono ?_); rintro e w3 ⟨rfl, b3⟩
             have HP3 := Lib.hid (HP2.out.kept b3)
             have HA3 := Lib.hid (HA2.out.kept b3)
             have HF3 := Lib.hid (HF2.out.kept b3)
             have HC3 := Lib.hid (HC2.out.kept b3)
             have HT3 := Lib.hid (HT2.out.kept b3)
             have B3 := Lib.hid (B2.out.trans (b3.mono B2.out.size))
             clear b3)
          | (go_at_call 9; (with_reducible refine (open_at w1 _ _ _ m 0 (frF L) L HF1.out HD.out.2.2.2.2.2.2.1 (by have := HD.out.2.2.2.2.1; omega) HD.out.2.2.2.2.2.2.2.1 HD.out.2.1 HD.out.2.2.2.2.2.2.2.2).mono ?_); rintro e w2 ⟨A2, c2, rfl, ha2, b2⟩
             have HC2 := Lib.hid ha2
             have HF2 := Lib.hid (HF1.out.kept b2)
             have HP2 := Lib.hid (HP1.out.kept b2)
             have HA2 := Lib.hid (HA1.out.kept b2)
             have HT2 := Lib.hid (HT1.out.kept b2)
             have B2 := Lib.hid (B1.out.trans (b2.mono B1.out.size))
             clear ha2 b2)
          | (go_at_call 8; (with_reducible refine (make_at wr _ _ _ _ L HTr.out HD.out.1 (by have := HD.out.2.2.1; omega) HD.out.2.2.2.1).mono ?_); rintro e w1 ⟨A1, c1, rfl, ha1, b1⟩
             have HF1 := Lib.hid ha1
             have HP1 := Lib.hid (HP.out.kept b1)
             have HA1 := Lib.hid (HA.out.kept b1)
             have HT1 := Lib.hid (HTr.out.kept b1)
             have B1 := Lib.hid (B0.out.trans (b1.mono B0.out.size))
             clear ha1 b1))
        go_ret
        exact ⟨rfl, B6.out⟩
      · have t3 : ¬ (i : Int) < 10 := by omega
        clear t2
        go_wp2_with (first
          | (go_at_call 13; (with_reducible refine (same_at w5 _ _ L HC5.out HT5.out _ HD.out.2.1 (by have := HD.out.2.2.1; omega)).mono ?_); rintro e w6 ⟨rfl, b6⟩
             have B6 := Lib.hid (B5.out.trans (b6.mono B5.out.size))
             clear b6)
          | (go_at_call 13; (with_reducible refine (same_at w4 _ _ (frF L) HF4.out HR4.out _ HD.out.2.2.2.2.2.1 (by have := HD.out.2.2.2.2.1; omega)).mono ?_); rintro e w5 ⟨rfl, b5⟩
             have HC5 := Lib.hid (HC4.out.kept b5)
             have HT5 := Lib.hid (HT4.out.kept b5)
             have B5 := Lib.hid (B4.out.trans (b5.mono B4.out.size))
             clear b5)
          | (go_at_call 14; (with_reducible refine (rmake_any w3 _ _ _ _ L HT3.out HD.out.1 (by have := HD.out.2.2.1; omega) HD.out.2.2.2.1).mono ?_); rintro e w4 ⟨A4, c4, rfl, ha4, b4⟩
             have HR4 := Lib.hid ha4
             have HF4 := Lib.hid (HF3.out.kept b4)
             have HC4 := Lib.hid (HC3.out.kept b4)
             have HT4 := Lib.hid (HT3.out.kept b4)
             have B4 := Lib.hid (B3.out.trans (b4.mono B3.out.size))
             clear ha4 b4)
          | (go_at_call 12; (with_reducible refine (rsum_at w3 _ _ x HA3.out HX.out.2.2.1 HX.out.2.2.2 HX.out.1).mono ?_); rintro e w3' ⟨rfl, rfl⟩)
          | (go_at_call 11; (with_reducible refine (sums_at w3 _ _ x HP3.out HX.out.2.1 HX.out.1).mono ?_); rintro e w3' ⟨rfl, rfl⟩)
          | (go_at_call 10; (with_reducible refine (known_any w2).mono ?_); rintro e w3 ⟨rfl, b3⟩
             have HP3 := Lib.hid (HP2.out.kept b3)
             have HA3 := Lib.hid (HA2.out.kept b3)
             have HF3 := Lib.hid (HF2.out.kept b3)
             have HC3 := Lib.hid (HC2.out.kept b3)
             have HT3 := Lib.hid (HT2.out.kept b3)
             have B3 := Lib.hid (B2.out.trans (b3.mono B2.out.size))
             clear b3)
          | (go_at_call 9; (with_reducible refine (open_at w1 _ _ _ m 0 (frF L) L HF1.out HD.out.2.2.2.2.2.2.1 (by have := HD.out.2.2.2.2.1; omega) HD.out.2.2.2.2.2.2.2.1 HD.out.2.1 HD.out.2.2.2.2.2.2.2.2).mono ?_); rintro e w2 ⟨A2, c2, rfl, ha2, b2⟩
             have HC2 := Lib.hid ha2
             have HF2 := Lib.hid (HF1.out.kept b2)
             have HP2 := Lib.hid (HP1.out.kept b2)
             have HA2 := Lib.hid (HA1.out.kept b2)
             have HT2 := Lib.hid (HT1.out.kept b2)
             have B2 := Lib.hid (B1.out.trans (b2.mono B1.out.size))
             clear ha2 b2)
          | (go_at_call 8; (with_reducible refine (make_at wr _ _ _ _ L HTr.out HD.out.1 (by have := HD.out.2.2.1; omega) HD.out.2.2.2.1).mono ?_); rintro e w1 ⟨A1, c1, rfl, ha1, b1⟩
             have HF1 := Lib.hid ha1
             have HP1 := Lib.hid (HP.out.kept b1)
             have HA1 := Lib.hid (HA.out.kept b1)
             have HT1 := Lib.hid (HTr.out.kept b1)
             have B1 := Lib.hid (B0.out.trans (b1.mono B0.out.size))
             clear ha1 b1))
        go_ret
        exact ⟨rfl, B6.out⟩
end Go.Proofs.Ytmcoinfdgidblaa.Fr
