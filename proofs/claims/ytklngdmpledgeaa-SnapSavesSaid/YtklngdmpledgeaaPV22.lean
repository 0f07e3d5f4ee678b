/-
  SnapEnds' law. Conditions: none.
-/
import Derived.Test.YtklngdmpledgeaaPV18
import Derived.Test.YtklngdmpledgeaaPV21
import Derived.Test.YtklngdmpledgeaaSBytes
import Derived.ProofKit
import Derived.OpenShut
import Derived.ChangeOld
import Derived.Lib.SmallJoins
import Derived.ChangeMaps5
import Derived.Test.YtklngdmpledgeaaPV2
namespace Go.Proofs.Ytklngdmpledgeaa.Sp
open Go.RowKit Fr Sr

theorem pat_below {w w' : World} {v : Value} {ls : List (List Int)} (h : PAt w v ls) (hb : Below w.heap.size w w') : PAt w' v ls := by
  obtain ⟨A, cap, e, hc, h1⟩ := h
  refine ⟨A, cap, e, hc, fun hp => ?_⟩
  obtain ⟨g, o, e2, hg, h2⟩ := h1 hp
  refine ⟨g, o, e2, Nat.lt_of_lt_of_le hg hb.size, fun i hi => ?_⟩
  obtain ⟨u, h3, h4⟩ := h2 i hi
  exact ⟨u, (hb.cell (p := ⟨g, o + i, none⟩) hg).trans h3, h4.kept hb⟩
theorem same_at (w : World) (u v : Value) (bs rs : List (List Int)) (q : Bool) (hu : RowsA w u bs) (hv : RowsA w v rs) (h1 : FewB bs) (h2 : FewB rs) (hq : decide (bs = rs) = q) :
    Calls Try.prog 57 #[u, v] w fun e w' => e = .returned (.bool q) ∧ Below w.heap.size w w' := by
  have h := rsame_any w u v bs rs hu hv (by have := h1.len; omega) (by have := h2.len; omega) (fun b hb => (h1.bok b hb).2) (fun b hb => (h2.bok b hb).2)
  rw [hq] at h
  exact h
set_option maxRecDepth 100000 in
set_option maxHeartbeats 8000000 in
theorem law_ends (w : World) (A0 : Option Addr) (n0 c0 : Nat) (h0 : RIn w A0 n0 c0) (A1 : Option Addr) (n1 c1 : Nat) (h1 : RIn w A1 n1 c1) (x : Int) :
    Calls Try.prog 12 #[.slice A0 n0 c0, .slice A1 n1 c1, .int .i64 x] w fun e w' => e = .returned (.bool true) ∧ Below w.heap.size w w' := by
  obtain ⟨la, hpa, hba⟩ := h0
  obtain ⟨lb, hpb, hbb⟩ := h1
  have HFA := Lib.hid (few_any w A0 n0 c0 la hpa)
  have HPB := Lib.hid hpb
  have hka := few_ok hba
  have hkb := few_ok hbb
  obtain ⟨LA, hLA⟩ : ∃ LA, LA = fewS la := ⟨_, rfl⟩
  obtain ⟨LB, hLB⟩ : ∃ LB, LB = fewS lb := ⟨_, rfl⟩
  rw [← hLA] at HFA hka
  rw [← hLB] at hkb
  have HKA := Lib.hid hka
  have HKB := Lib.hid hkb
  have HLB := Lib.hid hLB
  have hu : 0 ≤ (IntKind.u64.wrap x).tmod 200 ∧ (IntKind.u64.wrap x).tmod 200 ≤ 199 := by
    have h1 : 0 ≤ IntKind.u64.wrap x := by rw [IntKind.wrap_u64]; omega
    rw [Int.tmod_eq_emod_of_nonneg h1]; omega
  obtain ⟨u, hu2⟩ : ∃ u : Nat, (IntKind.u64.wrap x).tmod 200 = (u : Int) := ⟨((IntKind.u64.wrap x).tmod 200).toNat, by omega⟩
  rw [hu2] at hu
  obtain ⟨u0, u1⟩ := hu
  clear hpa hba hpb hbb hka hkb hLA hLB
  go_enter Try.func12, Try.ntmps12
  go_upto_region 7 with (first
    | (go_at_call 59; (with_reducible refine (c_save2 HST5.out HAR5.out (by have := HKA.out.tot; rw [encS_len]; omega) HRB.out HKB.out).mono ?_); rintro e w6 ⟨E, rfl, R, hER, s6, L6, hst6, hR⟩
       have HST6 := Lib.hid hst6
       have HER := Lib.hid hER
       have HR6 := Lib.hid hR
       clear hst6 hER hR)
    | (go_at_call 25; (with_reducible refine (c_arm (u := u) HST4.out HSS4.out (by omega)).mono ?_); rintro e w5 ⟨rfl, s5, hst5, har5⟩; have HST5 := Lib.hid hst5; have HAR5 := Lib.hid har5; clear hst5 har5)
    | (go_at_call 59; (with_reducible refine (c_save1 HST3.out ⟨rfl, rfl, rfl⟩ (.inl ⟨rfl, rfl⟩) HRA.out HKA.out).mono ?_); rintro e w4 ⟨rfl, s4, v4, hst4, hss4⟩; have HST4 := Lib.hid hst4; have HSS4 := Lib.hid hss4; clear hst4 hss4)
    | (go_at_call 14; (with_reducible refine (c_new w2 10000 (by decide) (by decide)).mono ?_); rintro e w3 ⟨rfl, hst3⟩; have HST3 := Lib.hid hst3; clear hst3)
    | (go_at_call 50; (with_reducible refine HFB.out.mono ?_); rintro e w2 ⟨Ab, nb, cb, rfl, hrb, hb2⟩
       have HRA := Lib.hid (HRA1.out.below hb2)
       have HRB : Hid (RowsA w2 (.slice Ab nb cb) LB) := Lib.hid (by rw [HLB.out]; exact hrb)
       have HB2 := Lib.hid (HB1.out.trans (hb2.mono HB1.out.size))
       clear hrb hb2)
    | (go_at_call 50; (with_reducible refine HFA.out.mono ?_); rintro e w1 ⟨Aa, na, ca, rfl, hra, hb1⟩
       have HRA1 := Lib.hid hra
       have HB1 := Lib.hid hb1
       have HFB := Lib.hid (few_any w1 A1 n1 c1 lb (pat_below HPB.out hb1))
       clear hra hb1))
  obtain ⟨rs, hrs, hfw, hcs⟩ : ∃ rs, R = encS rs ∧ FewB rs ∧ ((E = 0 ∧ rs = LB) ∨ (E = 14 ∧ rs = LA)) := by
    rcases HER.out with ⟨h, h2⟩ | ⟨h, h2⟩
    · exact ⟨LB, h2, HKB.out, .inl ⟨h, rfl⟩⟩
    · exact ⟨LA, h2, HKA.out, .inr ⟨h, rfl⟩⟩
  rw [hrs] at HR6
  have HFW := Lib.hid hfw
  have HCS := Lib.hid hcs
  clear hrs hfw hcs
  go_upto_region 10 with (first
    | (go_at_call 58; (with_reducible refine (c_load HST8.out HR6.out HFW.out).mono ?_); rintro e w9 ⟨Ay, ny, cy, rfl, hry, hst9, hb9⟩
       have HX9 := Lib.hid (HX8.out.toA.below hb9)
       have HY9 := Lib.hid hry.toA
       have HST9 := Lib.hid hst9
       clear hry hst9 hb9)
    | (go_at_call 26; (with_reducible refine (c_rev HST7.out).mono ?_); rintro e w8 ⟨rfl, ⟨s8, hst8⟩, hsz8, hk8⟩
       have HST8 := Lib.hid hst8
       have HX8 := Lib.hid (HX7.out.kept hk8 hsz8)
       clear hst8 hsz8 hk8)
    | (go_at_call 58; (with_reducible refine (c_load HST6.out HR6.out HFW.out).mono ?_); rintro e w7 ⟨Ax, nx, cx, rfl, hrx, hst7, hb7⟩
       have HX7 := Lib.hid hrx
       have HST7 := Lib.hid hst7
       clear hrx hst7 hb7))
  have hbel9 := HB2.out.trans (HST9.out.bel.mono HB2.out.size)
  have HBEL9 := Lib.hid hbel9
  have HRA9 := Lib.hid (HRA.out.below HST9.out.bel)
  have HRB9 := Lib.hid (HRB.out.below HST9.out.bel)
  clear hbel9
  rcases HCS.out with ⟨hE, hR⟩ | ⟨hE, hR⟩
  · subst hE hR
    go_wp2_with (first
      | (go_at_call 57; (with_reducible refine (same_at w11 _ _ rs rs true HY11.out HRB11.out HFW.out HFW.out (decide_eq_true rfl)).mono ?_); rintro e w12 ⟨rfl, hb12⟩; have HB12 := Lib.hid (HBEL11.out.trans (hb12.mono HBEL11.out.size)); clear hb12)
      | (go_at_call 57; (with_reducible refine (same_at w10 _ _ rs rs true HX10.out HY10.out HFW.out HFW.out (decide_eq_true rfl)).mono ?_); rintro e w11 ⟨rfl, hb11⟩
         have HY11 := Lib.hid (HY10.out.below hb11)
         have HRB11 := Lib.hid (HRB10.out.below hb11)
         have HBEL11 := Lib.hid (HBEL10.out.trans (hb11.mono HBEL10.out.size))
         clear hb11)
      | (go_at_call 54; (with_reducible refine (known_any w9).mono ?_); rintro e w10 ⟨rfl, hb10⟩
         have HX10 := Lib.hid (HX9.out.below hb10)
         have HY10 := Lib.hid (HY9.out.below hb10)
         have HRB10 := Lib.hid (HRB9.out.below hb10)
         have HBEL10 := Lib.hid (HBEL9.out.trans (hb10.mono HBEL9.out.size))
         clear hb10))
    go_ret
    exact ⟨rfl, HB12.out⟩
  · subst hE hR
    go_wp2_with (first
      | (go_at_call 57; (with_reducible refine (same_at w11 _ _ rs rs true HY11.out HRA11.out HFW.out HFW.out (decide_eq_true rfl)).mono ?_); rintro e w12 ⟨rfl, hb12⟩; have HB12 := Lib.hid (HBEL11.out.trans (hb12.mono HBEL11.out.size)); clear hb12)
      | (go_at_call 57; (with_reducible refine (same_at w10 _ _ rs rs true HX10.out HY10.out HFW.out HFW.out (decide_eq_true rfl)).mono ?_); rintro e w11 ⟨rfl, hb11⟩
         have HY11 := Lib.hid (HY10.out.below hb11)
         have HRA11 := Lib.hid (HRA10.out.below hb11)
         have HBEL11 := Lib.hid (HBEL10.out.trans (hb11.mono HBEL10.out.size))
         clear hb11)
      | (go_at_call 54; (with_reducible refine (known_any w9).mono ?_); rintro e w10 ⟨rfl, hb10⟩
         have HX10 := Lib.hid (HX9.out.below hb10)
         have HY10 := Lib.hid (HY9.out.below hb10)
         have HRA10 := Lib.hid (HRA9.out.below hb10)
         have HBEL10 := Lib.hid (HBEL9.out.trans (hb10.mono HBEL9.out.size))
         clear hb10))
    go_ret
    exact ⟨rfl, HB12.out⟩
end Go.Proofs.Ytklngdmpledgeaa.Sp

namespace Go.Proofs.Ytklngdmpledgeaa.Sp
open Go.RowKit Fr Sr
attribute [local go_sem] Oper.semAt_some

set_option maxRecDepth 100000 in
set_option maxHeartbeats 8000000 in
theorem law_saves (w : World) (A0 : Option Addr) (n0 c0 : Nat) (h0 : RIn w A0 n0 c0) (A1 : Option Addr) (n1 c1 : Nat) (h1 : RIn w A1 n1 c1) (A2 : Option Addr) (n2 c2 : Nat) (l2 : List Int) (h2 : BAt w (.slice A2 n2 c2) l2) (hb2 : bok l2) :
    Calls Try.prog 11 #[.slice A0 n0 c0, .slice A1 n1 c1, .slice A2 n2 c2] w fun e w' => e = .returned (.bool true) ∧ Below w.heap.size w w' := by
  obtain ⟨la, hpa, hba⟩ := h0
  obtain ⟨lb, hpb, hbb⟩ := h1
  have HFA := Lib.hid (few_any w A0 n0 c0 la hpa)
  have HPB := Lib.hid hpb
  have hka := few_ok hba
  have hkb := few_ok hbb
  obtain ⟨LA, hLA⟩ : ∃ LA, LA = fewS la := ⟨_, rfl⟩
  obtain ⟨LB, hLB⟩ : ∃ LB, LB = fewS lb := ⟨_, rfl⟩
  rw [← hLA] at HFA hka
  rw [← hLB] at hkb
  have HKA := Lib.hid hka
  have HKB := Lib.hid hkb
  have HLB := Lib.hid hLB
  obtain ⟨q2, hq2⟩ : ∃ q2, q2 = min n2 600 := ⟨_, rfl⟩
  have hln := h2.len
  have hmin2 : (if (600 : Int) < (n2 : Int) then 600 else (n2 : Int)) = (q2 : Int) := by split <;> omega
  have hmin3 : min (n2 : Int) 600 = (q2 : Int) := by omega
  have hs2 := slice_to A2 n2 c2 q2 (by omega)
  obtain ⟨L2, hL2⟩ : ∃ L2, L2 = l2.take q2 := ⟨_, rfl⟩
  have htk := (h2.take q2 (by omega)).1
  rw [← hL2] at htk
  have H2 : Hid (BAt w (.slice A2 q2 c2) L2 ∧ bok L2 ∧ q2 ≤ 600 ∧ L2.length ≤ 2000000) := ⟨htk, by rw [hL2]; exact bok_take hb2 _, by omega, by rw [hL2, List.length_take]; omega⟩
  obtain ⟨d, hd⟩ : ∃ d, d = decE L2 := ⟨_, rfl⟩
  obtain ⟨f, hf⟩ : ∃ f : Int, f = if d = 0 then 0 else 13 := ⟨_, rfl⟩
  have HDD : Hid (d = decE L2 ∧ f = if d = 0 then 0 else 13) := ⟨hd, hf⟩
  have HBD := Lib.hid (decL_bnd H2.out.2.2.2)
  clear hpa hba hpb hbb hka hkb hLA hLB h2 hb2 hq2 hln hL2 htk hd hf
  go_enter Try.func11, Try.ntmps11
  go_upto_region 9 with (first
    | (go_at_call 59; (with_reducible refine (c_save1 HST5.out HSS5.out (.inr ⟨v5, encS LA, rfl, by have := HKA.out.tot; rw [encS_len]; omega⟩) HRB.out HKB.out).mono ?_); rintro e w6 ⟨rfl, s6, v6, hst6, hss6⟩; have HST6 := Lib.hid hst6; have HSS6 := Lib.hid hss6; clear hst6 hss6)
    | (go_at_call 59; (with_reducible refine (c_save1 HST4.out ⟨rfl, rfl, rfl⟩ (.inl ⟨rfl, rfl⟩) HRA.out HKA.out).mono ?_); rintro e w5 ⟨rfl, s5, v5, hst5, hss5⟩; have HST5 := Lib.hid hst5; have HSS5 := Lib.hid hss5; clear hst5 hss5)
    | (go_at_call 58; (with_reducible refine (c_load0 HST3.out).mono ?_); rintro e w4 ⟨Ae, ne, ce, rfl, hst4⟩; have HST4 := Lib.hid hst4; clear hst4)
    | (go_at_call 14; (with_reducible refine (c_new w2 10000 (by decide) (by decide)).mono ?_); rintro e w3 ⟨rfl, hst3⟩; have HST3 := Lib.hid hst3; clear hst3)
    | (go_at_call 50; (with_reducible refine HFB.out.mono ?_); rintro e w2 ⟨Ab, nb, cb, rfl, hrb, hb2⟩
       have HRA := Lib.hid (HRA1.out.below hb2)
       have HRB : Hid (RowsA w2 (.slice Ab nb cb) LB) := Lib.hid (by rw [HLB.out]; exact hrb)
       have HB2 := Lib.hid (HB1.out.trans (hb2.mono HB1.out.size))
       have HL2 := Lib.hid (H2.out.1.kept HB2.out)
       clear hrb hb2)
    | (go_at_call 50; (with_reducible refine HFA.out.mono ?_); rintro e w1 ⟨Aa, na, ca, rfl, hra, hb1⟩
       have HRA1 := Lib.hid hra
       have HB1 := Lib.hid hb1
       have HFB := Lib.hid (few_any w1 A1 n1 c1 lb (pat_below HPB.out hb1))
       clear hra hb1))
  go_upto_region 16 with (first
    | (go_at_call 53; (with_reducible refine HRD.out.mono ?_); rintro e w12 ⟨⟨Az, nz, cz, rfl, hrz⟩, hb12⟩
       have HZ := Lib.hid hrz
       have HY12 := Lib.hid (HY.out.toA.below hb12)
       have HB12 := Lib.hid (HB11.out.trans (hb12.mono HB11.out.size))
       clear hrz hb12)
    | (go_at_call 58; (with_reducible refine (c_loadG HST10.out HBY10.out H2.out.2.1 HDD.out.1 HDD.out.2).mono ?_); rintro e w11 ⟨Ay, ny, cy, rfl, hry, hst11, _⟩
       have HY := Lib.hid hry
       have HST11 := Lib.hid hst11
       have HB11 := Lib.hid (HB2.out.trans (hst11.bel.mono HB2.out.size))
       have hrd := rdecode_any w11 A2 q2 c2 L2 (H2.out.1.kept HB11.out) H2.out.2.1 (by have := H2.out.2.2.1; omega)
       unfold DecR at hrd
       rw [← HDD.out.1] at hrd
       have HRD := Lib.hid hrd
       clear hry hst11 hrd)
    | (go_at_call 17; (with_reducible refine (c_write HST9.out HSS6.out HL2.out H2.out.2.2.1).mono ?_); rintro e w10 ⟨rfl, s10, L10, hst10, hby10⟩; have HST10 := Lib.hid hst10; have HBY10 := Lib.hid hby10; clear hst10 hby10)
    | (go_at_call 57; (with_reducible refine (same_at w8 _ _ LB LB true HX8.out HRB8.out HKB.out HKB.out (decide_eq_true rfl)).mono ?_); rintro e w9 ⟨rfl, hb9⟩
       have HST9 := Lib.hid (HST8.out.below hb9)
       have cn9 := (hb9.cell (p := ⟨gn, on, none⟩) HGN.out).trans cn8
       clear hb9)
    | (go_at_call 35; (with_reducible refine (c_names HST7.out).mono ?_); rintro e w8 ⟨gn, on, cn, rfl, ⟨cn8, hgn⟩, hst8, hb8⟩
       have HGN := Lib.hid hgn
       have HST8 := Lib.hid hst8
       have HX8 := Lib.hid (HX7.out.toA.below hb8)
       have HRB8 := Lib.hid (HRB.out.below hst8.bel)
       clear hgn hst8 hb8)
    | (go_at_call 58; (with_reducible refine (c_load HST6.out (byt_one _ _ _) HKB.out).mono ?_); rintro e w7 ⟨Ax, nx, cx, rfl, hrx, hst7, _⟩
       have HX7 := Lib.hid hrx
       have HST7 := Lib.hid hst7
       clear hrx hst7))
  by_cases hd0 : d = 0
  · have hf0 : f = 0 := by rw [HDD.out.2, if_pos hd0]
    subst hd0 hf0
    go_wp2_with (first
      | (go_at_call 57; (with_reducible refine (same_ge w13 _ _ (decL L2) HY13.out HZ13.out HBD.out).mono ?_); rintro e w14 ⟨rfl, hb14⟩; have HB14 := Lib.hid (HB13.out.trans (hb14.mono HB13.out.size)); clear hb14)
      | (go_at_call 54; (with_reducible refine (known_any w12).mono ?_); rintro e w13 ⟨rfl, hb13⟩
         have HY13 := Lib.hid (HY12.out.below hb13)
         have HZ13 := Lib.hid (HZ.out.toA.below hb13)
         have HB13 := Lib.hid (HB12.out.trans (hb13.mono HB12.out.size))
         clear hb13))
    go_ret
    exact ⟨rfl, HB14.out⟩
  · have hf0 : f = 13 := by rw [HDD.out.2, if_neg hd0]
    have hny : ny = 0 := by
      have h1 := rows_len HY12.out
      have h2 : decL L2 = [] := by unfold decL; rw [if_neg (by rw [← HDD.out.1]; exact hd0)]
      rw [h2] at h1
      exact h1
    subst hf0 hny
    go_wp2_with (first
      | (go_at_call 54; (with_reducible refine (known_any w12).mono ?_); rintro e w13 ⟨rfl, hb13⟩
         have HB13 := Lib.hid (HB12.out.trans (hb13.mono HB12.out.size))
         clear hb13))
    go_ret
    exact ⟨rfl, HB13.out⟩
end Go.Proofs.Ytklngdmpledgeaa.Sp

namespace Go.Proofs.Ytklngdmpledgeaa.Fr
open Go.ChangeShapes Go.WideShapes Go.ChangeAt Go.RowKit Go.Joins Go.Deep

/-- A slice of bytes that came in holds bytes. -/
theorem open_bytes {H : Type} {enc : TypeId × Value → H} {w : World} {held : Bool} {fuel : Nat} {cs : List Value} {x : DataW H × List MemPlace} (h : DataW.trod enc Try.prog w 0 (fun _ => true) held fuel 32 cs = some x) :
    ∃ A len cap l, cs = [.slice A len cap] ∧ BAt w (.slice A len cap) l ∧ bok l := by
  rcases open_ints Try.underlying32 Try.underlying5 (by kernel_rfl) h with ⟨hcs, _⟩ | ⟨a, len, c, zs, hcs, _, hl, hm, hz, _, hcell, hwz⟩
  · exact ⟨none, 0, 0, [], hcs, BAt.nil w, fun x hx => absurd hx (List.not_mem_nil)⟩
  · have hzl : len ≤ zs.length := by simp at hz; omega
    have hll : (zs.take len).length = len := by rw [List.length_take]; omega
    refine ⟨some a, len, c, zs.take len, hcs, ⟨some a, c, by rw [hll], by rw [hll]; omega, fun hp => ?_⟩, fun y hy => ?_⟩
    · rw [hll] at hp ⊢
      obtain ⟨b, off, spot⟩ := a
      have hc := hcell 0 (by omega)
      have hspot : spot = none := by simpa [Addr.add] using World.cell?_spot hc
      subst hspot
      refine ⟨b, off, rfl, ?_, fun i hi => ?_⟩
      · have := World.block_lt_of_cell? _ _ hc
        simpa [Addr.add] using this
      · have := hcell i (by omega)
        rw [show (Addr.mk b off none).add i = ⟨b, off + i, none⟩ by unfold Addr.add; split <;> simp_all] at this
        rw [this, getD_take hi]
    · have := hwz y (List.mem_of_mem_take hy)
      simp [Lit.wf, IntKind.min, IntKind.max, IntKind.signed, IntKind.bits] at this
      omega
end Go.Proofs.Ytklngdmpledgeaa.Fr

namespace Go.Proofs.Ytklngdmpledgeaa.Fr
open Go.ChangeShapes Go.WideShapes Go.ChangeAt Go.RowKit Go.Joins Go.Deep

theorem rows_list {Q : Nat → List Int → Prop} (m : Nat) (h : ∀ i, i < m → ∃ p, Q i p) : ∃ ps : List (List Int), ps.length = m ∧ ∀ i p, ps[i]? = some p → Q i p := by
  induction m with
  | zero => exact ⟨[], rfl, fun i p hp => by simp at hp⟩
  | succ m ih =>
    obtain ⟨ps, h1, h2⟩ := ih (fun i hi => h i (by omega))
    obtain ⟨p, hp⟩ := h m (by omega)
    refine ⟨ps ++ [p], by simp [h1], fun i q hq => ?_⟩
    rcases Nat.lt_or_ge i ps.length with hi | hi
    · rw [List.getElem?_append_left hi] at hq
      exact h2 i q hq
    · rw [List.getElem?_append_right hi] at hq
      have hi0 : i - ps.length = 0 := by
        rcases Nat.eq_zero_or_pos (i - ps.length) with h0 | h0
        · exact h0
        · rw [List.getElem?_eq_none (by simp; omega)] at hq; cases hq
      rw [hi0] at hq
      have hqp : p = q := by simpa using hq
      subst hqp
      have : i = m := by omega
      subst this
      exact hp
theorem bytes_cellsOf : Try.prog.cellsOf 32 = 1 := by kernel_rfl
/-- A slice of slices of bytes that came in. -/
theorem open_rows {H : Type} {enc : TypeId × Value → H} {w : World} {held : Bool} {fuel : Nat} {cs : List Value} {x : DataW H × List MemPlace} (h : DataW.trod enc Try.prog w 0 (fun _ => true) held fuel 60 cs = some x) :
    ∃ A len cap, cs = [.slice A len cap] ∧ RIn w A len cap := by
  rcases open_slice Try.underlying60 h with h0 | ⟨a, len, cap, m, n, D, Pl, rfl, hb, hl, hm, hmm, rfl, hx⟩
  · exact ⟨none, 0, 0, h0.1, [], ⟨none, 0, rfl, Nat.le_refl _, fun h => absurd h (by decide)⟩, fun l hl => absurd hl (List.not_mem_nil)⟩
  · rw [if_pos rfl] at hmm
    have hcell : ∀ i, i < len → ∃ l : List Int, bok l ∧ ∃ u, w.cell? (a.add i) = some u ∧ BAt w u l := fun i hi => by
      obtain ⟨cs', h1, h2⟩ := hx i (by omega)
      rw [bytes_cellsOf, Nat.mul_one] at h1
      obtain ⟨_, hlen, hcell⟩ := World.cells?_some h1
      obtain ⟨A, n, c, l, h3, h4, h5⟩ := open_bytes h2
      subst h3
      have h6 := hcell 0 (by decide)
      have h7 : (a.add i).add 0 = a.add i := by unfold Addr.add; split <;> simp_all
      rw [h7] at h6
      exact ⟨l, h5, _, h6, h4⟩
    obtain ⟨ls, h1, h2⟩ := rows_list len hcell
    subst h1
    refine ⟨some a, _, cap, rfl, ls, ⟨some a, cap, rfl, hl, fun hp => ?_⟩, fun l hl => ?_⟩
    · obtain ⟨b, off, spot⟩ := a
      obtain ⟨_, _, u, hc, _⟩ := hcell 0 hp
      have hspot : spot = none := by simpa [Addr.add] using World.cell?_spot hc
      subst hspot
      refine ⟨b, off, rfl, ?_, fun i hi => ?_⟩
      · have := World.block_lt_of_cell? _ _ hc
        simpa [Addr.add] using this
      · obtain ⟨_, u, h3, h4⟩ := h2 i _ (List.getElem?_eq_getElem hi)
        rw [show (Addr.mk b off none).add i = ⟨b, off + i, none⟩ by unfold Addr.add; split <;> simp_all] at h3
        refine ⟨u, h3, ?_⟩
        rw [show ls.getD i [] = ls[i] by simp [List.getD, List.getElem?_eq_getElem hi]]
        exact h4
    · obtain ⟨i, hi⟩ := List.mem_iff_getElem?.1 hl
      exact (h2 i l hi).1
end Go.Proofs.Ytklngdmpledgeaa.Fr
