/-
  SnapEnds' law. Conditions: none.
-/
import Derived.Test.YtklngdmpledgeaaPB19
import Derived.Test.YtklngdmpledgeaaPB22
import Derived.Test.YtklngdmpledgeaaPB5
import Derived.Test.YtklngdmpledgeaaFRef
namespace Go.Proofs.Ytklngdmpledgeaa.Sp
open Go.RowKit Fr Sr

theorem pat_below {w w' : World} {v : Value} {ls : List (List Int)} (h : PAt w v ls) (hb : Below w.heap.size w w') : PAt w' v ls := by
  obtain ⟨A, cap, e, hc, h1⟩ := h
  refine ⟨A, cap, e, hc, fun hp => ?_⟩
  obtain ⟨g, o, e2, hg, h2⟩ := h1 hp
  refine ⟨g, o, e2, Nat.lt_of_lt_of_le hg hb.size, fun i hi => ?_⟩
  obtain ⟨u, h3, h4⟩ := h2 i hi
  exact ⟨u, (hb.cell (p := ⟨g, o + i, none⟩) hg).trans h3, h4.kept hb⟩
theorem same_at (w : World) (u v : Value) (bs rs : List (List Int)) (q : Bool) (hu : RowsA w u bs) (hv : RowsA w v rs) (h1 : FewB bs) (h2 : FewB rs) (hq : decide (bs = rs) = q) :
    Calls Try.prog 57 #[u, v] w fun e w' => e = .returned (.bool q) ∧ Below w.heap.size w w' := by
  have h := rsame_any w u v bs rs hu hv (by have := h1.len; omega) (by have := h2.len; omega) (fun b hb => (h1.bok b hb).2) (fun b hb => (h2.bok b hb).2)
  rw [hq] at h
  exact h
set_option maxRecDepth 100000 in
set_option maxHeartbeats 8000000 in
theorem law_ends (w : World) (A0 : Option Addr) (n0 c0 : Nat) (h0 : RIn w A0 n0 c0) (A1 : Option Addr) (n1 c1 : Nat) (h1 : RIn w A1 n1 c1) (x : Int) :
    Calls Try.prog 12 #[.slice A0 n0 c0, .slice A1 n1 c1, .int .i64 x] w fun e w' => e = .returned (.bool true) ∧ Below w.heap.size w w' := by
  obtain ⟨la, hpa, hba⟩ := h0
  obtain ⟨lb, hpb, hbb⟩ := h1
  have HFA := Lib.hid (few_any w A0 n0 c0 la hpa)
  have HPB := Lib.hid hpb
  have hka := few_ok hba
  have hkb := few_ok hbb
  obtain ⟨LA, hLA⟩ : ∃ LA, LA = fewS la := ⟨_, rfl⟩
  obtain ⟨LB, hLB⟩ : ∃ LB, LB = fewS lb := ⟨_, rfl⟩
  rw [← hLA] at HFA hka
  rw [← hLB] at hkb
  have HKA := Lib.hid hka
  have HKB := Lib.hid hkb
  have HLB := Lib.hid hLB
  have hu : 0 ≤ (IntKind.u64.wrap x).tmod 200 ∧ (IntKind.u64.wrap x).tmod 200 ≤ 199 := by
    have h1 : 0 ≤ IntKind.u64.wrap x := by rw [IntKind.wrap_u64]; omega
    rw [Int.tmod_eq_emod_of_nonneg h1]; omega
  obtain ⟨u, hu2⟩ : ∃ u : Nat, (IntKind.u64.wrap x).tmod 200 = (u : Int) := ⟨((IntKind.u64.wrap x).tmod 200).toNat, by omega⟩
  rw [hu2] at hu
  obtain ⟨u0, u1⟩ := hu
  clear hpa hba hpb hbb hka hkb hLA hLB
  go_enter Try.func12, Try.ntmps12
  go_upto_region 7 with (first
    | (go_at_call 59; (with_reducible refine (c_save2 HST5.out HAR5.out (by have := HKA.out.tot; rw [encS_len]; omega) HRB.out HKB.out).mono ?_); rintro e w6 ⟨E, rfl, R, hER, s6, L6, hst6, hR⟩
       have HST6 := Lib.hid hst6
       have HER := Lib.hid hER
       have HR6 := Lib.hid hR
       clear hst6 hER hR)
    | (go_at_call 25; (with_reducible refine (c_arm (u := u) HST4.out HSS4.out (by omega)).mono ?_); rintro e w5 ⟨rfl, s5, hst5, har5⟩; have HST5 := Lib.hid hst5; have HAR5 := Lib.hid har5; clear hst5 har5)
    | (go_at_call 59; (with_reducible refine (c_save1 HST3.out ⟨rfl, rfl, rfl⟩ (.inl ⟨rfl, rfl⟩) HRA.out HKA.out).mono ?_); rintro e w4 ⟨rfl, s4, v4, hst4, hss4⟩; have HST4 := Lib.hid hst4; have HSS4 := Lib.hid hss4; clear hst4 hss4)
    | (go_at_call 14; (with_reducible refine (c_new w2 10000 (by decide) (by decide)).mono ?_); rintro e w3 ⟨rfl, hst3⟩; have HST3 := Lib.hid hst3; clear hst3)
    | (go_at_call 50; (with_reducible refine HFB.out.mono ?_); rintro e w2 ⟨Ab, nb, cb, rfl, hrb, hb2⟩
       have HRA := Lib.hid (HRA1.out.below hb2)
       have HRB : Hid (RowsA w2 (.slice Ab nb cb) LB) := Lib.hid (by rw [HLB.out]; exact hrb)
       have HB2 := Lib.hid (HB1.out.trans (hb2.mono HB1.out.size))
       clear hrb hb2)
    | (go_at_call 50; (with_reducible refine HFA.out.mono ?_); rintro e w1 ⟨Aa, na, ca, rfl, hra, hb1⟩
       have HRA1 := Lib.hid hra
       have HB1 := Lib.hid hb1
       have HFB := Lib.hid (few_any w1 A1 n1 c1 lb (pat_below HPB.out hb1))
       clear hra hb1))
  obtain ⟨rs, hrs, hfw, hcs⟩ : ∃ rs, R = encS rs ∧ FewB rs ∧ ((E = 0 ∧ rs = LB) ∨ (E = 14 ∧ rs = LA)) := by
    rcases HER.out with ⟨h, h2⟩ | ⟨h, h2⟩
    · exact ⟨LB, h2, HKB.out, .inl ⟨h, rfl⟩⟩
    · exact ⟨LA, h2, HKA.out, .inr ⟨h, rfl⟩⟩
  rw [hrs] at HR6
  have HFW := Lib.hid hfw
  have HCS := Lib.hid hcs
  clear hrs hfw hcs
  go_upto_region 10 with (first
    | (go_at_call 58; (with_reducible refine (c_load HST8.out HR6.out HFW.out).mono ?_); rintro e w9 ⟨Ay, ny, cy, rfl, hry, hst9, hb9⟩
       have HX9 := Lib.hid (HX8.out.toA.below hb9)
       have HY9 := Lib.hid hry.toA
       have HST9 := Lib.hid hst9
       clear hry hst9 hb9)
    | (go_at_call 26; (with_reducible refine (c_rev HST7.out).mono ?_); rintro e w8 ⟨rfl, ⟨s8, hst8⟩, hsz8, hk8⟩
       have HST8 := Lib.hid hst8
       have HX8 := Lib.hid (HX7.out.kept hk8 hsz8)
       clear hst8 hsz8 hk8)
    | (go_at_call 58; (with_reducible refine (c_load HST6.out HR6.out HFW.out).mono ?_); rintro e w7 ⟨Ax, nx, cx, rfl, hrx, hst7, hb7⟩
       have HX7 := Lib.hid hrx
       have HST7 := Lib.hid hst7
       clear hrx hst7 hb7))
  have hbel9 := HB2.out.trans (HST9.out.bel.mono HB2.out.size)
  have HBEL9 := Lib.hid hbel9
  have HRA9 := Lib.hid (HRA.out.below HST9.out.bel)
  have HRB9 := Lib.hid (HRB.out.below HST9.out.bel)
  clear hbel9
  rcases HCS.out with ⟨hE, hR⟩ | ⟨hE, hR⟩
  · subst hE hR
    go_wp2_with (first
      | (go_at_call 57; (with_reducible refine (same_at w11 _ _ rs rs true HY11.out HRB11.out HFW.out HFW.out (decide_eq_true rfl)).mono ?_); rintro e w12 ⟨rfl, hb12⟩; have HB12 := Lib.hid (HBEL11.out.trans (hb12.mono HBEL11.out.size)); clear hb12)
      | (go_at_call 57; (with_reducible refine (same_at w10 _ _ rs rs true HX10.out HY10.out HFW.out HFW.out (decide_eq_true rfl)).mono ?_); rintro e w11 ⟨rfl, hb11⟩
         have HY11 := Lib.hid (HY10.out.below hb11)
         have HRB11 := Lib.hid (HRB10.out.below hb11)
         have HBEL11 := Lib.hid (HBEL10.out.trans (hb11.mono HBEL10.out.size))
         clear hb11)
      | (go_at_call 54; (with_reducible refine (known_any w9).mono ?_); rintro e w10 ⟨rfl, hb10⟩
         have HX10 := Lib.hid (HX9.out.below hb10)
         have HY10 := Lib.hid (HY9.out.below hb10)
         have HRB10 := Lib.hid (HRB9.out.below hb10)
         have HBEL10 := Lib.hid (HBEL9.out.trans (hb10.mono HBEL9.out.size))
         clear hb10))
    go_ret
    exact ⟨rfl, HB12.out⟩
  · subst hE hR
    go_wp2_with (first
      | (go_at_call 57; (with_reducible refine (same_at w11 _ _ rs rs true HY11.out HRA11.out HFW.out HFW.out (decide_eq_true rfl)).mono ?_); rintro e w12 ⟨rfl, hb12⟩; have HB12 := Lib.hid (HBEL11.out.trans (hb12.mono HBEL11.out.size)); clear hb12)
      | (go_at_call 57; (with_reducible refine (same_at w10 _ _ rs rs true HX10.out HY10.out HFW.out HFW.out (decide_eq_true rfl)).mono ?_); rintro e w11 ⟨rfl, hb11⟩
         have HY11 := Lib.hid (HY10.out.below hb11)
         have HRA11 := Lib.hid (HRA10.out.below hb11)
         have HBEL11 := Lib.hid (HBEL10.out.trans (hb11.mono HBEL10.out.size))
         clear hb11)
      | (go_at_call 54; (with_reducible refine (known_any w9).mono ?_); rintro e w10 ⟨rfl, hb10⟩
         have HX10 := Lib.hid (HX9.out.below hb10)
         have HY10 := Lib.hid (HY9.out.below hb10)
         have HRA10 := Lib.hid (HRA9.out.below hb10)
         have HBEL10 := Lib.hid (HBEL9.out.trans (hb10.mono HBEL9.out.size))
         clear hb10))
    go_ret
    exact ⟨rfl, HB12.out⟩
end Go.Proofs.Ytklngdmpledgeaa.Sp

namespace Go.Proofs.Ytklngdmpledgeaa.Oc
open Go.RowKit

theorem own_one (w : World) (x : Int) : (w.alloc (.cells #[.int .u8 x] 5)).ownsRow w.heap.size 5 1 (.slice (some ⟨w.heap.size, 0, none⟩) 1 1) 1 [.int .u8 x] :=
  ⟨rfl, .inr ⟨w.heap.size, 1, #[.int .u8 x], rfl, Nat.le_refl _, heap_alloc_new w _, Nat.le_refl _, by unfold maxLen; omega, rfl, rfl⟩⟩
set_option maxRecDepth 100000 in
theorem fgroups_lv (k : Nat) : ∀ (m : Nat) (w : World), m < 2 * 128 ^ k → k ≤ 9 → Calls Try.prog 105 #[.int .u64 (m : Int)] w fun e w' => ∃ v, e = .returned v ∧ w'.ownsRow w.heap.size 5 1 v (grpF k m).length (bv (grpF k m)) ∧ Below w.heap.size w w' := by
  obtain ⟨i0, hi0, hz0, hz1, hz2⟩ := info_parts u8Inf
  induction k with
  | zero =>
    intro m w hm _
    have hm2 : m < 2 := by simpa using hm
    have t1 : (m : Int) < 128 := by omega
    have HO := Lib.hid (own_one w (m : Int))
    have HB : Hid (Below w.heap.size w (w.alloc (.cells #[.int .u8 (m : Int)] 5))) := (Below.refl _ _).alloc (Nat.le_refl _) _
    clear hm
    go_enter Try.func105, Try.ntmps105
    go_wp2
    go_ret
    exact ⟨_, rfl, HO.out, HB.out⟩
  | succ k ih =>
    intro m w hm hk9
    by_cases h : m < 128
    · rw [grpF_one h]
      have t1 : (m : Int) < 128 := by omega
      have HO := Lib.hid (own_one w (m : Int))
      have HB : Hid (Below w.heap.size w (w.alloc (.cells #[.int .u8 (m : Int)] 5))) := (Below.refl _ _).alloc (Nat.le_refl _) _
      clear hm ih
      go_enter Try.func105, Try.ntmps105
      go_wp2
      go_ret
      exact ⟨_, rfl, HO.out, HB.out⟩
    · have hle : (128 : Nat) ^ (k + 1) ≤ 128 ^ 9 := Nat.pow_le_pow_right (by decide) hk9
      have e9 : (128 : Nat) ^ 9 = 9223372036854775808 := by decide
      have t1 : ¬ (m : Int) < 128 := by omega
      have t2 : (m : Int) < 18446744073709551616 := by omega
      obtain ⟨c, hc⟩ : ∃ c, c = m % 128 := ⟨_, rfl⟩
      obtain ⟨q, hq⟩ : ∃ q, q = m / 128 := ⟨_, rfl⟩
      have e1 : (m : Int) % 128 = (c : Int) := by omega
      have e2 : (m : Int) / 128 = (q : Int) := by omega
      have HC := Lib.hid (ih q (w.alloc (.cells #[.int .u8 ((c : Int) + 128)] 5)) (by rw [Nat.pow_succ] at hm; omega) (by omega))
      have HG : Hid (grpF (k + 1) m = ((c : Int) + 128) :: grpF k q) := by show _ = _; rw [grpF_more h, hc, hq]
      have HO := Lib.hid (own_one w ((c : Int) + 128))
      have HB : Hid (Below w.heap.size w (w.alloc (.cells #[.int .u8 ((c : Int) + 128)] 5))) := (Below.refl _ _).alloc (Nat.le_refl _) _
      have hlen := grpF_len k q
      have c1 : c < 128 := by omega
      obtain ⟨L, hL⟩ : ∃ L, L = grpF k q := ⟨_, rfl⟩
      rw [HG.out]
      rw [← hL] at HC hlen ⊢
      clear hm ih hc hq hle e9 h HG hL
      go_enter Try.func105, Try.ntmps105
      go_wp2_with (first
        | (at_builtin; refine wpList_append_own _ rfl _ _ 32 rfl w.heap.size 5 i0 (.int .u8 0) 1 1 Try.underlying32 hi0 hz0 hz1 hz2 rfl (by decide) _ _ _ rfl HO1.out ⟨g, 0, none⟩ L.length cp (bv L) rfl (by rw [bv_len]; omega) HL1.out (bv_one _) (by unfold maxLen; omega) (by omega) (by have := B1.out.size; omega) ?_; intro v' w2 hown hgrow hnil)
        | (go_at_call 105; refine HC.out.mono ?_; rintro e w1 ⟨v, rfl, ho1, hb1⟩
           obtain ⟨g, cp, rfl, hbg, _⟩ := ho1.form (by omega)
           have HL1 := Lib.hid (ho1.cells (g := g) rfl)
           have HO1 := Lib.hid (ownsRow_kept HO.out (fun g2 hg2 => hb1.block g2 (HO.out.lt g2 hg2).2))
           have B1 := Lib.hid (HB.out.trans (hb1.mono HB.out.size))
           clear ho1 hb1))
      go_ret
      refine ⟨v', rfl, ?_, B1.out.grown hgrow B1.out.size (fun j hj => (HO1.out.lt j hj).1)⟩
      rw [Nat.add_comm]
      exact hown
theorem fgroups_any (w : World) (m : Nat) (h : m < 18446744073709551616) : Calls Try.prog 105 #[.int .u64 (m : Int)] w fun e w' => ∃ v, e = .returned v ∧ w'.ownsRow w.heap.size 5 1 v (grp m).length (bv (grp m)) ∧ Below w.heap.size w w' :=
  fgroups_lv 9 m w (by rw [pow9]; exact h) (Nat.le_refl _)
end Go.Proofs.Ytklngdmpledgeaa.Oc

namespace Go.Proofs.Ytklngdmpledgeaa.Sp
open Go.RowKit Fr
attribute [local go_sem] Oper.semAt_some

/-- While the reference encodes. -/
def EQ (w : World) (ls : List (List Int)) (i : Nat) (v : Value) (wx : World) : Prop := wx.ownsRow w.heap.size 5 1 v (Oc.grp ls.length ++ flat (ls.take i)).length (bv (Oc.grp ls.length ++ flat (ls.take i))) ∧ Below w.heap.size w wx
set_option maxRecDepth 100000 in
set_option maxHeartbeats 8000000 in
theorem rencode_any (w : World) (A : Option Addr) (n c : Nat) (ls : List (List Int)) (h : RowsA w (.slice A n c) ls) (hf : FewB ls) :
    Calls Try.prog 55 #[.slice A n c] w fun e w' => ∃ A' q c', e = .returned (.slice A' q c') ∧ q = tot ls ∧ BAt w' (.slice A' q c') (encS ls) ∧ Below w.heap.size w w' := by
  have hl := rows_len h
  have hn := hf.len
  have hwn : IntKind.u64.wrap (n : Int) = (n : Int) := by rw [IntKind.wrap_u64]; omega
  have HG0 := Lib.hid (Oc.fgroups_any w n (by omega))
  have HH := Lib.hid h
  have HF := Lib.hid hf
  have HL : Hid (n = ls.length ∧ n ≤ 20) := ⟨hl, by omega⟩
  have hpart : ∀ i, i ≤ n → (Oc.grp ls.length ++ flat (ls.take i)).length ≤ 1300 := fun i hi => by
    have h1 := part_mono ls (i := i) (by omega)
    have h2 := hf.tot
    unfold part at h1
    rw [List.length_append]; omega
  have HPT := Lib.hid hpart
  clear h hl hn hf hpart
  go_enter Try.func55, Try.ntmps55
  go_wp2_with (first
    | (go_at_call 105; (with_reducible refine HG0.out.mono ?_); rintro e w1 ⟨v1, rfl, ho1, hb1⟩
       have HE1 : Hid (EQ w ls 0 v1 w1) := by
         have e : Oc.grp ls.length ++ flat (ls.take 0) = Oc.grp n := by rw [HL.out.1]; simp [flat]
         refine Lib.hid ?_
         unfold EQ
         rw [e]
         exact ⟨ho1, hb1⟩
       clear ho1 hb1))
  go_loopg [3, 4] n (fun (gh : Nat) s3 s4 wx => ∃ i : Nat, gh = n - i ∧ i ≤ n ∧ s4 = .int .i64 (i : Int) ∧ Hid (EQ w ls i s3 wx))
  case atStart => exact ⟨0, rfl, Nat.zero_le _, rfl, HE1.out⟩
  case round =>
    clear HE1
    obtain ⟨i, rfl, hi, rfl, HI⟩ := hrel
    by_cases hlt : i < n
    · have t2 : (i : Int) < (n : Int) := by omega
      have t3 : (0 : Int) ≤ (i : Int) := by omega
      have HLT := Lib.hid hlt
      obtain ⟨hog, hbx⟩ := id HI.out
      obtain ⟨g, o, Au, q, cu, l, rfl, hli, hq, hc, hba⟩ := rows_at HH.out hlt
      have hgl : g < w.heap.size := World.block_lt_of_cell? _ _ hc
      have hqb : q ≤ 2000000 := by rw [hq]; exact (HF.out.bok l (List.mem_of_getElem? hli)).2
      have hwq : IntKind.u64.wrap (q : Int) = (q : Int) := by rw [IntKind.wrap_u64]; omega
      have cx : wr.cell? ⟨g, o + i, none⟩ = some (.slice Au q cu) := (hbx.cell (p := ⟨g, o + i, none⟩) hgl).trans hc
      have HG := Lib.hid (Oc.fgroups_any wr q (by omega))
      have HX : Hid (ls[i]? = some l ∧ q = l.length ∧ BAt w (.slice Au q cu) l ∧ w.cell? ⟨g, o + i, none⟩ = some (.slice Au q cu) ∧ g < w.heap.size) := ⟨hli, hq, hba, hc, hgl⟩
      have hw9 : IntKind.i64.wrap ((i : Int) + 1) = ((i + 1 : Nat) : Int) := by have := HL.out.2; have := HLT.out; rw [IntKind.wrap_i64]; omega
      clear hlt hog hbx hli hq hba hc hgl hqb
      go_wp2_with (first
        | (at_builtin; refine Lib.wpList_append_run _ rfl _ _ 32 32 rfl _ _ rfl rfl _ _ HR5.out ?_)
        | (at_builtin; refine Lib.wpList_append_run _ rfl _ _ 32 32 rfl _ _ rfl rfl _ _ HR6.out ?_)
        | (go_at_call 105; (with_reducible refine HG.out.mono ?_); rintro e w2 ⟨vg, rfl, ho2, hb2⟩
           obtain ⟨hog, hbx⟩ := id HI.out
           obtain ⟨Ag, ng, cg, rfl⟩ : ∃ A n c, vg = Value.slice A n c := by obtain ⟨A, c, h, _⟩ := BAt.of_own ho2; exact ⟨A, _, c, h⟩
           have h8 := HPT.out (i + 1) HLT.out
           rw [flat_snoc HX.out.1] at h8
           have hgq := (Oc.grp_len q).1
           have own2 := Oc.ownsRow_kept hog (fun k hk => hb2.block k (hog.lt k hk).2)
           obtain ⟨A5, c5, w5, hr5, ho5, hg5⟩ := app_any w2 w.heap.size _ _ own2 _ _ (BAt.of_own ho2) (by simp only [List.length_append, recB] at h8 ⊢; have := HX.out.2.1; omega) (by have := hbx.size; have := hb2.size; omega)
           have hb5 : Below w.heap.size w w5 := (hbx.trans (hb2.mono hbx.size)).grown hg5 (by have := hbx.size; have := hb2.size; omega) (fun k hk => (own2.lt k hk).1)
           obtain ⟨A6, c6, w6, hr6, ho6, hg6⟩ := app_any w5 w.heap.size _ _ ho5 _ _ (HX.out.2.2.1.kept hb5) (by simp only [List.length_append, recB] at h8 ⊢; have := HX.out.2.1; omega) hb5.size
           have cx5 : w5.cell? ⟨g, o + i, none⟩ = some (.slice Au q cu) := (hb5.cell (p := ⟨g, o + i, none⟩) HX.out.2.2.2.2).trans HX.out.2.2.2.1
           obtain ⟨k5, hk5⟩ : ∃ k5, k5 = (Oc.grp ls.length ++ flat (ls.take i)).length + (Oc.grp q).length := ⟨_, rfl⟩
           rw [← hk5] at hr5 hr6
           obtain ⟨k6, hk6⟩ : ∃ k6, k6 = (Oc.grp ls.length ++ flat (ls.take i) ++ Oc.grp q).length + l.length := ⟨_, rfl⟩
           rw [← hk6] at hr6 ho6
           have HE6 : Hid (EQ w ls (i + 1) (.slice A6 k6 c6) w6) := by
             refine Lib.hid ?_
             have e6 : Oc.grp ls.length ++ flat (ls.take (i + 1)) = Oc.grp ls.length ++ flat (ls.take i) ++ Oc.grp q ++ l := by
               rw [flat_snoc HX.out.1, HX.out.2.1]
               simp [recB]
             unfold EQ
             rw [e6]
             exact ⟨ho6, hb5.grown hg6 hb5.size (fun k hk => (ho5.lt k hk).1)⟩
           have HR5 := Lib.hid hr5
           have HR6 := Lib.hid hr6
           clear hog hbx ho2 hb2 h8 hgq own2 hr5 ho5 hg5 hb5 hr6 ho6 hg6 hk5 hk6))
      go_roundg (n - (i + 1))
      case measure => have := HLT.out; omega
      case rel =>
        have h9 := HL.out.2
        have h8 := HLT.out
        exact ⟨i + 1, rfl, h8, by first | rfl | go_num | rw [hw9], HE6.out⟩
    · have hil : i = n := by omega
      subst hil
      have t2 : ¬ (i : Int) < (i : Int) := by omega
      obtain ⟨hog, hbx⟩ := id HI.out
      have eB : Oc.grp ls.length ++ flat (ls.take i) = bodyS ls := by rw [HL.out.1, List.take_length]; rfl
      rw [eB] at hog
      obtain ⟨m, hm⟩ : ∃ m, m = (bodyS ls).length := ⟨_, rfl⟩
      have hba := BAt.of_own hog
      obtain ⟨Ab, cb, rfl, _⟩ := id hba
      rw [← hm] at hba
      have htot := HF.out.tot
      have hz : tot ls = m + 8 := by unfold tot; rw [hm]
      have HMK := Lib.hid (rmake_any wr Ab m cb (m + 8) (bodyS ls) hba (body_bok HF.out.bok (by have := HF.out.len; omega)) (by omega) rfl)
      have HBX := Lib.hid hbx
      have HZ := Lib.hid hz
      rw [← hm]
      clear hog hbx eB hm hba htot hz HI
      go_wp2_with (first
        | (go_at_call 106; (with_reducible refine HMK.out.mono ?_); rintro e w5 ⟨A5, c5, rfl, ha5, hb5⟩; have HA5 := Lib.hid ha5; have HB5 := Lib.hid (HBX.out.trans (hb5.mono HBX.out.size)); clear ha5 hb5))
      go_ret
      exact ⟨A5, m + 8, c5, rfl, HZ.out.symm, HA5.out, HB5.out⟩
end Go.Proofs.Ytklngdmpledgeaa.Sp
