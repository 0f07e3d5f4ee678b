/-
  The law NoteEncodes. Conditions: the table of kinds lies as the program's text lays it; the note's numbers are machine numbers.
-/
import Derived.Test.YteahloddjekakaaDoorNM9
import Derived.Test.YteahloddjekakaaDoorNM19
import Derived.Test.YteahloddjekakaaDoorNDec
import Derived.Test.YteahloddjekakaaDoorNTo
import Derived.Test.YteahloddjekakaaDoorNM20
import Derived.Test.YteahloddjekakaaDoorNM21
namespace Go.Proofs.YteahloddjekakaaDoor.Nt
open Go.RowKit Td

theorem note_ex (er : Int) (l : List Int) : ∃ x e7 l7, NoteR er l x e7 l7 := by
  cases h : kc (mK er l)
  · exact ⟨_, _, _, .inl ⟨h, rfl, rfl, rfl⟩⟩
  · by_cases hw : wideOk (six er l).1 (six er l).2.2
    · exact ⟨_, _, _, .inr (.inl ⟨h, hw, rfl, rfl, rfl⟩)⟩
    · exact ⟨_, 1, [], .inr (.inr ⟨h, hw, by decide, rfl⟩)⟩
/-- Decode of a right note's bytes. -/
theorem dec_yes {m : Nat} {x : Nt} {lr : List Rw} (H : Rit m x lr) (N : Num x lr) (hc : chkN x lr = 0) {e : Ending} {w : World} (h : DecR (encB m x x.d.toNat x.lo.toNat lr) e w) : ∃ A c, e = .returned (.tuple #[.agg #[.int .i64 x.k, .int .i64 x.p, .int .i64 x.d, .int .i64 x.t.n, .string x.t.b, .string x.t.s, .string x.t.i, .int .i64 x.t.q, .int .i64 x.t.p, .string x.n, .int .i64 x.a, .slice A lr.length c, .int .i64 x.hi, .int .u64 x.lo], .int .i64 0]) ∧ RR w A lr := by
  obtain ⟨z, e7, l7, hz⟩ := note_ex 0 (encB m x x.d.toNat x.lo.toNat lr)
  obtain ⟨h1, h2⟩ := fwd H N z e7 l7
  obtain ⟨rfl, rfl, rfl⟩ := h2 hz
  rcases h with ⟨er, _, _, h4⟩ | ⟨A, n, c, y, h3, h4, h5, h6, _⟩
  · exact absurd ⟨hz, by rw [h1]; exact hc⟩ (h4 z)
  · have h7 := (fwd H N y 0 []).2 h6
    have h4 : Hid (n = lr.length) := by show n = lr.length; rw [h4.out, h1]
    rw [h1] at h5
    rw [h7.1, h4.out] at h3
    exact ⟨A, c, h3, h5⟩
set_option maxRecDepth 100000 in
set_option maxHeartbeats 8000000 in
theorem law_encodes (w : World) (hk : KinC w) (a y : Nt) (hy : Hid (y = cutN a)) (A : Option Addr) (n c : Nat) (la ml : List Rw) (hla : Hid (RR w A la)) (hn : Hid (n = la.length)) (hml : Hid (ml = cutR la)) (hnum : Num a la) :
    Calls Tryd.prog 4 #[.agg #[.int .i64 a.k, .int .i64 a.p, .int .i64 a.d, .int .i64 a.t.n, .string a.t.b, .string a.t.s, .string a.t.i, .int .i64 a.t.q, .int .i64 a.t.p, .string a.n, .int .i64 a.a, .slice A n c, .int .i64 a.hi, .int .u64 a.lo]] w fun e w' => e = .returned (.bool true) ∧ Below w.heap.size w w' := by
  have E1 := block_new w (.cells #[.int .i64 a.k, .int .i64 a.p, .int .i64 a.d, .int .i64 a.t.n, .string a.t.b, .string a.t.s, .string a.t.i, .int .i64 a.t.q, .int .i64 a.t.p, .string a.n, .int .i64 a.a, .slice A n c, .int .i64 a.hi, .int .u64 a.lo] 27)
  have HB0 : Hid (Below w.heap.size w (w.alloc (.cells #[.int .i64 a.k, .int .i64 a.p, .int .i64 a.d, .int .i64 a.t.n, .string a.t.b, .string a.t.s, .string a.t.i, .int .i64 a.t.q, .int .i64 a.t.p, .string a.n, .int .i64 a.a, .slice A n c, .int .i64 a.hi, .int .u64 a.lo] 27))) := Lib.hid ((Below.refl _ _).alloc (Nat.le_refl _) _)
  have HLA := Lib.hid (hla.out.below HB0.out)
  have HK := Lib.hid (hk.kept HB0.out)
  have HNM : Hid (Num y ml) := by show Num y ml; rw [hy.out, hml.out]; exact num_cut hnum
  have HSM : Hid (SmN y ml) := by show SmN y ml; rw [hy.out, hml.out]; exact sm_cut a la
  clear hla hk hnum
  go_enter Tryd.func4, Tryd.ntmps4
  go_upto_region 1 with fail
  generalize w.alloc _ = W0 at E1 HB0 HLA HK ⊢
  obtain ⟨⟨x0, x1, x2, x3, x4, x5, x6⟩, x7, x8, x9, x10, x11, x12, x13⟩ := blk14 E1
  clear E1
  have HF1 := Lib.hid (to_any W0 a y hy A n c la HLA.out hn ml hml)
  go_upto_region 2 with (go_at_call 7; (with_reducible refine HF1.out.mono ?_); rintro e w1 ⟨A1, c1, rfl, hr1, _, _, hb1⟩; have HR1 := Lib.hid hr1; have HB1 := Lib.hid (HB0.out.trans (hb1.mono HB0.out.size)); have HK1 := Lib.hid (HK.out.kept hb1); clear hr1 hb1)
  have E5 := block_new w1 (.cells #[.int .i64 y.k, .int .i64 y.p, .int .i64 y.d, .int .i64 y.t.n, .string y.t.b, .string y.t.s, .string y.t.i, .int .i64 y.t.q, .int .i64 y.t.p, .string y.n, .int .i64 y.a, .slice A1 ml.length c1, .int .i64 y.hi, .int .u64 y.lo] 33)
  have HB5 : Hid (Below w1.heap.size w1 (w1.alloc (.cells #[.int .i64 y.k, .int .i64 y.p, .int .i64 y.d, .int .i64 y.t.n, .string y.t.b, .string y.t.s, .string y.t.i, .int .i64 y.t.q, .int .i64 y.t.p, .string y.n, .int .i64 y.a, .slice A1 ml.length c1, .int .i64 y.hi, .int .u64 y.lo] 33))) := Lib.hid ((Below.refl _ _).alloc (Nat.le_refl _) _)
  have HR5 := Lib.hid (HR1.out.below HB5.out)
  have HB5w := Lib.hid (HB1.out.trans (HB5.out.mono HB1.out.size))
  have HK5 := Lib.hid (HK1.out.kept HB5.out)
  generalize w1.alloc _ = W5 at E5 HB5 HR5 HB5w HK5 ⊢
  have HE5 := Lib.hid E5
  obtain ⟨b5, hb5⟩ : ∃ b, b = w1.heap.size := ⟨_, rfl⟩
  rw [← hb5] at HE5 E5 ⊢
  obtain ⟨⟨y0, y1, y2, y3, y4, y5, y6⟩, y7, y8, y9, y10, y11, y12, y13⟩ := blk14 E5
  clear E5 hb5 HB1 HR1 HK1 HF1 HLA HB0 HK x0 x1 x2 x3 x4 x5 x6 x7 x8 x9 x10 x11 x12 x13
  have HRq : Hid (RR W5 A1 ml ∧ ml.length ≤ 40) := ⟨HR5.out, by have := hml.out; rw [this, cutR_len]; omega⟩
  obtain ⟨q, hq⟩ : ∃ q, q = ml.length := ⟨_, rfl⟩
  have HQ := Lib.hid hq
  have hq40 : q ≤ 40 := by rw [hq]; exact HRq.out.2
  have HOF : Hid (Calls Tryd.prog 8 #[.agg #[.int .i64 y.k, .int .i64 y.p, .int .i64 y.d, .int .i64 y.t.n, .string y.t.b, .string y.t.s, .string y.t.i, .int .i64 y.t.q, .int .i64 y.t.p, .string y.n, .int .i64 y.a, .slice A1 q c1, .int .i64 y.hi, .int .u64 y.lo]] W5 fun e w' => ∃ A' c', e = .returned (.agg #[.int .i64 y.k, .int .i64 y.p, .int .i64 y.d, .int .i64 y.t.n, .string y.t.b, .string y.t.s, .string y.t.i, .int .i64 y.t.q, .int .i64 y.t.p, .string y.n, .int .i64 y.a, .slice A' q c', .int .i64 y.hi, .int .u64 y.lo]) ∧ RR w' A' ml ∧ Below W5.heap.size W5 w') := by
    have h := of_any W5 y y (Lib.hid rfl) A1 q c1 ml HR5 HQ (by omega) ml (Lib.hid rfl)
    rw [← hq] at h
    exact h.mono fun _ _ ⟨A', c', h1, h2, _, _, h3⟩ => ⟨A', c', h1, h2, h3⟩
  rw [← hq] at HE5 y11 ⊢
  clear hq HR5
  go_upto_region 3 with (go_at_call 8; (with_reducible refine HOF.out.mono ?_); rintro e w2 ⟨A2, c2, rfl, hr2, hb2⟩; have HR2 := Lib.hid hr2; have HB2 := Lib.hid hb2; clear hr2 hb2)
  have E6 := block_new w2 (.cells #[.int .i64 y.k, .int .i64 y.p, .int .i64 y.d, .int .i64 y.t.n, .string y.t.b, .string y.t.s, .string y.t.i, .int .i64 y.t.q, .int .i64 y.t.p, .string y.n, .int .i64 y.a, .slice A2 q c2, .int .i64 y.hi, .int .u64 y.lo] 27)
  have HB6 : Hid (Below W5.heap.size W5 (w2.alloc (.cells #[.int .i64 y.k, .int .i64 y.p, .int .i64 y.d, .int .i64 y.t.n, .string y.t.b, .string y.t.s, .string y.t.i, .int .i64 y.t.q, .int .i64 y.t.p, .string y.n, .int .i64 y.a, .slice A2 q c2, .int .i64 y.hi, .int .u64 y.lo] 27))) := Lib.hid (HB2.out.alloc HB2.out.size _)
  have HR6 := Lib.hid (HR2.out.below ((Below.refl _ w2).alloc (Nat.le_refl _) (.cells #[.int .i64 y.k, .int .i64 y.p, .int .i64 y.d, .int .i64 y.t.n, .string y.t.b, .string y.t.s, .string y.t.i, .int .i64 y.t.q, .int .i64 y.t.p, .string y.n, .int .i64 y.a, .slice A2 q c2, .int .i64 y.hi, .int .u64 y.lo] 27)))
  generalize w2.alloc _ = W6 at E6 HB6 HR6 ⊢
  obtain ⟨b6, hb6⟩ : ∃ b, b = w2.heap.size := ⟨_, rfl⟩
  rw [← hb6] at E6 ⊢
  have HKK := Lib.hid (HK5.out.kept HB6.out)
  have HR1 := Lib.hid (HRq.out.1.below HB6.out)
  have HBW := Lib.hid (HB5w.out.trans (HB6.out.mono HB5w.out.size))
  obtain ⟨⟨v0, v1, v2, v3, v4, v5, v6⟩, v7, v8, v9, v10, v11, v12, v13⟩ := blk14 (block_kept HE5.out HB6.out)
  have HE5b := Lib.hid (block_kept HE5.out HB6.out)
  have HE6 := Lib.hid E6
  clear E6 hb6 HB6 HB2 HR2 HOF y0 y1 y2 y3 y4 y5 y6 y7 y8 y9 y10 y11 y12 y13 HE5 HB5w HK5
  by_cases hc : chkN y ml = 0
  case neg =>
    have HEN := Lib.hid (enc_no W6 HKK.out y A1 q c1 ml HR1.out HQ.out HSM.out hc)
    have HCN := Lib.hid (fun W (hW : Below W6.heap.size W6 W) => rcheck_all W y A2 q c2 ml (Lib.hid (HR6.out.below hW)) HQ HSM (Lib.hid rfl))
    obtain ⟨r, hr⟩ : ∃ r, r = chkN y ml := ⟨_, rfl⟩
    rw [← hr] at hc HEN HCN
    clear hr
    go_upto_region 4 with (go_at_call 17; (with_reducible refine HEN.out.mono ?_); rintro e w7 ⟨rfl, hb⟩; have HB7 := Lib.hid hb; clear hb)
    obtain ⟨⟨u0, u1, u2, u3, u4, u5, u6⟩, u7, u8, u9, u10, u11, u12, u13⟩ := blk14 (block_kept HE6.out HB7.out)
    have hne : (r != r) = false := by simp
    go_wp2_with (first
      | (go_at_call 11; (with_reducible refine (HCN.out _ HB7.out).mono ?_); rintro e w8 ⟨rfl, hb⟩; have HB8 := Lib.hid (HB7.out.trans (hb.mono HB7.out.size)); clear hb)
      | (go_at_call 9; (with_reducible refine (known_any w8 (HKK.out.kept HB8.out)).mono ?_); rintro e w9 ⟨rfl, hb⟩; have HB9 := Lib.hid (HB8.out.trans (hb.mono HB8.out.size)); clear hb))
    go_ret
    exact ⟨rfl, HBW.out.trans (HB9.out.mono HBW.out.size)⟩
  case pos =>
    obtain ⟨m, hm⟩ := rit_of hc HSM.out
    have HM := Lib.hid hm
    have HEN := Lib.hid (enc_yes W6 HKK.out y A1 q c1 ml hm HNM.out HR1.out HQ.out HSM.out hc)
    have HCN := Lib.hid (fun W (hW : Below W6.heap.size W6 W) => rcheck_all W y A2 q c2 ml (Lib.hid (HR6.out.below hW)) HQ HSM (Lib.hid hc.symm))
    have HDE := Lib.hid (fun (e : Ending) (w : World) (h : DecR _ e w) => dec_yes hm HNM.out hc h)
    have HDC := Lib.hid (fun W (hW : KinC W) A' c' (h : Oc.BAt W (.slice A' (encB m y y.d.toNat y.lo.toNat ml).length c') (encB m y y.d.toNat y.lo.toNat ml)) (hbk : Oc.bok (encB m y y.d.toNat y.lo.toNat ml)) => decode_any W hW A' _ c' _ h hbk (Nat.le_trans (enc_le hm) (by decide)))
    have HRE := Lib.hid (fun W (hW : Below W6.heap.size W6 W) => renc_yes W y A2 q c2 ml hm HNM.out (HR6.out.below hW) HQ.out HSM.out)
    have HLE := Lib.hid (enc_le hm)
    have HBK : Hid (Oc.bok (encB m y y.d.toNat y.lo.toNat ml)) := enc_bok hm HNM.out
    obtain ⟨D, hD⟩ : ∃ D, D = encB m y y.d.toNat y.lo.toNat ml := ⟨_, rfl⟩
    rw [← hD] at HEN HDE HDC HRE HLE HBK
    obtain ⟨dl, hdl⟩ : ∃ n, n = D.length := ⟨_, rfl⟩
    rw [← hdl] at HEN HDC HLE
    have HDL := Lib.hid hdl
    have HML : ml.length ≤ 1000 := by rw [← HQ.out]; omega
    clear hD hdl hm hc
    go_upto_region 4 with (go_at_call 17; (with_reducible refine HEN.out.mono ?_); rintro e w7 ⟨A7, c7, rfl, hba, hb⟩; have HB7 := Lib.hid hb; have HBA := Lib.hid hba; clear hb hba)
    obtain ⟨⟨u0, u1, u2, u3, u4, u5, u6⟩, u7, u8, u9, u10, u11, u12, u13⟩ := blk14 (block_kept HE6.out HB7.out)
    go_upto_region 9 with (first
      | (go_at_call 11; (with_reducible refine (HCN.out _ HB7.out).mono ?_); rintro e w8 ⟨rfl, hb⟩; have HB8 := Lib.hid (HB7.out.trans (hb.mono HB7.out.size)); have HBA8 := Lib.hid (HBA.out.kept hb); clear hb)
      | (go_at_call 9; (with_reducible refine (known_any w8 (HKK.out.kept HB8.out)).mono ?_); rintro e w9 ⟨rfl, hb⟩; have HB9 := Lib.hid (HB8.out.trans (hb.mono HB8.out.size)); have HBA9 := Lib.hid (HBA8.out.kept hb); clear hb))
    go_upto_region 10 with (go_at_call 18; (with_reducible refine (HDC.out w9 (HKK.out.kept HB9.out) A7 c7 HBA9.out HBK.out).mono ?_); rintro e w10 ⟨hd, hb⟩; obtain ⟨A10, c10, rfl, hr10⟩ := HDE.out _ _ hd; have HB10 := Lib.hid (HB9.out.trans (hb.mono HB9.out.size)); have HBA10 := Lib.hid (HBA9.out.kept hb); have HR10 := Lib.hid hr10; clear hb hd hr10)
    have HBN : Hid (Below w10.heap.size w10 (w10.alloc (.cells #[.int .i64 y.k, .int .i64 y.p, .int .i64 y.d, .int .i64 y.t.n, .string y.t.b, .string y.t.s, .string y.t.i, .int .i64 y.t.q, .int .i64 y.t.p, .string y.n, .int .i64 y.a, .slice A10 ml.length c10, .int .i64 y.hi, .int .u64 y.lo] 33))) := Lib.hid ((Below.refl _ _).alloc (Nat.le_refl _) _)
    have E11 := block_new w10 (.cells #[.int .i64 y.k, .int .i64 y.p, .int .i64 y.d, .int .i64 y.t.n, .string y.t.b, .string y.t.s, .string y.t.i, .int .i64 y.t.q, .int .i64 y.t.p, .string y.n, .int .i64 y.a, .slice A10 ml.length c10, .int .i64 y.hi, .int .u64 y.lo] 33)
    have HB11 := Lib.hid (HB10.out.trans (HBN.out.mono HB10.out.size))
    have HBA11 := Lib.hid (HBA10.out.kept HBN.out)
    have HR11 := Lib.hid (HR10.out.below HBN.out)
    obtain ⟨W11, hW11⟩ : ∃ W, W = w10.alloc (.cells #[.int .i64 y.k, .int .i64 y.p, .int .i64 y.d, .int .i64 y.t.n, .string y.t.b, .string y.t.s, .string y.t.i, .int .i64 y.t.q, .int .i64 y.t.p, .string y.n, .int .i64 y.a, .slice A10 ml.length c10, .int .i64 y.hi, .int .u64 y.lo] 33) := ⟨_, rfl⟩
    obtain ⟨b11, hb11⟩ : ∃ b, b = w10.heap.size := ⟨_, rfl⟩
    rw [← hW11] at E11 HB11 HBA11 HR11 ⊢
    rw [← hb11] at E11 ⊢
    have HE11 := Lib.hid E11
    clear hW11 hb11 HBN E11 v0 v1 v2 v3 v4 v5 v6 v7 v8 v9 v10 v11 v12 v13 u0 u1 u2 u3 u4 u5 u6 u7 u8 u9 u10 u11 u12 u13
    obtain ⟨⟨u0, u1, u2, u3, u4, u5, u6⟩, u7, u8, u9, u10, u11, u12, u13⟩ := blk14 (block_kept HE6.out HB11.out)
    go_wp2_with (first
      | (go_at_call 20; (with_reducible refine (HRE.out _ HB11.out).mono ?_); rintro e w12 ⟨v12, rfl, hba, hb⟩; have HB12 := Lib.hid (HB11.out.trans (hb.mono HB11.out.size)); have HBX := Lib.hid hba; have HBA12 := Lib.hid (HBA11.out.kept hb); have HR12 := Lib.hid (HR11.out.below hb); have HE12 := Lib.hid (block_kept HE11.out hb); clear hb hba)
      | (go_at_call 19; (with_reducible refine (Oc.same_eq w12 _ v12 D HBA12.out HBX.out (Nat.le_trans (by rw [← HDL.out]; exact HLE.out) (by decide))).mono ?_); rintro e w13 ⟨rfl, hb⟩; have HB13 := Lib.hid (HB12.out.trans (hb.mono HB12.out.size)); have HR13 := Lib.hid (HR12.out.below hb); obtain ⟨⟨z0, z1, z2, z3, z4, z5, z6⟩, z7, z8, z9, z10, z11, z12, z13⟩ := blk14 (block_kept HE12.out hb); obtain ⟨⟨t0, t1, t2, t3, t4, t5, t6⟩, t7, t8, t9, t10, t11, t12, t13⟩ := blk14 (block_kept HE5b.out HB13.out); have HR1b := Lib.hid (HR1.out.below HB13.out); clear hb)
      | (go_at_call 21; (with_reducible refine (equal_any w13 y y A10 A1 ml.length c10 q c1 ml ml HR13 (Lib.hid rfl) HR1b HQ HML (Lib.hid (same_refl y ml).symm)).mono ?_); rintro e w14 ⟨rfl, hb⟩; have HB14 := Lib.hid (HB13.out.trans (hb.mono HB13.out.size)); clear hb))
    go_ret
    exact ⟨rfl, HBW.out.trans (HB14.out.mono HBW.out.size)⟩
end Go.Proofs.YteahloddjekakaaDoor.Nt
